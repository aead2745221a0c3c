/- What Set of package sum answers where all goes well: a contract. -/
import Derived.Test.YtinfkjnneibklaaSt
namespace Go.Proofs.Ytinfkjnneibklaa
open Go.ChangeShapes Go.WideShapes Go.ChangeAt Go.RowKit
set_option linter.unusedVariables false
set_option linter.unusedSimpArgs false

/-- Bytes with a pair set. -/
def set2 (l : List Int) (k : Nat) (x y : Int) : List Int := (l.set k x).set (k + 1) y
/-- The checksum of bytes whose pair is 0. -/
def zeroC (f t : List Int) (next : Int) (l : List Int) (k : Nat) : Int := 65535 - sumV (hdr f t next l.length ++ set2 l k 0 0)
/-- A text with its checksum at a place. -/
def setL (f t : List Int) (next : Int) (l : List Int) (k : Nat) : List Int := set2 (set2 l k 0 0) k (zeroC f t next l k / 256) (zeroC f t next l k % 256)
theorem set2_len (l : List Int) (k : Nat) (x y : Int) : (set2 l k x y).length = l.length := by simp [set2]
theorem oct_set {l : List Int} (h : Oct l) (k : Nat) (x : Int) (hx : 0 ≤ x ∧ x < 256) : Oct (l.set k x) := by
  intro y hy
  rcases List.mem_or_eq_of_mem_set hy with h' | rfl
  · exact h y h'
  · exact hx
theorem set2_oct {l : List Int} (h : Oct l) (k : Nat) (x y : Int) (hx : 0 ≤ x ∧ x < 256) (hy : 0 ≤ y ∧ y < 256) : Oct (set2 l k x y) := oct_set (oct_set h k x hx) (k + 1) y hy
theorem u8s_set (l : List Int) (k : Nat) (x : Int) : (u8s l).set k (.int .u8 x) = u8s (l.set k x) := by simp [u8s, List.map_set]
theorem zeroC_bd (f t : List Int) (next : Int) (l : List Int) (k : Nat) : 0 ≤ zeroC f t next l k ∧ zeroC f t next l k ≤ 65535 := by
  have := sumV_bd (hdr f t next l.length ++ set2 l k 0 0); unfold zeroC; omega

/-- Two stores into a row of the call's own. -/
theorem own_set2 {w : World} {base g n cap : Nat} {l : List Int} (h : w.ownsRow base 5 1 (.slice (some ⟨g, 0, none⟩) n cap) n (u8s l)) (k : Nat) (x y : Int) :
    ((w.setCell ⟨g, k, none⟩ (.int .u8 x)).setCell ⟨g, k + 1, none⟩ (.int .u8 y)).ownsRow base 5 1 (.slice (some ⟨g, 0, none⟩) n cap) n (u8s (set2 l k x y)) ∧ w.grownBy ((w.setCell ⟨g, k, none⟩ (.int .u8 x)).setCell ⟨g, k + 1, none⟩ (.int .u8 y)) (some g) := by
  obtain ⟨h1, g1⟩ := h.stored k (.int .u8 x)
  obtain ⟨h2, g2⟩ := h1.stored (k + 1) (.int .u8 y)
  rw [u8s_set, u8s_set] at h2
  exact ⟨h2, g1.trans g2⟩
theorem own_cells {w : World} {base g n cap : Nat} {l : List Int} (h : w.ownsRow base 5 1 (.slice (some ⟨g, 0, none⟩) n cap) n (u8s l)) (k : Nat) (hk : k < n) : w.cell? ⟨g, k, none⟩ = some (.int .u8 (l.getD k 0)) := by
  have hl : l.length = n := by have := h.1; simpa [u8s] using this
  rw [h.cellAt k (by omega)]; simp [u8s, hl, hk]

theorem Row.kept {w w' : World} {b : Nat} {t : TypeId} {l : List Int} {row : Option Nat} (h : Row w b t l) (hg : w.grownBy w' row) (hne : row ≠ some b) : Row w' b t l := by
  unfold Row at *; rw [hg.block b (Array.getElem?_eq_some_iff.1 h).1 (fun e => hne e.symm)]; exact h

theorem ownsRow_kept {w w' : World} {base : Nat} {e : TypeId} {size : Nat} {v : Value} {n : Nat} {xs : List Value} (h : w.ownsRow base e size v n xs) (hb : Below w.heap.size w w') : w'.ownsRow base e size v n xs := by
  refine ⟨h.1, ?_⟩
  rcases h.2 with hn | ⟨g, cap, cur, rfl, hbb, hgg, rest⟩
  · exact .inl hn
  · exact .inr ⟨g, cap, cur, rfl, hbb, by rw [hb.block g (Array.getElem?_eq_some_iff.1 hgg).1]; exact hgg, rest⟩

set_option maxHeartbeats 1600000 in
theorem set_ok (f t : List Int) (next : Int) (k : Nat) (a : Option Addr) (n cap : Nat) (l : List Int) (w : World) (hf : Adr f) (ht : Adr t) (h : Lies .u8 w a n cap l) (ho : Oct l) (hE : psE next l.length = 0) (hp : k % 2 = 0 ∧ k + 2 ≤ n) :
    Calls Try.prog 16 #[.agg (arr f), .agg (arr t), .int .i64 next, .slice a n cap, .int .i64 k] w fun e w' => ∃ v, e = .returned (.tuple #[v, .int .i64 0]) ∧ w'.ownsRow w.heap.size 5 1 v n (u8s (setL f t next l k)) ∧ Below w.heap.size w w' := by
  obtain ⟨f1, t1, b1, z1⟩ := box2 w 50 f t
  have hn : (0 ≤ next ∧ next ≤ 255) ∧ n ≤ 1280 := by
    have hl := h.1
    unfold psE at hE
    split at hE
    · split at hE
      · omega
      · rename_i h1 h2; exact ⟨h1, by omega⟩
    · omega
  obtain ⟨hn0, hnn⟩ := hn
  have HN0 := hid hn0
  have F1 := hid f1
  have T1 := hid t1
  have B1 := hid b1
  have L1 := hid (h.below b1)
  have HLn := hid h.1
  have HF := hid hf
  have HT := hid ht
  have HO := hid ho
  have HE := hid hE
  have hr : ((k : Int) % 2 != 0) = false := by simp; omega
  have hd : decide ((n : Int) - 2 < (k : Int)) = false := by simp; omega
  clear f1 t1 b1 z1 hf ht ho h hE
  go_enter Try.func16, Try.ntmps16
  go_wp2_with (first
    | (refine ld50 _ rfl rfl w.heap.size rfl 50 f HF.out F1.out ?_)
    | (refine ld50 _ rfl rfl (w.heap.size + 1) rfl 50 t HT.out T1.out ?_))
  generalize (w.alloc (.cells (arr f) 50)).alloc (.cells (arr t) 50) = w1 at *
  refine (pseudo_any f t next a n cap l _ HF.out HT.out L1.out HO.out).mono ?_
  rintro e w2 ⟨rfl, hb2⟩
  have B2 := hid (bthen B1.out hb2)
  have F2 := hid (F1.out.below hb2)
  have T2 := hid (T1.out.below hb2)
  have L2 := hid (L1.out.below hb2)
  rw [HE.out]
  clear hb2 F1 T1 L1 B1
  generalize psV f t next l = V at *
  go_wp2_with fail
  refine (clone_any a n cap l _ L2.out (by omega)).mono ?_
  rintro e w3 ⟨v3, rfl, ho3, hb3⟩
  rw [HLn.out] at ho3
  obtain ⟨g, cap3, cur, rfl, hg3, hgg, -⟩ := ho3.2.resolve_left (by rintro ⟨_, h0⟩; omega)
  have hgw : w.heap.size ≤ g := Nat.le_trans B2.out.size hg3
  have F3 := hid (F2.out.below hb3)
  have T3 := hid (T2.out.below hb3)
  have B3 := hid (bthen B2.out hb3)
  have O3 := hid ho3
  have c30 := own_cells ho3 k (by omega)
  have c31 := own_cells ho3 (k + 1) (by omega)
  have z30 := ho3.frozenAt k
  have z31 := ho3.frozenAt (k + 1)
  have hcap3 : n ≤ cap3 ∧ cap3 ≤ maxLen := ⟨(ho3.2.resolve_left (by rintro ⟨_, h0⟩; omega)).elim (fun g' hh => by obtain ⟨c', _, e, _, _, h5, _⟩ := hh; simp at e; omega), (ho3.2.resolve_left (by rintro ⟨_, h0⟩; omega)).elim (fun g' hh => by obtain ⟨c', _, e, _, _, _, h6, _⟩ := hh; simp at e; omega)⟩
  have hgf := F2.out.lt
  have hgt := T2.out.lt
  obtain ⟨ho4, hg4⟩ := own_set2 ho3 k 0 0
  have F4 := hid (F3.out.kept hg4 (fun e => by simp at e; omega))
  have T4 := hid (T3.out.kept hg4 (fun e => by simp at e; omega))
  have O4 := hid (World.ownsRow.mono ho4 B2.out.size)
  have B4 := hid (bgrown B3.out hg4 hgw)
  clear ho3 hb3 hgg hg3 cur F2 T2 L2 B2 F3 T3 B3 O3 hgf hgt ho4 hg4
  generalize l.getD k 0 = x0 at *
  generalize l.getD (k + 1) 0 = x1 at *
  unfold maxLen at hcap3
  go_wp2_with (first
    | (refine ld50 _ rfl rfl w.heap.size rfl 50 f HF.out F4.out ?_)
    | (refine ld50 _ rfl rfl (w.heap.size + 1) rfl 50 t HT.out T4.out ?_))
  generalize (w3.setCell ⟨g, k, none⟩ (.int .u8 0)).setCell ⟨g, k + 1, none⟩ (.int .u8 0) = w4 at *
  refine (pseudoHeader_any f t next n _ HF.out HT.out HN0.out (by omega)).mono ?_
  rintro e w5 ⟨v5, rfl, ho5, hb5⟩
  obtain ⟨a5, cap5, rfl, hl5, _⟩ := owns_lies ho5
  have HHl := hid (hdr_len f t next n HF.out HT.out)
  have HHo := hid (hdr_oct f t next n HF.out HT.out)
  rw [HHl.out] at hl5 ⊢
  have HZo := hid (set2_oct HO.out k 0 0 (by omega) (by omega))
  have HZl : Hid ((set2 l k 0 0).length = n) := by rw [Hid, set2_len]; exact HLn.out
  have hC := zeroC_bd f t next l k
  have HC : Hid (65535 - sumV (hdr f t next n ++ set2 l k 0 0) = zeroC f t next l k) := by rw [Hid, zeroC, HLn.out]
  have HR : Hid (setL f t next l k = set2 (set2 l k 0 0) k (zeroC f t next l k / 256) (zeroC f t next l k % 256)) := rfl
  generalize hZ : set2 l k 0 0 = Z at *
  clear hZ
  have O5 := hid (ownsRow_kept O4.out hb5)
  have X5 : Hid (Txt.ok w5 ⟨a5, 40, cap5, hdr f t next n⟩) := ⟨hl5, HHo.out⟩
  have hYo : w5.ownsRow w.heap.size 5 1 (.slice (some ⟨g, 0, none⟩) n cap3) Z.length (u8s Z) := by rw [HZl.out]; exact O5.out
  have Y5 : Hid (Txt.ok w5 ⟨some ⟨g, 0, none⟩, n, cap3, Z⟩) := by
    obtain ⟨a', c', he, hl', _⟩ := owns_lies hYo
    rw [HZl.out] at he hl'
    simp at he
    obtain ⟨rfl, rfl⟩ := he
    exact ⟨hl', HZo.out⟩
  have B5 := hid (bthen B4.out hb5)
  clear ho5 hb5 hl5 hYo O4 B4 F4 T4 c30 c31 z30 z31
  have Z6 := hid (texts_two w5 _ _ X5.out Y5.out)
  have b6 : Below w5.heap.size w5 (w5.alloc (.cells #[(⟨a5, 40, cap5, hdr f t next n⟩ : Txt).v, (⟨some ⟨g, 0, none⟩, n, cap3, Z⟩ : Txt).v] 27)) := balloc (Below.refl _ _) _
  have O6 := hid (ownsRow_kept O5.out b6)
  have B6 := hid (bthen B5.out b6)
  simp only [Txt.v] at Z6 B6 O6
  clear b6 X5 Y5 O5 B5
  generalize hdr f t next n = H at *
  go_wp2_with fail
  generalize w5.alloc (.cells #[.slice a5 40 cap5, .slice (some ⟨g, 0, none⟩) n cap3] 27) = w6 at *
  refine (of_any _ _ _ _ _ Z6.out (by simp [bytes, HHl.out, HZl.out]; omega)).mono ?_
  rintro e w7 ⟨rfl, hb7⟩
  have HBy : Hid (bytes [⟨a5, 40, cap5, H⟩, ⟨some ⟨g, 0, none⟩, n, cap3, Z⟩] = H ++ Z) := by simp [Hid, bytes]
  rw [HBy.out, HC.out]
  have o7 := ownsRow_kept O6.out hb7
  have B7 := hid (bthen B6.out hb7)
  have c70 := own_cells o7 k (by omega)
  have c71 := own_cells o7 (k + 1) (by omega)
  have z70 := o7.frozenAt k
  have z71 := o7.frozenAt (k + 1)
  have O7 := hid o7
  clear o7 hb7 Z6 O6 B6
  generalize Z.getD k 0 = y0 at *
  generalize Z.getD (k + 1) 0 = y1 at *
  generalize zeroC f t next l k = C at *
  have hc1 : 0 ≤ C / 256 ∧ C / 256 < 256 := by omega
  go_wp2_with fail
  go_ret2
  obtain ⟨o8, g8⟩ := own_set2 O7.out k (C / 256) (C % 256)
  exact ⟨_, rfl, by rw [HR.out]; exact o8, bgrown B7.out g8 hgw⟩
end Go.Proofs.Ytinfkjnneibklaa
