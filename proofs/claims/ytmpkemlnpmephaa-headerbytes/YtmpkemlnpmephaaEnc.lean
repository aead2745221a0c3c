/- What header's Encode and the laws' known answer: contracts. -/
import Derived.Test.YtmpkemlnpmephaaWri
import Derived.Test.YtmpkemlnpmephaaPas
namespace Go.Proofs.Ytmpkemlnpmephaa
open Go.ChangeShapes Go.WideShapes Go.ChangeAt Go.RowKit
set_option linter.unusedVariables false
set_option linter.unusedSimpArgs false

/-- What Encode answers. -/
def encL (h : Hd) : List Int := if okH h = true then hdrL h else []
theorem encL_le {h : Hd} (k : h.ok) : (encL h).length ≤ 40 := by unfold encL; split; rw [hdrL_len k]; exact Nat.le_refl _; simp

theorem own_mono {w : World} {b b' : Nat} {e : TypeId} {size : Nat} {v : Value} {n : Nat} {xs : List Value} (h : w.ownsRow b e size v n xs) (hb : b' ≤ b) : w.ownsRow b' e size v n xs := by
  obtain ⟨h1, h2 | ⟨g, cap, cur, h3, h4, h5⟩⟩ := h
  · exact ⟨h1, .inl h2⟩
  · exact ⟨h1, .inr ⟨g, cap, cur, h3, Nat.le_trans hb h4, h5⟩⟩

set_option maxHeartbeats 400000 in
theorem encode_any (h : Hd) (k : h.ok) (w : World) :
    Calls Try.prog 7 #[.agg h.cs] w fun e w' => ∃ v, e = .returned (.tuple #[v, .int .i64 (chkV h)]) ∧ w'.ownsRow w.heap.size 5 1 v (encL h).length (u8s (encL h)) ∧ Below w.heap.size w w' := by
  have HR0 := hid (Row.new w 28 h.cs)
  have B0 := hid (balloc (Below.refl w.heap.size w) (.cells h.cs 28))
  cases ho : okH h
  · have HL : Hid (encL h = []) := by simp [Hid, encL, ho]
    have hV : chkV h = 1 := by simp [chkV, ho]
    have HV := hid hV
    rw [HL.out, hV]
    clear ho hV
    go_enter Try.func7, Try.ntmps7
    go_upto_region 1 with fail
    generalize w.alloc (.cells h.cs 28) = w1 at *
    go_wp2_with (refine ld28 _ rfl rfl w.heap.size rfl h k 28 HR0.out ?_)
    refine (check_any h k _).mono ?_
    rintro e w2 ⟨rfl, hb2⟩
    rw [HV.out]
    go_wp2_with fail
    go_ret2
    exact ⟨_, rfl, World.ownsRow_nil _ _ _ _, bthen B0.out hb2⟩
  · have HL : Hid (encL h = hdrL h) := by simp [Hid, encL, ho]
    have hV : chkV h = 0 := by simp [chkV, ho]
    have HV := hid hV
    have HO := hid ho
    rw [HL.out, hdrL_len k, hV]
    clear ho hV
    go_enter Try.func7, Try.ntmps7
    go_upto_region 1 with fail
    generalize w.alloc (.cells h.cs 28) = w1 at *
    go_wp2_with (refine ld28 _ rfl rfl w.heap.size rfl h k 28 HR0.out ?_)
    refine (check_any h k _).mono ?_
    rintro e w2 ⟨rfl, hb2⟩
    rw [HV.out]
    have R2 := hid (HR0.out.below hb2)
    have B2 := hid (bthen B0.out hb2)
    clear hb2
    go_wp2_with (refine ld28 _ rfl rfl w.heap.size rfl h k 28 R2.out ?_)
    refine (written_any h k HO.out _).mono ?_
    rintro e w3 ⟨v3, rfl, hown, hb3⟩
    go_wp2_with fail
    go_ret2
    exact ⟨_, rfl, own_mono hown B2.out.size, bthen B2.out hb3⟩

def h12 : Hd := ⟨1, 2, 0, 0, 0, zeros, zeros⟩
def h1 : Hd := ⟨0, 0, 0, 0, 1, zeros, zeros⟩
theorem h12_ok : h12.ok := ⟨adr_zeros, adr_zeros⟩
theorem h1_ok : h1.ok := ⟨adr_zeros, adr_zeros⟩
theorem h12_yes : okH h12 = true := by decide
theorem h12_take : (hdrL h12).take 4 = [96, 16, 0, 2] := by decide
theorem h1_pas : pasE h1 = 12 := by decide

set_option maxHeartbeats 800000 in
theorem known_any (w : World) : Calls Try.prog 15 #[] w fun e w' => e = .returned (.bool true) ∧ Below w.heap.size w w' := by
  have HV : Hid (chkV h12 = 0) := by rw [Hid, chkV, h12_yes]; rfl
  have HL : Hid (encL h12 = hdrL h12) := by rw [Hid, encL, h12_yes]; rfl
  have e12 : (⟨1, 2, 0, 0, 0, zeros, zeros⟩ : Hd) = h12 := rfl
  have e1 : (⟨0, 0, 0, 0, 1, zeros, zeros⟩ : Hd) = h1 := rfl
  have hz := zhd
  go_enter Try.func15, Try.ntmps15
  go_wp2_with (refine bd28b _ _ rfl rfl 1 2 rfl rfl ?_)
  refine (encode_any h12 h12_ok _).mono ?_
  rintro e w1 ⟨v1, rfl, hown, hb1⟩
  rw [HL.out] at hown
  obtain ⟨l, hl⟩ : ∃ l, l = hdrL h12 := ⟨_, rfl⟩
  have hn : l.length = 40 := by rw [hl]; exact hdrL_len h12_ok
  have HT : Hid (l.take 4 = [96, 16, 0, 2]) := by rw [Hid, hl]; exact h12_take
  rw [← hl] at hown
  obtain ⟨a1, cap1, rfl, hl1, _⟩ := owns_lies hown
  rw [hn] at hl1 ⊢
  rw [HV.out]
  have L1 := hid hl1
  have B1 := hid hb1
  clear hl hn hown hl1 hb1
  go_wp2_with (refine bd28h _ rfl rfl 1 rfl ?_)
  refine (passed_any h1 h1_ok _).mono ?_
  rintro e w2 ⟨rfl, hb2⟩
  have L2 := hid (L1.out.below hb2)
  have B2 := hid (bthen B1.out hb2)
  have kp := pasH_ok h1_ok
  rw [h1_pas]
  generalize pasH h1 = P at *
  clear L1 B1 hb2
  have N3 := hid (Row.new w2 28 Hd.zero.cs)
  have hc := L2.out.2.1
  have hm := L2.out.2.2.1
  unfold maxLen at hm
  have b3 : Below w2.heap.size w2 ((w2.alloc (.cells Hd.zero.cs 28)).setRow w2.heap.size P.cs) := below_setRow' (balloc (Below.refl _ _) _) (Nat.le_refl _) _
  have L3 := hid ((L2.out.below b3).pre 4 (by omega))
  have B3 := hid (bthen B2.out b3)
  clear b3
  go_wp2_with (refine st28 _ _ rfl rfl w2.heap.size P kp rfl rfl 28 Hd.zero Hd.zero_ok N3.out ?_)
  have HZ : Hid (((w2.alloc (.cells Hd.zero.cs 28)).setRow w2.heap.size P.cs).heap.size = w2.heap.size + 1) := by rw [Hid, setRow_size]; simp
  generalize (w2.alloc (.cells Hd.zero.cs 28)).setRow w2.heap.size P.cs = w3 at *
  rw [HT.out] at L3
  have M4 := hid (lies_new .u8 w3 #[.int .u8 96, .int .u8 16, .int .u8 0, .int .u8 2] 5 [96, 16, 0, 2] rfl (by simp))
  have L4 := hid (L3.out.below (balloc (Below.refl _ _) (.cells #[.int .u8 96, .int .u8 16, .int .u8 0, .int .u8 2] 5)))
  have B4 := hid (balloc B3.out (.cells #[.int .u8 96, .int .u8 16, .int .u8 0, .int .u8 2] 5))
  rw [HZ.out] at M4
  generalize w3.alloc (.cells #[.int .u8 96, .int .u8 16, .int .u8 0, .int .u8 2] 5) = w4 at *
  refine (same_any _ _ _ _ _ _ [96, 16, 0, 2] [96, 16, 0, 2] _ L4.out M4.out).mono ?_
  rintro e w5 ⟨rfl, q, rfl⟩
  rw [beq_self_eq_true]
  go_wp2_with fail
  go_ret
  exact ⟨rfl, bdrew B4.out q⟩
end Go.Proofs.Ytmpkemlnpmephaa
