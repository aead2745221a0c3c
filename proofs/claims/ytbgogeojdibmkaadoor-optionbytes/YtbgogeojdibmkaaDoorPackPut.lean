/- What pack.Put answers: contracts. -/
import Derived.Test.YtbgogeojdibmkaaDoorPackNums
namespace Go.Proofs.YtbgogeojdibmkaaDoor
open Go.ChangeShapes Go.WideShapes Go.ChangeAt Go.RowKit
set_option linter.unusedVariables false
set_option linter.unusedSimpArgs false

/-- All numbers' bytes, one behind the other. -/
def bytesOf (size : Int) (l : List Int) : List Int := l.flatMap (digs size)

theorem digs_length (size n : Int) (h : sizeB size = true) : (digs size n).length = size.toNat := by
  rcases sizeB_cases h with rfl | rfl | rfl <;> rfl
theorem digs_oct (size n : Int) : Oct (digs size n) := by
  intro x hx
  unfold digs at hx
  split at hx <;> split at hx <;> simp at hx <;> (repeat' (first | (rcases hx with rfl | hx) | subst hx)) <;> omega
theorem bytesOf_snoc (size : Int) (l : List Int) (k : Nat) (h : k < l.length) : bytesOf size (l.take (k + 1)) = bytesOf size (l.take k) ++ digs size (l.getD k 0) := by
  rw [bytesOf, bytesOf, List.take_succ_eq_append_getElem h, List.flatMap_append]; congr 1; simp [h]
theorem bytesOf_length (size : Int) (l : List Int) (h : sizeB size = true) : (bytesOf size l).length = size.toNat * l.length := by
  induction l with
  | nil => simp [bytesOf]
  | cons x l ih => simp only [bytesOf, List.flatMap_cons, List.length_append] at ih ⊢; rw [ih, digs_length size x h]; simp [Nat.mul_add, Nat.add_comm]
theorem bytesOf_oct (size : Int) (l : List Int) : Oct (bytesOf size l) := by
  intro x hx
  simp [bytesOf, List.mem_flatMap] at hx
  obtain ⟨y, _, hx⟩ := hx
  exact digs_oct size y x hx
theorem Oct.app {l m : List Int} (h : Oct l) (k : Oct m) : Oct (l ++ m) := by
  intro x hx; rcases List.mem_append.1 hx with h' | h'
  · exact h x h'
  · exact k x h'

theorem Lies.isNil {kd : IntKind} {w : World} {a : Option Addr} {len cap : Nat} {l : List Int} (h : Lies kd w a len cap l) : a = none → len = 0 ∧ cap = 0 := fun ha => by
  have := h.2.2.2.1 ha; have := h.2.1; omega
theorem Lies.cells {kd : IntKind} {w : World} {a : Option Addr} {len cap : Nat} {l : List Int} (h : Lies kd w a len cap l) : ∀ ad, a = some ad → ∀ j u, (l.map (Value.int kd))[j]? = some u → w.cell? (ad.add j) = some u := by
  intro ad ha j u hj
  have hj' : j < l.length := by have := (List.getElem?_eq_some_iff.1 hj).1; simpa using this
  obtain ⟨b, off, he, hc⟩ := h.2.2.2.2 j (by rw [← h.1]; exact hj')
  rw [ha] at he
  obtain rfl := Option.some.inj he
  rw [Addr.add_lit, hc]
  simp [List.getElem?_eq_getElem hj'] at hj
  simp [hj', hj]
theorem ints_oneCell8 (l : List Int) (kd : IntKind) : ∀ u ∈ l.map (Value.int kd), u.oneCell' = true := by
  intro u hu; simp at hu; obtain ⟨x, _, rfl⟩ := hu; rfl
/-- What was there stays as it was. -/
theorem Lies.below {kd : IntKind} {w w' : World} {a : Option Addr} {len cap : Nat} {l : List Int} (h : Lies kd w a len cap l) (hb : Below w.heap.size w w') : Lies kd w' a len cap l := by
  refine ⟨h.1, h.2.1, h.2.2.1, h.2.2.2.1, fun k hk => ?_⟩
  obtain ⟨b, off, he, hc⟩ := h.2.2.2.2 k hk
  exact ⟨b, off, he, (hb.cell (p := ⟨b, off + k, none⟩) (World.block_lt_of_cell? w _ hc)).trans hc⟩

theorem put_no (ab al : Option Addr) (lb cb ll cl : Nat) (size : Int) (l : List Int) (w : World) (hl : Lies .i64 w al ll cl l) (hf : fitsB size l = false) :
    Calls Tryd.prog 46 #[.slice ab lb cb, .int .i64 size, .slice al ll cl] w fun e w' => e = .returned (.tuple #[.slice none 0 0, .int .i64 1]) ∧ w' = w := by
  have HL : Hid _ := hl
  clear hl
  go_enter Tryd.func46, Tryd.ntmps46
  go_wp2_with (go_at_call 62; refine (fits_any _ _ _ _ l _ HL.out).mono ?_; rintro e w ⟨rfl, rfl⟩)
  go_ret2
  exact ⟨rfl, rfl⟩

theorem put_long (ab al : Option Addr) (lb cb ll cl : Nat) (size : Int) (l : List Int) (w : World) (hl : Lies .i64 w al ll cl l) (hf : fitsB size l = true) (hlb : lb ≤ 1000000) (hll : ll ≤ 1000000) (hlong : 1280 < lb + size.toNat * ll) :
    Calls Tryd.prog 46 #[.slice ab lb cb, .int .i64 size, .slice al ll cl] w fun e w' => e = .returned (.tuple #[.slice none 0 0, .int .i64 2]) ∧ w' = w := by
  have HL : Hid _ := hl
  clear hl
  have hz : sizeB size = true := by simp [fitsB] at hf; exact hf.1
  rcases sizeB_cases hz with rfl | rfl | rfl
  all_goals
    simp at hlong
    have HF : Hid _ := hf
    have hlong' : (1280 : Int) < _ := Int.ofNat_lt.2 hlong
    clear hz
    go_enter Tryd.func46, Tryd.ntmps46
    go_wp2_with (go_at_call 62; refine (fits_any _ _ _ _ l _ HL.out).mono ?_; rintro e w ⟨rfl, rfl⟩; rw [HF.out])
    all_goals (try (exfalso; omega))
    go_ret2
    exact ⟨rfl, rfl⟩

theorem ownsRow_u8 {w : World} {base n m : Nat} {v : Value} {xs ys : List Value} (h : w.ownsRow base 5 1 v n xs) (hn : n = m) (hx : xs = ys) : w.ownsRow base 5 1 v m ys := by subst hn; subst hx; exact h

set_option maxHeartbeats 800000 in
theorem put_ok (ab al : Option Addr) (lb cb ll cl : Nat) (size : Int) (bs l : List Int) (w : World) (hb : Lies .u8 w ab lb cb bs) (hl : Lies .i64 w al ll cl l) (hf : fitsB size l = true) (hlb : lb + size.toNat * ll ≤ 1280) :
    Calls Tryd.prog 46 #[.slice ab lb cb, .int .i64 size, .slice al ll cl] w fun e w' => ∃ v, e = .returned (.tuple #[v, .int .i64 0]) ∧
      w'.ownsRow w.heap.size 5 1 v (bs ++ bytesOf size l).length (u8s (bs ++ bytesOf size l)) ∧ Below w.heap.size w w' := by
  have hz : sizeB size = true := by simp [fitsB] at hf; exact hf.1
  have hall : ∀ x ∈ l, okB size x = true := by simp [fitsB, hz] at hf; exact hf
  obtain ⟨i0, hi, hz0, hz1, hz2⟩ := info_parts info5
  have HB : Hid (Lies .u8 w ab lb cb bs) := hb
  have HL : Hid (Lies .i64 w al ll cl l) := hl
  have HA : Hid _ := hall
  have HZ : Hid _ := hz
  have hmul : (size * ll : Int) = ((size.toNat * ll : Nat) : Int) := by
    have : (size.toNat : Int) = size := by rcases sizeB_cases hz with rfl | rfl | rfl <;> rfl
    rw [Int.natCast_mul, this]
  have hs14 : 1 ≤ size ∧ size ≤ 4 := by rcases sizeB_cases hz with rfl | rfl | rfl <;> omega
  have hll : ll ≤ 1280 := by
    have : 1 * ll ≤ size.toNat * ll := Nat.mul_le_mul_right _ (by omega)
    omega
  clear hb hl hall hz
  have HQ : Hid (∀ k, k ≤ ll → (bs ++ bytesOf size (l.take k)).length ≤ lb + size.toNat * ll) := by
    intro k hk
    rw [List.length_append, bytesOf_length _ _ HZ.out, HB.out.1]
    have : size.toNat * (l.take k).length ≤ size.toNat * ll := Nat.mul_le_mul_left _ (by simp; omega)
    omega
  generalize size.toNat * ll = q at *
  have hdec : decide ((1280 : Int) < (lb : Int) + (q : Int)) = false := by simp; omega
  go_enter Tryd.func46, Tryd.ntmps46
  go_wp2_with (first | (go_at_call 62; refine (fits_any _ _ _ _ l _ HL.out).mono ?_; rintro e w ⟨rfl, rfl⟩; rw [hf]) | (at_make; refine wpList_make_own _ rfl _ _ 26 rfl w.heap.size 5 i0 (.int .u8 0) 1 Tryd.underlying26 hi hz0 hz1 .i64 .i64 _ (lb + q) rfl rfl (by omega) ?b1 ?b2 ?b3 ?_))
  case b1 => rw [hz2]; omega
  case b2 => unfold maxLen; omega
  case b3 => exact Nat.le_refl _
  intro w1 hown1 hg1
  have hb1 : Below w.heap.size w w1 := Below.grown (Below.refl _ _) hg1 (Nat.le_refl _) (fun k hk => by cases hk)
  have hl1 := HB.out.below hb1
  go_wp2_with (at_builtin; refine wpList_append_fits_any _ rfl _ _ 26 rfl w.heap.size 5 i0 1 Tryd.underlying26 hi hz1 w.heap.size 0 (lb + q) [] rfl hown1 ab lb cb (u8s bs) rfl ?c1 hl1.isNil hl1.cells (ints_oneCell8 _ _) ?c2 ?_)
  case c1 => simp [u8s, hl1.1]
  case c2 => omega
  intro w2 hown2 hg2
  have hb2 : Below w.heap.size w w2 := Below.grown hb1 hg2 hb1.size (fun k hk => by cases hk; exact Nat.le_refl _)
  have HO2 : Hid (w2.ownsRow w.heap.size 5 1 (.slice (some ⟨w.heap.size, 0, none⟩) lb (lb + q)) (bs ++ bytesOf size (l.take 0)).length (u8s (bs ++ bytesOf size (l.take 0)))) := ownsRow_u8 hown2 (by simp [bytesOf, hl1.1]) (by simp [bytesOf])
  clear hown1 hg1 hb1 hl1 hown2 hg2
  go_wp2
  go_loopw [9, 31] (fun v i wr => ∃ k : Nat, k ≤ ll ∧ i = .int .i64 k ∧ wr.ownsRow w.heap.size 5 1 v (bs ++ bytesOf size (l.take k)).length (u8s (bs ++ bytesOf size (l.take k))) ∧ Below w.heap.size w wr) (fun _ i _ => ll - (intOf i).toNat)
  case atStart => exact ⟨0, Nat.zero_le _, rfl, by simpa using HO2.out, hb2⟩
  case round =>
    obtain ⟨k, hk, rfl, hown, hbr⟩ := hrel
    by_cases hlt : k < ll
    · obtain ⟨b, off, rfl, hcell0⟩ := HL.out.2.2.2.2 k hlt
      have hcell : wr.cell? ⟨b, off + k, none⟩ = _ := (hbr.cell (p := ⟨b, off + k, none⟩) (World.block_lt_of_cell? w _ hcell0)).trans hcell0
      clear hcell0
      have hkl : k < l.length := by rw [HL.out.1]; exact hlt
      have hok : okB size (l.getD k 0) = true := HA.out _ (by simp [hkl])
      have HS : Hid _ := bytesOf_snoc size l k hkl
      have hln := HQ.out k hk
      generalize l.getD k 0 = x at *
      generalize bytesOf size (l.take k) = B at *
      clear hkl
      go_wp2_with (go_at_call 63; refine (appendNumber_any size x _ _ w.heap.size _ _ HZ.out hbr.size (by omega) hown hok).mono ?_; rintro e w3 ⟨v3, rfl, hown3, hb3⟩)
      go_roundw
      case rel => exact ⟨k + 1, by omega, by go_num, ownsRow_u8 hown3 (by rw [HS.out]; simp; omega) (by rw [HS.out]; simp [u8s]), hbr.trans hb3⟩
      case measure => simp [intOf]; omega
    · obtain rfl : k = ll := by omega
      go_wp2
      go_ret2
      rw [List.take_of_length_le (by rw [HL.out.1]; exact Nat.le_refl _)] at hown
      exact ⟨_, rfl, hown, hbr⟩
end Go.Proofs.YtbgogeojdibmkaaDoor
