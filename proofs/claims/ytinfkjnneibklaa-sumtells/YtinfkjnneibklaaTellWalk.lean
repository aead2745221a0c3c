/- The walk of SumTells. -/
import Derived.Test.YtinfkjnneibklaaTellEven
import Derived.Test.YtinfkjnneibklaaTellOdd
import Derived.BigRegion
import Derived.Deep.RegionHeld3
import Derived.Deep.Cut
namespace Go.Proofs.Ytinfkjnneibklaa
open Go.ChangeShapes Go.WideShapes Go.ChangeAt Go.RowKit
set_option linter.unusedVariables false
set_option linter.unusedSimpArgs false

set_option maxRecDepth 1000000 in
set_option maxHeartbeats 1600000 in
theorem tells_short (at_ other by_ : Int) (a : Option Addr) (n0 cap : Nat) (L : List Int) (w : World) (h : Lies .u8 w a n0 cap L) (ho : Oct L) (hm2 : min n0 300 ≤ 1) :
    Calls Try.prog 5 #[.slice a n0 cap, .int .i64 at_, .int .i64 other, .int .i64 by_] w fun e w' => e = .returned (.bool true) ∧ Below w.heap.size w w' := by
  have hcm : n0 ≤ cap ∧ cap ≤ maxLen := ⟨h.2.1, h.2.2.1⟩
  unfold maxLen at hcm
  obtain ⟨hc0, hc1⟩ := hcm
  have b0 : Below w.heap.size w (w.alloc (.cells #[] 5)) := balloc (Below.refl _ _) _
  have L0 := hid ((h.pre (min n0 300) (Nat.min_le_left ..)).below b0)
  have B0 := hid b0
  have O0 := hid (World.ownsRow_made (e := 5) (size := 1) (base := w.heap.size) w #[] 0 (Nat.le_refl _) (by decide) (by simp))
  have HO := hid (oct_take ho (min n0 300))
  have hmin : min n0 300 ≤ 300 := Nat.min_le_right ..
  have hM : (if (300 : Int) < (n0 : Int) then (300 : Int) else (n0 : Int)) = ((min n0 300 : Nat) : Int) := by split <;> omega
  have hmin2 : min n0 300 ≤ n0 := Nat.min_le_left ..
  have HLn : Hid ((L.take (min n0 300)).length = min n0 300) := by have := h.1; rw [Hid, List.length_take]; omega
  generalize min n0 300 = m at *
  generalize L.take m = l at *
  obtain ⟨i0, hi, hz0, hz1, hz2⟩ := info_parts info5
  clear h ho b0
  have HP := hid hm2
  clear hm2
  go_enter Try.func5, Try.ntmps5
  go_wp2_with (at_builtin; refine wpList_append_fresh _ rfl _ _ 27 rfl w.heap.size 5 i0 (.int .u8 0) 1 1 Try.underlying27 hi hz0 hz1 hz2 rfl (by decide) w.heap.size rfl O0.out a m cap (u8s l) rfl ?c1 L0.out.isNil L0.out.cells (ints_oneCell8 _ _) ?c2 ?c3 ?c4 (Nat.le_refl _) ?_)
  case c1 => simp [u8s]; exact HLn.out
  case c2 => unfold maxLen; omega
  case c3 => omega
  case c4 => simp
  intro g cap1 w1 ho1 hg1 hmc1 hcm1 hb1
  unfold maxLen at hcm1
  have O1 := hid (ownAt_of ho1)
  have B1 := hid (B0.out.trans hb1)
  clear ho1 hb1 O0 L0 B0
  have hm2 := HP.out
  clear O1 HO HLn hM
  rcases (show m = 0 ∨ m = 1 by omega) with hm0 | hm0
  · have hd : ((m : Int) % 2 == 1) = false := by simp; omega
    have hd2 : decide ((m : Int) < 2) = true := by simp; omega
    clear hm0
    go_wp2_with fail
    refine (known_any _).mono ?_
    rintro e w15 ⟨rfl, hb15⟩
    have B15 := hid (bthen B1.out hb15)
    clear hb15
    go_wp2_with fail
    go_ret
    exact ⟨rfl, B15.out⟩
  · have hd : ((m : Int) % 2 == 1) = true := by simp; omega
    by_cases hc : cap1 = 1
    · have hd3 : decide (((m - 1 : Nat) : Int) < 2) = true := by simp; omega
      obtain rfl := hm0
      obtain rfl := hc
      go_wp2_with fail
      refine (known_any _).mono ?_
      rintro e w15 ⟨rfl, hb15⟩
      have B15 := hid (bthen B1.out hb15)
      clear hb15
      go_wp2_with fail
      go_ret
      exact ⟨rfl, B15.out⟩
    · obtain rfl := hm0
      go_wp2_with fail
      refine (known_any _).mono ?_
      rintro e w15 ⟨rfl, hb15⟩
      have B15 := hid (bthen B1.out hb15)
      clear hb15
      go_wp2_with fail
      go_ret
      exact ⟨rfl, B15.out⟩

theorem tells_walk (a : Option Addr) (n0 cap : Nat) (L : List Int) (at_ other by_ : Int) (w : World) (h : IsRow .u8 w a n0 cap L) (w1 : (Lit.int .i64 at_).wf = true) (w2 : (Lit.int .i64 other).wf = true) (w3 : (Lit.int .i64 by_).wf = true) :
    Calls Try.prog 5 #[.slice a n0 cap, .int .i64 at_, .int .i64 other, .int .i64 by_] w fun e w' => e = .returned (.bool true) ∧ Below w.heap.size w w' := by
  by_cases hm : min n0 300 ≤ 1
  · exact tells_short at_ other by_ a n0 cap _ w h.lies (oct_take h.oct _) hm
  · by_cases hp : min n0 300 % 2 = 0
    · exact tells_even at_ other by_ a n0 cap _ w h.lies (oct_take h.oct _) (by omega) hp
    · exact tells_odd at_ other by_ a n0 cap _ w h.lies (oct_take h.oct _) (by omega) (by omega)

end Go.Proofs.Ytinfkjnneibklaa
