/- The walk of LolliAdds, and plain arithmetic of steps. -/
import Derived.Test.YtlhlihphhmiflaaRefs
namespace Go.Proofs.Ytlhlihphhmiflaa
open Go.ChangeShapes Go.WideShapes Go.ChangeAt Go.RowKit
set_option linter.unusedVariables false
set_option linter.unusedSimpArgs false

theorem modded (a m : Int) (h0 : 0 < m) (h : m ≤ 1000000) : 0 ≤ wrap64 ((IntKind.u64.wrap a).tmod m) ∧ wrap64 ((IntKind.u64.wrap a).tmod m) < m := by
  have hw : 0 ≤ IntKind.u64.wrap a := by rw [IntKind.wrap_u64]; omega
  rw [Int.tmod_eq_emod_of_nonneg hw]
  have h1 := Int.emod_nonneg (IntKind.u64.wrap a) (by omega : m ≠ 0)
  have h2 := Int.emod_lt_of_pos (IntKind.u64.wrap a) h0
  rw [IntWalk.wrap64_in _ ⟨by omega, by omega⟩]
  exact ⟨h1, h2⟩

theorem steps_bd (a n : Int) (h0 : 0 ≤ a) (h : a < 256) (hn : 0 ≤ n) : 0 ≤ steps a n ∧ steps a n < 256 := by
  unfold steps; split <;> (try split) <;> omega

theorem steps_add (a n m : Int) (h0 : 0 ≤ a) (h : a < 256) (hn : 0 ≤ n) (hm : 0 ≤ m) : steps (steps a n) m = steps a (n + m) := by
  unfold steps
  split <;> (try split) <;> (try split) <;> (try split) <;> (try split) <;> omega

theorem vB_mk {a : Int} (h0 : 0 ≤ a) (h : a < 256) : vB a = true := by simp [vB, h0, h]

theorem adds_walk (a0 a1 a2 : Int) (w : World) (w0 : (Lit.int .i64 a0).wf = true) (w1 : (Lit.int .i64 a1).wf = true) (w2 : (Lit.int .i64 a2).wf = true) :
    Calls Try.prog 7 #[.int .i64 a0, .int .i64 a1, .int .i64 a2] w fun e w' => e = .returned (.bool true) ∧ Below w.heap.size w w' := by
  have ha := modded a0 256 (by omega) (by omega)
  have hn := modded a1 100000 (by omega) (by omega)
  have hm := modded a2 100000 (by omega) (by omega)
  clear w0 w1 w2
  go_enter Try.func7, Try.ntmps7
  go_wp2_with fail
  generalize wrap64 ((IntKind.u64.wrap a0).tmod 256) = a at *
  generalize wrap64 ((IntKind.u64.wrap a1).tmod 100000) = n at *
  generalize wrap64 ((IntKind.u64.wrap a2).tmod 100000) = m at *
  have hb := steps_bd a n ha.1 ha.2 hn.1
  have HA : Hid (steps (steps a n) m = steps a (n + m)) := steps_add a n m ha.1 ha.2 hn.1 hm.1
  refine (steps_ok a n _ (vB_mk ha.1 ha.2) (by omega) (by omega)).mono ?_
  rintro e w1 ⟨rfl, hb1⟩
  generalize hs : steps a n = b at *
  clear hs
  go_wp2_with fail
  refine (steps_ok b m _ (vB_mk hb.1 hb.2) (by omega) (by omega)).mono ?_
  rintro e w2 ⟨rfl, hb2⟩
  rw [HA.out]
  clear HA
  go_wp2_with fail
  refine (steps_ok a (n + m) _ (vB_mk ha.1 ha.2) (by omega) (by omega)).mono ?_
  rintro e w3 ⟨rfl, hb3⟩
  go_wp2_with (go_at_call 10; refine (known_any _).mono ?_; rintro e w4 ⟨rfl, hb4⟩)
  go_ret
  exact ⟨rfl, hb1.trans ((hb2.mono hb1.size).trans ((hb3.mono (Nat.le_trans hb1.size hb2.size)).trans (hb4.mono (Nat.le_trans hb1.size (Nat.le_trans hb2.size hb3.size)))))⟩
end Go.Proofs.Ytlhlihphhmiflaa
