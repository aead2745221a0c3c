/- The walk of LolliWindow. -/
import Derived.Test.YtlhlihphhmiflaaLaws
namespace Go.Proofs.Ytlhlihphhmiflaa
open Go.ChangeShapes Go.WideShapes Go.ChangeAt Go.RowKit
set_option linter.unusedVariables false
set_option linter.unusedSimpArgs false

theorem bthen {w w1 w2 : World} (h1 : Below w.heap.size w w1) (h2 : Below w1.heap.size w1 w2) : Below w.heap.size w w2 := h1.trans (h2.mono h1.size)

theorem window_walk (a0 a1 : Int) (w : World) (w0 : (Lit.int .i64 a0).wf = true) (w1 : (Lit.int .i64 a1).wf = true) :
    Calls Try.prog 6 #[.int .i64 a0, .int .i64 a1] w fun e w' => e = .returned (.bool true) ∧ Below w.heap.size w w' := by
  have ha := modded a0 256 (by omega) (by omega)
  have hn := modded a1 40 (by omega) (by omega)
  clear w0 w1
  go_enter Try.func6, Try.ntmps6
  go_wp2_with fail
  generalize wrap64 ((IntKind.u64.wrap a0).tmod 256) = a at *
  generalize wrap64 ((IntKind.u64.wrap a1).tmod 40) = m at *
  have hb := steps_bd a (1 + m) ha.1 ha.2 (by omega)
  refine (steps_ok a (1 + m) _ (vB_mk ha.1 ha.2) (by omega) (by omega)).mono ?_
  rintro e w1 ⟨rfl, hb1⟩
  by_cases h16 : 1 + m ≤ 16
  · obtain ⟨n1, n2⟩ := up_near a (1 + m) ha.1 ha.2 (by omega) h16
    generalize steps a (1 + m) = b at *
    by_cases hs : 128 ≤ a
    all_goals
      by_cases hs2 : b < 128
    all_goals
      go_wp2_with fail
      refine (known_any _).mono ?_
      rintro e w2 ⟨rfl, hb2⟩
      go_wp2_with fail
      refine (newer_any b a _).mono ?_
      rintro e w3 ⟨rfl, hb3⟩
      rw [n1]
      go_wp2_with fail
      refine (newer_any a b _).mono ?_
      rintro e w4 ⟨rfl, hb4⟩
      rw [n2]
      go_wp2_with fail
      go_ret
      exact ⟨rfl, bthen hb1 (bthen hb2 (bthen hb3 hb4))⟩
  · by_cases hs : 128 ≤ a
    · by_cases hs2 : steps a (1 + m) < 128
      · have n1 := up_cross a (1 + m) hs ha.2 (by omega) (by omega) hs2
        generalize steps a (1 + m) = b at *
        go_wp2_with fail
        refine (known_any _).mono ?_
        rintro e w2 ⟨rfl, hb2⟩
        go_wp2_with fail
        refine (newer_any a b _).mono ?_
        rintro e w3 ⟨rfl, hb3⟩
        rw [n1]
        go_wp2_with fail
        go_ret
        exact ⟨rfl, bthen hb1 (bthen hb2 hb3)⟩
      · obtain ⟨n1, n2⟩ := up_far a (1 + m) ha.1 ha.2 (by omega) (by omega) (by omega)
        generalize steps a (1 + m) = b at *
        have hs2' : decide (b < 128) = false := by simpa using hs2
        go_wp2_with fail
        refine (known_any _).mono ?_
        rintro e w2 ⟨rfl, hb2⟩
        go_wp2_with fail
        refine (newer_any b a _).mono ?_
        rintro e w3 ⟨rfl, hb3⟩
        rw [n1]
        go_wp2_with fail
        refine (newer_any a b _).mono ?_
        rintro e w4 ⟨rfl, hb4⟩
        rw [n2]
        go_wp2_with fail
        go_ret
        exact ⟨rfl, bthen hb1 (bthen hb2 (bthen hb3 hb4))⟩
    · have hs' : decide (128 ≤ a) = false := by simpa using hs
      obtain ⟨n1, n2⟩ := up_far a (1 + m) ha.1 ha.2 (by omega) (by omega) (by omega)
      generalize steps a (1 + m) = b at *
      go_wp2_with fail
      refine (known_any _).mono ?_
      rintro e w2 ⟨rfl, hb2⟩
      go_wp2_with fail
      refine (newer_any b a _).mono ?_
      rintro e w3 ⟨rfl, hb3⟩
      rw [n1]
      go_wp2_with fail
      refine (newer_any a b _).mono ?_
      rintro e w4 ⟨rfl, hb4⟩
      rw [n2]
      go_wp2_with fail
      go_ret
      exact ⟨rfl, bthen hb1 (bthen hb2 (bthen hb3 hb4))⟩
end Go.Proofs.Ytlhlihphhmiflaa
