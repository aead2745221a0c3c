/- The walk of LolliCompares. -/
import Derived.Test.YtlhlihphhmiflaaWindowWalk
namespace Go.Proofs.Ytlhlihphhmiflaa
open Go.ChangeShapes Go.WideShapes Go.ChangeAt Go.RowKit
set_option linter.unusedVariables false
set_option linter.unusedSimpArgs false

theorem newer_none (a b : Int) (h : (vB a && vB b) = false) : newerB a b = false := by simp only [newerB, h]; simp

set_option maxHeartbeats 800000 in
theorem compares_walk (a b : Int) (w : World) (w0 : (Lit.int .i64 a).wf = true) (w1 : (Lit.int .i64 b).wf = true) :
    Calls Try.prog 3 #[.int .i64 a, .int .i64 b] w fun e w' => e = .returned (.bool true) ∧ Below w.heap.size w w' := by
  clear w0 w1
  by_cases hv : (vB a && vB b) = true
  · have hv2 := hv
    simp only [Bool.and_eq_true] at hv2
    obtain ⟨va, vb⟩ := hv2
    have ha := vB_true va
    have hb := vB_true vb
    have hr := rel_range a b
    have hf := rel_flip a b ha.1 ha.2 hb.1 hb.2
    have hn1 := newer_eq a b ha.1 ha.2 hb.1 hb.2
    have hn2 := newer_eq b a hb.1 hb.2 ha.1 ha.2
    rw [hf] at hn2
    generalize hra : rel a b = r at *
    have H1 : Hid (rel a b = r) := hra
    have H2 : Hid (rel b a = _) := hf
    have H3 : Hid (newerB a b = _) := hn1
    have H4 : Hid (newerB b a = _) := hn2
    clear hra hf hn1 hn2 hv
    obtain rfl | rfl | rfl | rfl : r = 0 ∨ r = 1 ∨ r = 2 ∨ r = 3 := by omega
    all_goals
      clear hr
      go_enter Try.func3, Try.ntmps3
      go_wp2_with fail
      refine (compare_ok a b _ va vb).mono ?_
      rintro e w1 ⟨rfl, hb1⟩
      rw [H1.out]
      go_wp2_with fail
      refine (compare_ok b a _ vb va).mono ?_
      rintro e w2 ⟨rfl, hb2⟩
      rw [H2.out]
      go_wp2_with fail
      refine (refValid_any a _).mono ?_
      rintro e w2 ⟨rfl, rfl⟩
      go_wp2_with fail
      refine (refValid_any b _).mono ?_
      rintro e w2 ⟨rfl, rfl⟩
      go_wp2_with fail
      refine (refCompare_any a b _ ha.1 ha.2 hb.1 hb.2).mono ?_
      rintro e w2 ⟨rfl, rfl⟩
      rw [H1.out]
      go_wp2_with fail
      refine (known_any _).mono ?_
      rintro e w3 ⟨rfl, hb3⟩
      have hc0 : w3.cell? ⟨w2.heap.size, 0, none⟩ = some (.int .i64 0) := (hb3.cell (p := ⟨w2.heap.size, 0, none⟩) (by simp)).trans (by simp)
      have hc1 : w3.cell? ⟨w2.heap.size, 1, none⟩ = some (.int .i64 2) := (hb3.cell (p := ⟨w2.heap.size, 1, none⟩) (by simp)).trans (by simp)
      have hc2 : w3.cell? ⟨w2.heap.size, 2, none⟩ = some (.int .i64 1) := (hb3.cell (p := ⟨w2.heap.size, 2, none⟩) (by simp)).trans (by simp)
      have hc3 : w3.cell? ⟨w2.heap.size, 3, none⟩ = some (.int .i64 3) := (hb3.cell (p := ⟨w2.heap.size, 3, none⟩) (by simp)).trans (by simp)
      go_wp2_with fail
      refine (newer_any a b _).mono ?_
      rintro e w4 ⟨rfl, hb4⟩
      rw [H3.out]
      go_wp2_with fail
      refine (newer_any a b _).mono ?_
      rintro e w5 ⟨rfl, hb5⟩
      rw [H3.out]
      go_wp2_with fail
      try (refine (newer_any b a _).mono ?_; rintro e w6 ⟨rfl, hb6⟩; rw [H4.out]; go_wp2_with fail)
      go_ret
      exact ⟨rfl, bthen hb1 (bthen hb2 (bthen (bthen (by go_grown) hb3) (by first | exact bthen hb4 hb5 | exact bthen hb4 (bthen hb5 hb6))))⟩
  · have hv2 : (vB a && vB b) = false := by simpa using hv
    have hv3 : (vB b && vB a) = false := by rw [Bool.and_comm]; exact hv2
    have hn := newer_none a b hv2
    clear hv
    cases va : vB a
    · go_enter Try.func3, Try.ntmps3
      go_wp2_with fail
      refine (compare_no a b _ hv2).mono ?_
      rintro e w1 ⟨rfl, hb1⟩
      go_wp2_with fail
      refine (compare_no b a _ hv3).mono ?_
      rintro e w2 ⟨rfl, hb2⟩
      go_wp2_with fail
      refine (refValid_any a _).mono ?_
      rintro e w2 ⟨rfl, rfl⟩
      go_wp2_with fail
      refine (known_any _).mono ?_
      rintro e w3 ⟨rfl, hb3⟩
      go_wp2_with fail
      refine (newer_any a b _).mono ?_
      rintro e w4 ⟨rfl, hb4⟩
      rw [hn]
      go_wp2_with fail
      go_ret
      exact ⟨rfl, bthen hb1 (bthen hb2 (bthen hb3 hb4))⟩
    · have vb : vB b = false := by simpa [va] using hv2
      go_enter Try.func3, Try.ntmps3
      go_wp2_with fail
      refine (compare_no a b _ hv2).mono ?_
      rintro e w1 ⟨rfl, hb1⟩
      go_wp2_with fail
      refine (compare_no b a _ hv3).mono ?_
      rintro e w2 ⟨rfl, hb2⟩
      go_wp2_with fail
      refine (refValid_any a _).mono ?_
      rintro e w2 ⟨rfl, rfl⟩
      go_wp2_with fail
      refine (refValid_any b _).mono ?_
      rintro e w2 ⟨rfl, rfl⟩
      go_wp2_with fail
      refine (known_any _).mono ?_
      rintro e w3 ⟨rfl, hb3⟩
      go_wp2_with fail
      refine (newer_any a b _).mono ?_
      rintro e w4 ⟨rfl, hb4⟩
      rw [hn]
      go_wp2_with fail
      go_ret
      exact ⟨rfl, bthen hb1 (bthen hb2 (bthen hb3 hb4))⟩
end Go.Proofs.Ytlhlihphhmiflaa
