/- The walk of LolliSteps. -/
import Derived.Test.YtlhlihphhmiflaaWindowWalk
namespace Go.Proofs.Ytlhlihphhmiflaa
open Go.ChangeShapes Go.WideShapes Go.ChangeAt Go.RowKit
set_option linter.unusedVariables false
set_option linter.unusedSimpArgs false

theorem valid_no (a : Int) (h : vB a = false) : (vB 0 && vB a) = false := by simp [h]

theorem steps_far (a n : Int) (h0 : 0 ≤ a) (h : a < 256) (hn : 512 < n) : steps a (256 + (n - 256) % 128) = steps a n := by
  unfold steps
  split <;> (try split) <;> (try split) <;> omega

theorem one_step (a : Int) (h0 : 0 ≤ a) (h : a < 256) : steps a 1 = nxt a := by
  have := walkOn_steps 1 a h0 h
  simpa [walkOn] using this.symm

theorem steps_walk (a n : Int) (w : World) (w0 : (Lit.int .i64 a).wf = true) (w1 : (Lit.int .i64 n).wf = true) :
    Calls Try.prog 4 #[.int .i64 a, .int .i64 n] w fun e w' => e = .returned (.bool true) ∧ Below w.heap.size w w' := by
  have hnb := bounds_i64 w1
  clear w0 w1
  cases hv : vB a
  · have h2 := valid_no a hv
    go_enter Try.func4, Try.ntmps4
    go_wp2_with fail
    refine (next_no a _ hv).mono ?_
    rintro e w1 ⟨rfl, hb1⟩
    go_wp2_with fail
    refine (steps_no a n _ (.inl hv)).mono ?_
    rintro e w2 ⟨rfl, hb2⟩
    go_wp2_with fail
    refine (refValid_any a _).mono ?_
    rintro e w' ⟨rfl, rfl⟩
    go_wp2_with fail
    refine (known_any _).mono ?_
    rintro e w3 ⟨rfl, hb3⟩
    go_wp2_with fail
    refine (valid_two 0 a _).mono ?_
    rintro e w' ⟨rfl, rfl⟩
    go_wp2_with fail
    go_ret
    exact ⟨rfl, bthen hb1 (bthen hb2 (bthen hb3 (by go_grown)))⟩
  · have ha := vB_true hv
    have hb := nxt_bd a ha.1 ha.2
    obtain ⟨n1, -⟩ := up_near a 1 ha.1 ha.2 (by omega) (by omega)
    have h1 := one_step a ha.1 ha.2
    have hvn := vB_mk hb.1 hb.2
    rw [h1] at n1
    have H1 : Hid (steps a 1 = nxt a) := h1
    clear h1
    by_cases hn : n < 0
    · go_enter Try.func4, Try.ntmps4
      go_wp2_with fail
      refine (next_ok a _ hv).mono ?_
      rintro e w1 ⟨rfl, hb1⟩
      rw [H1.out]
      go_wp2_with fail
      refine (steps_no a n _ (.inr hn)).mono ?_
      rintro e w2 ⟨rfl, hb2⟩
      go_wp2_with fail
      refine (refValid_any a _).mono ?_
      rintro e w' ⟨rfl, rfl⟩
      go_wp2_with fail
      refine (refNext_any a _ ha.1 ha.2).mono ?_
      rintro e w' ⟨rfl, rfl⟩
      go_wp2_with fail
      refine (newer_any (nxt a) a _).mono ?_
      rintro e w3 ⟨rfl, hb3⟩
      rw [n1]
      go_wp2_with fail
      refine (valid_two a (nxt a) _).mono ?_
      rintro e w' ⟨rfl, rfl⟩
      go_wp2_with fail
      refine (known_any _).mono ?_
      rintro e w4 ⟨rfl, hb4⟩
      go_wp2_with fail
      go_ret
      exact ⟨rfl, bthen hb1 (bthen hb2 (bthen hb3 (bthen (by go_grown) hb4)))⟩
    · have hn' : decide (n < 0) = false := by simpa using hn
      have hm : ∃ m : Nat, m ≤ 1000 ∧ Hid ((if 512 < n then 256 + (n - 256) % 128 else n) = (m : Int)) ∧ Hid (walkOn m a = steps a n) := by
        by_cases hg : 512 < n
        · refine ⟨(256 + (n - 256) % 128).toNat, by omega, by simp only [Hid, hg, if_true]; omega, ?_⟩
          rw [Hid, walkOn_steps _ a ha.1 ha.2, ← steps_far a n ha.1 ha.2 hg]; congr 1; omega
        · refine ⟨n.toNat, by omega, by simp only [Hid, hg, if_false]; omega, ?_⟩
          rw [Hid, walkOn_steps _ a ha.1 ha.2]; congr 1; omega
      obtain ⟨m, hm, HM, HW⟩ := hm
      go_enter Try.func4, Try.ntmps4
      go_wp2_with fail
      refine (next_ok a _ hv).mono ?_
      rintro e w1 ⟨rfl, hb1⟩
      rw [H1.out]
      go_wp2_with fail
      refine (steps_ok a n _ hv (by omega) (by omega)).mono ?_
      rintro e w2 ⟨rfl, hb2⟩
      go_wp2_with fail
      refine (refValid_any a _).mono ?_
      rintro e w' ⟨rfl, rfl⟩
      go_wp2_with fail
      refine (refNext_any a _ ha.1 ha.2).mono ?_
      rintro e w' ⟨rfl, rfl⟩
      go_wp2_with fail
      refine (newer_any (nxt a) a _).mono ?_
      rintro e w3 ⟨rfl, hb3⟩
      rw [n1]
      go_wp2_with fail
      refine (valid_two a (nxt a) _).mono ?_
      rintro e w' ⟨rfl, rfl⟩
      by_cases hg : 512 < n
      · have hm2 : 256 + (n - 256) % 128 = (m : Int) := by have := HM.out; rwa [if_pos hg] at this
        go_wp2_with fail
        refine (known_any _).mono ?_
        rintro e w4 ⟨rfl, hb4⟩
        go_wp2_with fail
        refine (refSteps_any a m _ ha.1 ha.2 hm).mono ?_
        rintro e w' ⟨rfl, rfl⟩
        rw [HW.out]
        go_wp2_with fail
        go_ret
        exact ⟨rfl, bthen hb1 (bthen hb2 (bthen hb3 (bthen (by go_grown) hb4)))⟩
      · have hm2 : n = (m : Int) := by have := HM.out; rwa [if_neg hg] at this
        have hg' : decide (512 < n) = false := by simpa using hg
        have HM2 : Hid (n = (m : Int)) := hm2
        clear hm2
        go_wp2_with fail
        refine (known_any _).mono ?_
        rintro e w4 ⟨rfl, hb4⟩
        go_wp2_with fail
        rw [HM2.out]
        refine (refSteps_any a m _ ha.1 ha.2 hm).mono ?_
        rintro e w' ⟨rfl, rfl⟩
        rw [HW.out]
        rw [← HM2.out]
        go_wp2_with fail
        go_ret
        exact ⟨rfl, bthen hb1 (bthen hb2 (bthen hb3 (bthen (by go_grown) hb4)))⟩
end Go.Proofs.Ytlhlihphhmiflaa
