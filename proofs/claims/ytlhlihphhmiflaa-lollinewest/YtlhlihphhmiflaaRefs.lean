/- What the document's own answers of layer 1 are (package rivuletref01), and that the chapter's examples hold (known): contracts, one a function. -/
import Derived.Test.YtlhlihphhmiflaaCalls
namespace Go.Proofs.Ytlhlihphhmiflaa
open Go.ChangeShapes Go.WideShapes Go.ChangeAt Go.RowKit
set_option linter.unusedVariables false
set_option linter.unusedSimpArgs false

theorem known_any (w : World) : Calls Try.prog 10 #[] w fun e w' => e = .returned (.bool true) ∧ Below w.heap.size w w' := by
  go_enter Try.func10, Try.ntmps10
  go_wp2_with fail
  refine (compare_ok 240 5 _ (by decide) (by decide)).mono ?_
  rintro e w1 ⟨rfl, hb1⟩
  rw [show rel 240 5 = 2 by decide]
  go_wp2_with fail
  refine (compare_ok 250 5 _ (by decide) (by decide)).mono ?_
  rintro e w2 ⟨rfl, hb2⟩
  rw [show rel 250 5 = 1 by decide]
  go_wp2_with fail
  refine (compare_ok 127 2 _ (by decide) (by decide)).mono ?_
  rintro e w3 ⟨rfl, hb3⟩
  rw [show rel 127 2 = 1 by decide]
  go_wp2_with fail
  refine (compare_ok 10 60 _ (by decide) (by decide)).mono ?_
  rintro e w4 ⟨rfl, hb4⟩
  rw [show rel 10 60 = 3 by decide]
  go_wp2_with fail
  go_ret
  exact ⟨rfl, hb1.trans ((hb2.mono hb1.size).trans ((hb3.mono (Nat.le_trans hb1.size hb2.size)).trans (hb4.mono (Nat.le_trans hb1.size (Nat.le_trans hb2.size hb3.size)))))⟩

theorem refValid_any (a : Int) (w : World) : Calls Try.prog 9 #[.int .i64 a] w fun e w' => e = .returned (.bool (vB a)) ∧ w' = w := by
  by_cases h1 : 0 ≤ a
  · by_cases h2 : a ≤ 255
    all_goals
      go_enter Try.func9, Try.ntmps9
      go_wp2
      go_ret
      exact ⟨ret_bool (by simp [vB]; omega), rfl⟩
  · go_enter Try.func9, Try.ntmps9
    go_wp2
    go_ret
    exact ⟨ret_bool (by simp [vB]; omega), rfl⟩

/-- The next one, as the document says it. -/
def nxt (a : Int) : Int := if a + 1 = 128 ∨ a + 1 = 256 then 0 else a + 1

theorem nxt_bd (a : Int) (h0 : 0 ≤ a) (h : a < 256) : 0 ≤ nxt a ∧ nxt a < 256 := by unfold nxt; split <;> omega

theorem refNext_any (a : Int) (w : World) (h0 : 0 ≤ a) (h : a < 256) : Calls Try.prog 16 #[.int .i64 a] w fun e w' => e = .returned (.int .i64 (nxt a)) ∧ w' = w := by
  by_cases h1 : a + 1 = 128
  · have g1 : (a + 1 == 128) = true := by simp [h1]
    have H : Hid (nxt a = 0) := by simp [Hid, nxt, h1]
    clear h1
    go_enter Try.func16, Try.ntmps16
    go_wp2
    go_ret
    exact ⟨ret_int H.out.symm, rfl⟩
  · have g1 : (a + 1 == 128) = false := by simp [h1]
    by_cases h2 : a + 1 = 256
    · have g2 : (a + 1 == 256) = true := by simp [h2]
      have H : Hid (nxt a = 0) := by simp [Hid, nxt, h2]
      clear h1 h2
      go_enter Try.func16, Try.ntmps16
      go_wp2
      go_ret
      exact ⟨ret_int H.out.symm, rfl⟩
    · have g2 : (a + 1 == 256) = false := by simp [h2]
      have H : Hid (nxt a = a + 1) := by simp [Hid, nxt, h1, h2]
      clear h1 h2
      go_enter Try.func16, Try.ntmps16
      go_wp2
      go_ret
      exact ⟨ret_int H.out.symm, rfl⟩

/-- So many steps on, one by one. -/
def walkOn : Nat → Int → Int
  | 0, a => a
  | n + 1, a => nxt (walkOn n a)

theorem walkOn_bd (n : Nat) (a : Int) (h0 : 0 ≤ a) (h : a < 256) : 0 ≤ walkOn n a ∧ walkOn n a < 256 := by
  induction n with
  | zero => exact ⟨h0, h⟩
  | succ n ih => exact nxt_bd _ ih.1 ih.2

set_option maxHeartbeats 400000 in
theorem refSteps_any (a : Int) (n : Nat) (w : World) (h0 : 0 ≤ a) (h : a < 256) (hn : n ≤ 1000) :
    Calls Try.prog 17 #[.int .i64 a, .int .i64 n] w fun e w' => e = .returned (.int .i64 (walkOn n a)) ∧ w' = w := by
  go_enter Try.func17, Try.ntmps17
  go_wp2
  go_loopw [0, 5] (fun x i wr => wr = w ∧ ∃ k : Nat, k ≤ n ∧ i = .int .i64 k ∧ ∃ c : Int, x = .int .i64 c ∧ Hid (c = walkOn k a)) (fun _ i _ => n - (intOf i).toNat)
  case atStart => exact ⟨rfl, 0, Nat.zero_le _, rfl, a, rfl, rfl⟩
  case round =>
    obtain ⟨rfl, k, hk, rfl, c, rfl, hc⟩ := hrel
    have hcb : 0 ≤ c ∧ c < 256 := by rw [hc.out]; exact walkOn_bd k a h0 h
    by_cases hlt : k < n
    · go_wp2_with (first | (go_at_call 16; refine (refNext_any c _ hcb.1 hcb.2).mono ?_; rintro e w1 ⟨rfl, rfl⟩))
      go_roundw
      case rel => exact ⟨trivial, k + 1, by omega, by go_num, nxt c, rfl, by show _ = nxt (walkOn k a); rw [hc.out]⟩
      case measure => simp [intOf]; omega
    · obtain rfl : k = n := by omega
      go_wp2
      go_ret
      exact ⟨ret_int hc.out, rfl⟩

theorem steps_succ (a : Int) (n : Nat) (h0 : 0 ≤ a) (h : a < 256) : steps a ((n : Int) + 1) = nxt (steps a n) := by
  unfold steps nxt
  split <;> (try split) <;> (try split) <;> (try split) <;> omega

theorem walkOn_steps (n : Nat) (a : Int) (h0 : 0 ≤ a) (h : a < 256) : walkOn n a = steps a n := by
  induction n with
  | zero => unfold steps walkOn; split <;> (try split) <;> simp <;> omega
  | succ n ih => rw [walkOn, ih, ← steps_succ a n h0 h]; rfl

/-- Is b up to 16 steps on? -/
def reachB (a b : Int) : Bool := (List.range 16).any fun i => walkOn (i + 1) a == b

theorem reach_win (a b : Int) (ha0 : 0 ≤ a) (ha : a < 256) (hb0 : 0 ≤ b) (hb : b < 256) : reachB a b = inWin (far a b) := by
  rw [Bool.eq_iff_iff]
  simp only [reachB, List.any_eq_true, List.mem_range, beq_iff_eq, inWin, decide_eq_true_eq]
  constructor
  · rintro ⟨i, hi, rfl⟩
    rw [walkOn_steps _ a ha0 ha]
    unfold steps far
    split <;> (try split) <;> (try split) <;> (try split) <;> omega
  · rintro ⟨h1, h2⟩
    refine ⟨(far a b).toNat - 1, by omega, ?_⟩
    rw [walkOn_steps _ a ha0 ha]
    have e : (((far a b).toNat - 1 + 1 : Nat) : Int) = far a b := by omega
    rw [e]
    revert h1 h2
    clear e
    unfold steps far
    split <;> (try split) <;> (try split) <;> intros <;> omega

theorem any_range_succ (p : Nat → Bool) (k : Nat) : (List.range (k + 1)).any p = ((List.range k).any p || p k) := by
  rw [List.range_succ, List.any_append]; simp

set_option maxHeartbeats 400000 in
theorem reach_any (a b : Int) (w : World) (h0 : 0 ≤ a) (h : a < 256) :
    Calls Try.prog 20 #[.int .i64 a, .int .i64 b] w fun e w' => e = .returned (.bool (reachB a b)) ∧ w' = w := by
  go_enter Try.func20, Try.ntmps20
  go_wp2
  go_loopw [0, 5] (fun x i wr => wr = w ∧ ∃ k : Nat, k ≤ 16 ∧ i = .int .i64 k ∧ ∃ c : Int, x = .int .i64 c ∧ Hid (c = walkOn k a) ∧ Hid (((List.range k).any fun i => walkOn (i + 1) a == b) = false)) (fun _ i _ => 16 - (intOf i).toNat)
  case atStart => exact ⟨rfl, 0, Nat.zero_le _, rfl, a, rfl, rfl, rfl⟩
  case round =>
    obtain ⟨rfl, k, hk, rfl, c, rfl, hc, hn⟩ := hrel
    have hcb : 0 ≤ c ∧ c < 256 := by rw [hc.out]; exact walkOn_bd k a h0 h
    by_cases hlt : k < 16
    · have HX : Hid (nxt c = walkOn (k + 1) a) := by show nxt c = nxt (walkOn k a); rw [hc.out]
      by_cases hcb2 : nxt c = b
      · have g : (nxt c == b) = true := by simp [hcb2]
        have HB : Hid (nxt c = b) := hcb2
        clear hcb2
        go_wp2_with (first | (go_at_call 16; refine (refNext_any c _ hcb.1 hcb.2).mono ?_; rintro e w1 ⟨rfl, rfl⟩))
        go_ret
        refine ⟨ret_bool (Eq.symm ?_), rfl⟩
        simp only [reachB, List.any_eq_true]
        exact ⟨k, List.mem_range.2 hlt, by rw [← HX.out]; exact g⟩
      · have g : (nxt c == b) = false := by simp [hcb2]
        clear hcb2
        go_wp2_with (first | (go_at_call 16; refine (refNext_any c _ hcb.1 hcb.2).mono ?_; rintro e w1 ⟨rfl, rfl⟩))
        go_roundw
        case rel => exact ⟨trivial, k + 1, by omega, by go_num, nxt c, rfl, HX, by rw [Hid, any_range_succ, hn.out, ← HX.out, g]; rfl⟩
        case measure => simp [intOf]; omega
    · obtain rfl : k = 16 := by omega
      go_wp2
      go_ret
      exact ⟨ret_bool hn.out.symm, rfl⟩

theorem refCompare_any (a b : Int) (w : World) (ha0 : 0 ≤ a) (ha : a < 256) (hb0 : 0 ≤ b) (hb : b < 256) :
    Calls Try.prog 12 #[.int .i64 a, .int .i64 b] w fun e w' => e = .returned (.int .i64 (rel a b)) ∧ w' = w := by
  by_cases hab : a = b
  · subst hab
    go_enter Try.func12, Try.ntmps12
    go_wp2
    go_ret
    exact ⟨ret_int (by simp [rel]), rfl⟩
  · have hne : (a == b) = false := by simp [hab]
    have hr : rel a b = if reachB a b = true then 1 else if reachB b a = true then 2 else if decide (128 ≤ a) = decide (128 ≤ b) then 3 else if 128 ≤ a then 2 else 1 := by
      rw [reach_win a b ha0 ha hb0 hb, reach_win b a hb0 hb ha0 ha]; simp [rel, hab]
    clear hab
    cases h1 : reachB a b
    · cases h2 : reachB b a
      · have hr2 : rel a b = if decide (128 ≤ a) = decide (128 ≤ b) then 3 else if 128 ≤ a then 2 else 1 := by rw [hr, h1, h2]; rfl
        clear hr
        by_cases h3 : 128 ≤ a
        all_goals
          by_cases h4 : 128 ≤ b
        all_goals
          have HR : Hid (rel a b = _) := hr2
          clear hr2
          go_enter Try.func12, Try.ntmps12
          go_wp2_with fail
          refine (reach_any a b _ ha0 ha).mono ?_
          rintro e w1 ⟨rfl, rfl⟩
          go_wp2_with fail
          refine (reach_any b a _ hb0 hb).mono ?_
          rintro e w1 ⟨rfl, rfl⟩
          go_wp2_with fail
          go_ret
          exact ⟨ret_int (by rw [HR.out]; simp; omega), rfl⟩
      · have HR : Hid (rel a b = 2) := by rw [Hid, hr, h1, h2]; rfl
        clear hr
        go_enter Try.func12, Try.ntmps12
        go_wp2_with fail
        refine (reach_any a b _ ha0 ha).mono ?_
        rintro e w1 ⟨rfl, rfl⟩
        go_wp2_with fail
        refine (reach_any b a _ hb0 hb).mono ?_
        rintro e w1 ⟨rfl, rfl⟩
        go_wp2_with fail
        go_ret
        exact ⟨ret_int HR.out.symm, rfl⟩
    · have HR : Hid (rel a b = 1) := by rw [Hid, hr, h1]; rfl
      clear hr
      go_enter Try.func12, Try.ntmps12
      go_wp2_with fail
      refine (reach_any a b _ ha0 ha).mono ?_
      rintro e w1 ⟨rfl, rfl⟩
      go_wp2_with fail
      go_ret
      exact ⟨ret_int HR.out.symm, rfl⟩

end Go.Proofs.Ytlhlihphhmiflaa
