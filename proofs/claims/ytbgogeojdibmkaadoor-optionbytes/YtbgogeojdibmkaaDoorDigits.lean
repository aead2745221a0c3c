/- What the document's own Digits answers: contracts. -/
import Derived.Test.YtbgogeojdibmkaaDoorPackAny
namespace Go.Proofs.YtbgogeojdibmkaaDoor
open Go.ChangeShapes Go.WideShapes Go.ChangeAt Go.RowKit
set_option linter.unusedVariables false
set_option linter.unusedSimpArgs false

set_option maxHeartbeats 1000000 in
theorem digits1 (n : Int) (w : World) (h0 : 0 ≤ n) (h63 : n ≤ 9223372036854775807) :
    Calls Tryd.prog 29 #[.int .i64 1, .int .i64 n] w fun e w' => e = .returned (.tuple #[.slice (some ⟨w.heap.size, 0, none⟩) 1 1, .bool (okB 1 n)]) ∧ w' = w.alloc (.cells (u8s (digs 1 n)).toArray 5) := by
  have hmk : ∀ w, (Instr.makeSlice 26 (.int .i64 1) (.int .i64 1)).run Tryd.prog w = .ok (.slice (some ⟨w.heap.size, 0, none⟩) 1 1) (w.alloc (.cells #[.int .u8 0] 5)) := fun _ => by kernel_rfl
  have hn : decide (n < 0) = false := by simp; omega
  have HD : Hid ((u8s (digs 1 n)).toArray = #[.int .u8 (n % 256)]) := by simp [Hid, u8s, digs]
  have HK : Hid (okB 1 n = (n / 256 == 0)) := by
    rw [Hid, Bool.eq_iff_iff]; simp [okB, top]; omega
  go_enter Tryd.func29, Tryd.ntmps29
  go_wp2
  refine wp_loop_rounds 2 ?_
  repeat (rw [rounds_succ]; go_wp2)
  go_ret2
  exact ⟨by rw [HK.out]; rfl, by rw [HD.out]⟩

theorem digits1_neg (n : Int) (w : World) (h0 : n < 0) :
    Calls Tryd.prog 29 #[.int .i64 1, .int .i64 n] w fun e w' => e = .returned (.tuple #[.slice none 0 0, .bool false]) ∧ Below w.heap.size w w' := by
  have hmk : ∀ w, (Instr.makeSlice 26 (.int .i64 1) (.int .i64 1)).run Tryd.prog w = .ok (.slice (some ⟨w.heap.size, 0, none⟩) 1 1) (w.alloc (.cells #[.int .u8 0] 5)) := fun _ => by kernel_rfl
  go_enter Tryd.func29, Tryd.ntmps29
  go_wp2
  go_ret2
  exact ⟨rfl, balloc (Below.refl _ _) _⟩

set_option maxHeartbeats 1000000 in
theorem digits2 (n : Int) (w : World) (h0 : 0 ≤ n) (h63 : n ≤ 9223372036854775807) :
    Calls Tryd.prog 29 #[.int .i64 2, .int .i64 n] w fun e w' => e = .returned (.tuple #[.slice (some ⟨w.heap.size, 0, none⟩) 2 2, .bool (okB 2 n)]) ∧ w' = w.alloc (.cells (u8s (digs 2 n)).toArray 5) := by
  have hmk : ∀ w, (Instr.makeSlice 26 (.int .i64 2) (.int .i64 2)).run Tryd.prog w = .ok (.slice (some ⟨w.heap.size, 0, none⟩) 2 2) (w.alloc (.cells #[.int .u8 0, .int .u8 0] 5)) := fun _ => by kernel_rfl
  have hn : decide (n < 0) = false := by simp; omega
  have HD : Hid ((u8s (digs 2 n)).toArray = #[.int .u8 (n / 256 % 256), .int .u8 (n % 256)]) := by simp [Hid, u8s, digs]
  have HK : Hid (okB 2 n = (n / 256 / 256 == 0)) := by
    rw [Hid, Bool.eq_iff_iff]; simp [okB, top]; omega
  go_enter Tryd.func29, Tryd.ntmps29
  go_wp2
  refine wp_loop_rounds 3 ?_
  repeat (rw [rounds_succ]; go_wp2)
  go_ret2
  exact ⟨by rw [HK.out]; rfl, by rw [HD.out]⟩

theorem digits2_neg (n : Int) (w : World) (h0 : n < 0) :
    Calls Tryd.prog 29 #[.int .i64 2, .int .i64 n] w fun e w' => e = .returned (.tuple #[.slice none 0 0, .bool false]) ∧ Below w.heap.size w w' := by
  have hmk : ∀ w, (Instr.makeSlice 26 (.int .i64 2) (.int .i64 2)).run Tryd.prog w = .ok (.slice (some ⟨w.heap.size, 0, none⟩) 2 2) (w.alloc (.cells #[.int .u8 0, .int .u8 0] 5)) := fun _ => by kernel_rfl
  go_enter Tryd.func29, Tryd.ntmps29
  go_wp2
  go_ret2
  exact ⟨rfl, balloc (Below.refl _ _) _⟩

set_option maxHeartbeats 1000000 in
theorem digits4 (n : Int) (w : World) (h0 : 0 ≤ n) (h63 : n ≤ 9223372036854775807) :
    Calls Tryd.prog 29 #[.int .i64 4, .int .i64 n] w fun e w' => e = .returned (.tuple #[.slice (some ⟨w.heap.size, 0, none⟩) 4 4, .bool (okB 4 n)]) ∧ w' = w.alloc (.cells (u8s (digs 4 n)).toArray 5) := by
  have hmk : ∀ w, (Instr.makeSlice 26 (.int .i64 4) (.int .i64 4)).run Tryd.prog w = .ok (.slice (some ⟨w.heap.size, 0, none⟩) 4 4) (w.alloc (.cells #[.int .u8 0, .int .u8 0, .int .u8 0, .int .u8 0] 5)) := fun _ => by kernel_rfl
  have hn : decide (n < 0) = false := by simp; omega
  have HD : Hid ((u8s (digs 4 n)).toArray = #[.int .u8 (n / 256 / 256 / 256 % 256), .int .u8 (n / 256 / 256 % 256), .int .u8 (n / 256 % 256), .int .u8 (n % 256)]) := by simp [Hid, u8s, digs]; omega
  have HK : Hid (okB 4 n = (n / 256 / 256 / 256 / 256 == 0)) := by
    rw [Hid, Bool.eq_iff_iff]; simp [okB, top]; omega
  go_enter Tryd.func29, Tryd.ntmps29
  go_wp2
  refine wp_loop_rounds 5 ?_
  repeat (rw [rounds_succ]; go_wp2)
  go_ret2
  exact ⟨by rw [HK.out]; rfl, by rw [HD.out]⟩

theorem digits4_neg (n : Int) (w : World) (h0 : n < 0) :
    Calls Tryd.prog 29 #[.int .i64 4, .int .i64 n] w fun e w' => e = .returned (.tuple #[.slice none 0 0, .bool false]) ∧ Below w.heap.size w w' := by
  have hmk : ∀ w, (Instr.makeSlice 26 (.int .i64 4) (.int .i64 4)).run Tryd.prog w = .ok (.slice (some ⟨w.heap.size, 0, none⟩) 4 4) (w.alloc (.cells #[.int .u8 0, .int .u8 0, .int .u8 0, .int .u8 0] 5)) := fun _ => by kernel_rfl
  go_enter Tryd.func29, Tryd.ntmps29
  go_wp2
  go_ret2
  exact ⟨rfl, balloc (Below.refl _ _) _⟩

theorem okB_neg (size n : Int) (h : n < 0) : okB size n = false := by simp [okB]; omega

theorem wf_i64 {n : Int} (h : (Lit.int .i64 n).wf = true) : -9223372036854775808 ≤ n ∧ n ≤ 9223372036854775807 := by
  simp [Lit.wf, IntKind.min, IntKind.max, IntKind.bits, IntKind.signed] at h; omega

theorem digits_any (size n : Int) (w : World) (hz : sizeB size = true) (hw : (Lit.int .i64 n).wf = true) :
    Calls Tryd.prog 29 #[.int .i64 size, .int .i64 n] w fun e w' => ∃ a k c, e = .returned (.tuple #[.slice a k c, .bool (okB size n)]) ∧ Below w.heap.size w w' ∧ (okB size n = true → k = (digs size n).length ∧ Lies .u8 w' a k c (digs size n)) := by
  have h63 := (wf_i64 hw).2
  by_cases h0 : 0 ≤ n
  · have key : ∀ k : Nat, k = (digs size n).length → k ≤ 100 → Lies .u8 (w.alloc (.cells (u8s (digs size n)).toArray 5)) (some ⟨w.heap.size, 0, none⟩) k k (digs size n) := by
      intro k hk h100
      subst hk
      exact lies_new .u8 w _ 5 (digs size n) (by simp [u8s]) h100
    have hb : Below w.heap.size w (w.alloc (.cells (u8s (digs size n)).toArray 5)) := balloc (Below.refl _ _) _
    rcases sizeB_cases hz with rfl | rfl | rfl
    · refine (digits1 n w h0 h63).mono ?_
      rintro e w' ⟨rfl, rfl⟩
      exact ⟨_, _, _, rfl, hb, fun _ => ⟨rfl, key 1 rfl (by omega)⟩⟩
    · refine (digits2 n w h0 h63).mono ?_
      rintro e w' ⟨rfl, rfl⟩
      exact ⟨_, _, _, rfl, hb, fun _ => ⟨rfl, key 2 rfl (by omega)⟩⟩
    · refine (digits4 n w h0 h63).mono ?_
      rintro e w' ⟨rfl, rfl⟩
      exact ⟨_, _, _, rfl, hb, fun _ => ⟨rfl, key 4 rfl (by omega)⟩⟩
  · have hk := okB_neg size n (by omega)
    rw [hk]
    rcases sizeB_cases hz with rfl | rfl | rfl
    · refine (digits1_neg n w (by omega)).mono ?_
      rintro e w' ⟨rfl, hb⟩
      exact ⟨_, _, _, rfl, hb, fun h => by cases h⟩
    · refine (digits2_neg n w (by omega)).mono ?_
      rintro e w' ⟨rfl, hb⟩
      exact ⟨_, _, _, rfl, hb, fun h => by cases h⟩
    · refine (digits4_neg n w (by omega)).mono ?_
      rintro e w' ⟨rfl, hb⟩
      exact ⟨_, _, _, rfl, hb, fun h => by cases h⟩

end Go.Proofs.YtbgogeojdibmkaaDoor
