/- What the small functions of package lolli answer: contracts, one a function. -/
import Derived.Test.YtlhlihphhmiflaaRows
import Derived.WalkKit
import Derived.ProofKit
import Derived.OpenShut
import Derived.Handy
namespace Go.Proofs.Ytlhlihphhmiflaa
open Go.ChangeShapes Go.WideShapes Go.ChangeAt Go.RowKit
set_option linter.unusedVariables false
set_option linter.unusedSimpArgs false

def vB (a : Int) : Bool := decide (0 ≤ a ∧ a < 256)

theorem all_take_succ (zs : List Int) (k : Nat) (h : k < zs.length) (p : Int → Bool) : (zs.take (k + 1)).all p = ((zs.take k).all p && p (zs.getD k 0)) := by
  rw [List.take_succ_eq_append_getElem h, List.all_append]; simp [h]

theorem all_false (zs : List Int) (k : Nat) (h : k < zs.length) (p : Int → Bool) (hp : p (zs.getD k 0) = false) : zs.all p = false := by
  rw [List.all_eq_false]; exact ⟨zs[k], List.getElem_mem h, by simpa [h] using hp⟩

theorem ret_bool {a b : Bool} (h : a = b) : Ending.returned (.bool a) = .returned (.bool b) := by rw [h]
theorem ret_int {k : IntKind} {a b : Int} (h : a = b) : Ending.returned (.int k a) = .returned (.int k b) := by rw [h]

set_option maxHeartbeats 400000 in
theorem valid_any (b off len cap : Nat) (zs : List Int) (w : World) (hl : zs.length = len) (hm : len ≤ maxLen)
    (hc : ∀ k, k < len → w.cell? ⟨b, off + k, none⟩ = some (.int .i64 (zs.getD k 0))) :
    Calls Try.prog 15 #[.slice (some ⟨b, off, none⟩) len cap] w fun e w' => e = .returned (.bool (zs.all vB)) ∧ w' = w := by
  unfold maxLen at hm
  have HC : Hid (∀ k, k < len → w.cell? ⟨b, off + k, none⟩ = some (.int .i64 (zs.getD k 0))) := hc
  have HL : Hid (zs.length = len) := hl
  clear hc hl
  go_enter Try.func15, Try.ntmps15
  go_wp2
  go_loop [7] (fun i => ∃ k : Nat, k ≤ len ∧ i = .int .i64 k ∧ Hid ((zs.take k).all vB = true)) (fun i => len - (intOf i).toNat)
  case atStart => exact ⟨0, Nat.zero_le _, rfl, rfl⟩
  case round =>
    obtain ⟨k, hk, rfl, hall⟩ := hrel
    by_cases hlt : k < len
    · have hcell := HC.out k hlt
      have hs := all_take_succ zs k (by rw [HL.out]; exact hlt) vB
      have hf : vB (zs.getD k 0) = false → zs.all vB = false := all_false zs k (by rw [HL.out]; exact hlt) vB
      generalize hz : zs.getD k 0 = z at hcell hs hf
      have HS : Hid ((zs.take (k + 1)).all vB = ((zs.take k).all vB && vB z)) := hs
      have HF : Hid (vB z = false → zs.all vB = false) := hf
      clear hz hs hf
      by_cases h0 : z < 0
      · go_wp2
        go_ret
        exact ⟨ret_bool (HF.out (by simp [vB]; omega)).symm, rfl⟩
      · by_cases h1 : 256 ≤ z
        · go_wp2
          go_ret
          exact ⟨ret_bool (HF.out (by simp [vB]; omega)).symm, rfl⟩
        · go_wp2
          go_round
          case rel => exact ⟨k + 1, by omega, by go_num, by rw [Hid, HS.out, hall.out]; simp [vB]; omega⟩
          case measure => simp [intOf]; omega
    · go_wp2
      go_ret
      exact ⟨ret_bool (by have := hall.out; rwa [List.take_of_length_le (by rw [HL.out]; omega), eq_comm] at this), rfl⟩

theorem onStick_any (a : Int) (w : World) : Calls Try.prog 21 #[.int .i64 a] w fun e w' => e = .returned (.bool (decide (128 ≤ a))) ∧ w' = w := by
  go_enter Try.func21, Try.ntmps21
  go_wp2
  go_ret
  exact ⟨rfl, rfl⟩

def inWin (d : Int) : Bool := decide (1 ≤ d ∧ d ≤ 16)

theorem inWindow_any (d : Int) (w : World) : Calls Try.prog 24 #[.int .i64 d] w fun e w' => e = .returned (.bool (inWin d)) ∧ w' = w := by
  by_cases h1 : 1 ≤ d
  · by_cases h2 : d ≤ 16
    all_goals
      go_enter Try.func24, Try.ntmps24
      go_wp2
      go_ret
      exact ⟨ret_bool (by simp [inWin, h1, h2]), rfl⟩
  · go_enter Try.func24, Try.ntmps24
    go_wp2
    go_ret
    exact ⟨ret_bool (by simp [inWin]; omega), rfl⟩

theorem far1 (f t : Int) (b : Nat) (w : World) (hf0 : 0 ≤ f) (hf : f < 256) (ht0 : 0 ≤ t) (ht : t < 256) (hc : w.cell? ⟨b, 0, none⟩ = some (.int .i64 f)) :
    Calls Try.prog 25 #[.int .i64 t, .pointer (some ⟨b, 0, none⟩)] w fun e w' => e = .returned (.int .i64 (if 128 ≤ t then t - f else 256 - f + t)) ∧ w' = w := by
  by_cases h : 128 ≤ t
  all_goals
    go_enter Try.func25, Try.ntmps25
    go_wp2
    go_ret
    exact ⟨ret_int (by simp [h]), rfl⟩

theorem far2 (f t : Int) (b : Nat) (w : World) (hf0 : 0 ≤ f) (hf : f < 128) (ht0 : 0 ≤ t) (ht : t < 256) (hc : w.cell? ⟨b, 0, none⟩ = some (.int .i64 f)) :
    Calls Try.prog 26 #[.int .i64 t, .pointer (some ⟨b, 0, none⟩)] w fun e w' => e = .returned (.int .i64 (if 128 ≤ t then -1 else (t - f + 128) % 128)) ∧ w' = w := by
  by_cases h : 128 ≤ t
  all_goals
    go_enter Try.func26, Try.ntmps26
    go_wp2
    go_ret
    exact ⟨ret_int (by simp [h]), rfl⟩

/-- How many steps lead from one counter to another; below 1: none. -/
def far (f t : Int) : Int := if 128 ≤ f then (if 128 ≤ t then t - f else 256 - f + t) else (if 128 ≤ t then -1 else (t - f + 128) % 128)

theorem stepsFrom_any (f : Int) (w : World) (hf0 : 0 ≤ f) (hf : f < 256) :
    Calls Try.prog 23 #[.int .i64 f] w fun e w' => e = .returned (.func (.func (if 128 ≤ f then 25 else 26)) #[] #[.pointer (some ⟨w.heap.size, 0, none⟩)]) ∧ w' = w.alloc (.cells #[.int .i64 f] 3) := by
  have hmf : ∀ (fn : Fn) (first cap : Array Value) (w : World), (Instr.makeFunc fn first cap).run Try.prog w = .ok (.func fn first cap) w := fun _ _ _ _ => rfl
  by_cases h : 128 ≤ f
  all_goals
    go_enter Try.func23, Try.ntmps23
    go_wp2
    go_ret
    exact ⟨by simp [h], rfl⟩

end Go.Proofs.Ytlhlihphhmiflaa
