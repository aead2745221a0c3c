/- Sums of bytes, as numbers. -/
import Derived.Test.YtinfkjnneibklaaPackAny
namespace Go.Proofs.Ytinfkjnneibklaa
open Go.ChangeShapes Go.WideShapes Go.ChangeAt Go.RowKit
set_option linter.unusedVariables false
set_option linter.unusedSimpArgs false

/-- What a byte adds at a place. -/
def wt (k : Nat) (b : Int) : Int := if k % 2 = 0 then b * 256 else b
/-- All bytes added, the first of each pair 256 times; the first one lies at place k. -/
def wsum : Nat → List Int → Int
  | _, [] => 0
  | k, b :: l => wt k b + wsum (k + 1) l
theorem wsum_app (k : Nat) (l m : List Int) : wsum k (l ++ m) = wsum k l + wsum (k + l.length) m := by
  induction l generalizing k with
  | nil => simp [wsum]
  | cons b l ih => simp only [List.cons_append, wsum, ih, List.length_cons]; rw [show k + 1 + l.length = k + (l.length + 1) by omega]; omega
theorem wsum_two (k : Nat) (l : List Int) : wsum (k + 2) l = wsum k l := by
  induction l generalizing k with
  | nil => rfl
  | cons b l ih => simp only [wsum]; rw [show k + 2 + 1 = (k + 1) + 2 by omega, ih]; simp [wt]
theorem wt_nonneg (k : Nat) (b : Int) (h : 0 ≤ b ∧ b < 256) : 0 ≤ wt k b ∧ wt k b ≤ 65280 := by unfold wt; split <;> omega
theorem wsum_bd (k : Nat) (l : List Int) (h : Oct l) : 0 ≤ wsum k l ∧ wsum k l ≤ 65280 * l.length := by
  induction l generalizing k with
  | nil => simp [wsum]
  | cons b l ih =>
    have h1 := wt_nonneg k b (h b (by simp))
    have h2 := ih (k + 1) (fun x hx => h x (by simp [hx]))
    simp only [wsum, List.length_cons]; omega
/-- A number, with what is above two bytes added below until it fits. -/
def norm (n : Int) : Int := if n = 0 then 0 else (n - 1) % 65535 + 1
theorem norm_bd (n : Int) : 0 ≤ norm n ∧ norm n ≤ 65535 := by unfold norm; split <;> omega
theorem norm_id (n : Int) (h0 : 0 ≤ n) (h : n ≤ 65535) : norm n = n := by unfold norm; split <;> omega
theorem norm_less (n : Int) (h : 65535 < n) : norm (n - 65535) = norm n := by unfold norm; split <;> split <;> omega
theorem norm_plus (a x : Int) (ha : 0 ≤ a) (hx0 : 0 ≤ x) (hx : x ≤ 65535) : (x + norm a) / 65536 + (x + norm a) % 65536 = norm (a + x) := by
  unfold norm; split <;> split <;> omega
/-- The sum of bytes. -/
def sumV (l : List Int) : Int := norm (wsum 0 l)
theorem sumV_bd (l : List Int) : 0 ≤ sumV l ∧ sumV l ≤ 65535 := norm_bd _
theorem sumV_snoc (l : List Int) (b : Int) (hl : Oct l) (hb : 0 ≤ b ∧ b < 256) : (wt l.length b + sumV l) / 65536 + (wt l.length b + sumV l) % 65536 = sumV (l ++ [b]) := by
  have h1 := wt_nonneg l.length b hb
  rw [sumV, sumV, norm_plus _ _ (wsum_bd 0 l hl).1 h1.1 (by omega), wsum_app]
  simp [wsum]
theorem oct_snoc {l : List Int} {b : Int} (hl : Oct l) (hb : 0 ≤ b ∧ b < 256) : Oct (l ++ [b]) := hl.app (fun x hx => by simp at hx; subst hx; exact hb)
theorem oct_take {l : List Int} (h : Oct l) (n : Nat) : Oct (l.take n) := fun x hx => h x (List.mem_of_mem_take hx)
theorem oct_drop {l : List Int} (h : Oct l) (n : Nat) : Oct (l.drop n) := fun x hx => h x (List.mem_of_mem_drop hx)
end Go.Proofs.Ytinfkjnneibklaa
