/- Pairs of bytes set: what becomes of the sum. -/
import Derived.Test.YtinfkjnneibklaaStk
namespace Go.Proofs.Ytinfkjnneibklaa
open Go.ChangeShapes Go.WideShapes Go.ChangeAt Go.RowKit
set_option linter.unusedVariables false
set_option linter.unusedSimpArgs false

theorem set2_split (l : List Int) (k : Nat) (x y : Int) (h : k + 2 ≤ l.length) : set2 l k x y = l.take k ++ ([x, y] ++ l.drop (k + 2)) := by
  apply List.ext_getElem?
  intro i
  unfold set2
  rw [List.getElem?_set, List.getElem?_set, List.getElem?_append]
  simp only [List.length_set, List.length_take, Nat.min_eq_left (show k ≤ l.length by omega)]
  by_cases h1 : i < k
  · rw [if_neg (by omega), if_neg (by omega), if_pos h1, List.getElem?_take, if_pos h1]
  · rw [if_neg h1]
    by_cases h2 : i = k
    · subst h2
      rw [if_neg (by omega), if_pos rfl, if_pos (by omega)]
      simp
    · by_cases h3 : i = k + 1
      · subst h3
        rw [if_pos rfl, if_pos (by omega)]
        simp [show k + 1 - k = 1 by omega]
      · rw [if_neg (by omega), if_neg (by omega), List.getElem?_append, if_neg (by simp; omega), List.getElem?_drop]
        congr 1
        simp; omega
theorem wsum_even (k : Nat) (h : k % 2 = 0) (l : List Int) : wsum k l = wsum 0 l := by
  obtain ⟨m, rfl⟩ : ∃ m, k = 2 * m := ⟨k / 2, by omega⟩
  clear h
  induction m with
  | zero => rfl
  | succ m ih => rw [show 2 * (m + 1) = 2 * m + 2 by omega, wsum_two, ih]
theorem wsum_pair2 (P R : List Int) (x y : Int) (h : P.length % 2 = 0) : wsum 0 (P ++ ([x, y] ++ R)) = wsum 0 P + (256 * x + y) + wsum 0 R := by
  rw [wsum_app, wsum_app, wsum_even (0 + P.length) (by omega), wsum_even (0 + P.length + [x, y].length) (by simp; omega)]
  simp [wsum, wt]; omega
theorem wsum_set2 (l : List Int) (k : Nat) (x y : Int) (hk : k % 2 = 0) (h : k + 2 ≤ l.length) : wsum 0 (set2 l k x y) = wsum 0 (set2 l k 0 0) + (256 * x + y) := by
  have hl : (l.take k).length % 2 = 0 := by simp; omega
  rw [set2_split l k x y h, set2_split l k 0 0 h, wsum_pair2 _ _ _ _ hl, wsum_pair2 _ _ _ _ hl]; omega
theorem set2_set2 (l : List Int) (k : Nat) (x y x' y' : Int) : set2 (set2 l k x y) k x' y' = set2 l k x' y' := by
  unfold set2
  rw [List.set_comm (l := l.set k x) (a := y) (b := x') (show k + 1 ≠ k by omega), List.set_set, List.set_set]

theorem norm_full (S : Int) (h : 0 ≤ S) : norm (S + (65535 - norm S)) = 65535 := by
  unfold norm; split <;> split <;> omega

theorem setL_eq (f t : List Int) (next : Int) (l : List Int) (k : Nat) : setL f t next l k = set2 l k (zeroC f t next l k / 256) (zeroC f t next l k % 256) := by
  unfold setL; rw [set2_set2]
theorem setL_len (f t : List Int) (next : Int) (l : List Int) (k : Nat) : (setL f t next l k).length = l.length := by rw [setL_eq, set2_len]
theorem setL_oct (f t : List Int) (next : Int) (l : List Int) (k : Nat) (ho : Oct l) : Oct (setL f t next l k) := by
  have := zeroC_bd f t next l k
  rw [setL_eq]; exact set2_oct ho k _ _ (by omega) (by omega)
theorem setL_right (f t : List Int) (next : Int) (l : List Int) (k : Nat) (hf : Adr f) (ht : Adr t) (ho : Oct l) (hE : psE next l.length = 0) (hk : k % 2 = 0) (h : k + 2 ≤ l.length) : chkB f t next (setL f t next l k) = true := by
  have hV : psV f t next (setL f t next l k) = 0 := by
    rw [psV, setL_len, if_pos hE]
    have hh := hdr_len f t next l.length hf ht
    have e1 : ∀ M, wsum 0 (hdr f t next l.length ++ M) = wsum 0 (hdr f t next l.length) + wsum 0 M := fun M => by rw [wsum_app, wsum_even (0 + (hdr f t next l.length).length) (by omega)]
    have hC : zeroC f t next l k = 65535 - norm (wsum 0 (hdr f t next l.length ++ set2 l k 0 0)) := rfl
    have hS := (wsum_bd 0 _ ((hdr_oct f t next l.length hf ht).app (set2_oct ho k 0 0 (by omega) (by omega)))).1
    have hw : wsum 0 (hdr f t next l.length ++ setL f t next l k) = wsum 0 (hdr f t next l.length ++ set2 l k 0 0) + zeroC f t next l k := by
      rw [e1, e1, setL_eq, wsum_set2 l k _ _ hk h]; omega
    have : sumV (hdr f t next l.length ++ setL f t next l k) = 65535 := by
      rw [sumV, hw, hC, norm_full _ hS]
    rw [this]; rfl
  rw [chkB, setL_len, hE, hV]; rfl
theorem setL_take (f t : List Int) (next : Int) (l : List Int) (k : Nat) (h : k + 2 ≤ l.length) : (setL f t next l k).take k = l.take k := by
  rw [setL_eq, set2_split l k _ _ h, List.take_left' (by simp; omega)]
theorem setL_drop (f t : List Int) (next : Int) (l : List Int) (k : Nat) (h : k + 2 ≤ l.length) : (setL f t next l k).drop (k + 2) = l.drop (k + 2) := by
  rw [setL_eq, set2_split l k _ _ h, ← List.append_assoc, List.drop_left' (by simp; omega)]
end Go.Proofs.Ytinfkjnneibklaa
