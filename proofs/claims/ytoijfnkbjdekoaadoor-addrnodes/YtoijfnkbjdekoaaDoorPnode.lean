/- Whose address it is: the program's answer and the document's. -/
import Derived.Test.YtoijfnkbjdekoaaDoorRnode
namespace Go.Proofs.YtoijfnkbjdekoaaDoor
open Go.ChangeShapes Go.WideShapes Go.ChangeAt Go.RowKit
set_option linter.unusedVariables false
set_option linter.unusedSimpArgs false

theorem letters {l : List Int} (h : l.length = 16) : ∃ a0 a1 a2 a3 a4 a5 a6 a7 a8 a9 a10 a11 a12 a13 a14 a15, l = [a0, a1, a2, a3, a4, a5, a6, a7, a8, a9, a10, a11, a12, a13, a14, a15] := by
  match l, h with
  | [a0, a1, a2, a3, a4, a5, a6, a7, a8, a9, a10, a11, a12, a13, a14, a15], _ => exact ⟨a0, a1, a2, a3, a4, a5, a6, a7, a8, a9, a10, a11, a12, a13, a14, a15, rfl⟩

theorem cut64_front (i : Nat) (x : Int) (h : i < 8) : cutAt 64 i x = x := by
  have : low 64 i = 0 := by unfold low; omega
  rw [cutAt, this]; simp
theorem cut64_back (i : Nat) (x : Int) (h : 8 ≤ i) (h0 : 0 ≤ x) (h1 : x < 256) : cutAt 64 i x = 0 := by
  have : low 64 i = 8 := by unfold low; omega
  rw [cutAt, this]; show x - x % 256 = 0; omega

theorem cut64_gen (l : List Int) (h : Adr l) : cutL 64 l = l.take 8 ++ List.replicate 8 0 := by
  apply List.ext_getElem (by rw [cutL_len]; simp; have := h.1; omega)
  intro i h1 h2
  have hi : i < l.length := by rw [cutL_len] at h1; exact h1
  have hx := h.2 _ (List.getElem_mem hi)
  have e : (cutL 64 l)[i] = cutAt 64 i l[i] := by simp [cutL]
  rw [e]
  by_cases h8 : i < 8
  · rw [List.getElem_append_left (by simp; omega), cut64_front i _ h8]; simp
  · rw [List.getElem_append_right (by simp; omega), cut64_back i _ (by omega) hx.1 hx.2, List.getElem_replicate]
theorem cut64 (a0 a1 a2 a3 a4 a5 a6 a7 a8 a9 a10 a11 a12 a13 a14 a15 : Int) (h : Adr [a0, a1, a2, a3, a4, a5, a6, a7, a8, a9, a10, a11, a12, a13, a14, a15]) :
    cutL 64 [a0, a1, a2, a3, a4, a5, a6, a7, a8, a9, a10, a11, a12, a13, a14, a15] = [a0, a1, a2, a3, a4, a5, a6, a7, 0, 0, 0, 0, 0, 0, 0, 0] := by
  rw [cut64_gen _ h]; rfl

theorem nod_key (l : List Int) (h : Adr l) (k : Nat) (hk : k < 64) : sameB l k = true → frontB l = true → nodB l = true ∧ nodK l = (k : Int) := by
  obtain ⟨a0, a1, a2, a3, a4, a5, a6, a7, a8, a9, a10, a11, a12, a13, a14, a15, rfl⟩ := letters h.1
  intro hs hf
  have hs' : a8 = 0 ∧ a9 = 0 ∧ a10 = 0 ∧ a11 = 0 ∧ a12 = 0 ∧ a13 = 1 ∧ a14 = 0 ∧ a15 = (k : Int) + 1 := by
    simp [sameB, lnk, List.range_succ] at hs
    omega
  obtain ⟨rfl, rfl, rfl, rfl, rfl, rfl, rfl, rfl⟩ := hs'
  have hK : nodK [a0, a1, a2, a3, a4, a5, a6, a7, 0, 0, 0, 0, 0, 1, 0, (k : Int) + 1] = (k : Int) := by
    show 256 * (0 : Int) + ((k : Int) + 1) - 1 = k
    omega
  have hC := cut64 a0 a1 a2 a3 a4 a5 a6 a7 0 0 0 0 0 1 0 ((k : Int) + 1) h
  have hR : rightB [a0, a1, a2, a3, a4, a5, a6, a7, 0, 0, 0, 0, 0, 0, 0, 0] 64 = true := by
    have := cutL_same 64 _ h
    rw [hC] at this
    show (bitsB 64 && _ == _) = true
    rw [this]; simp [bitsB]
  have hG : globB [a0, a1, a2, a3, a4, a5, a6, a7, 0, 0, 0, 0, 0, 0, 0, 0] 64 (k : Int) = true := by
    rw [globB, hR]; simp; omega
  have hA : globA [a0, a1, a2, a3, a4, a5, a6, a7, 0, 0, 0, 0, 0, 0, 0, 0] 64 (k : Int) = [a0, a1, a2, a3, a4, a5, a6, a7, 0, 0, 0, 0, 0, 1, 0, (k : Int) + 1] := by
    rw [globA, if_pos hG]; rfl
  refine ⟨?_, hK⟩
  rw [nodB, hK, hC, hG, hA]
  have hz : ([a0, a1, a2, a3, a4, a5, a6, a7, 0, 0, 0, 0, 0, 0, 0, 0] == zeros) = false := by
    rw [beq_eq_false_iff_ne]
    intro e
    simp [zeros] at e
    obtain ⟨rfl, rfl, rfl, rfl, rfl, rfl, rfl, rfl⟩ := e
    simp [frontB, List.range_succ] at hf
  rw [hz]; simp

theorem nod_no (l : List Int) (h : Adr l) (hno : ∀ k, k < 64 → Nope l k) : nodB l = false := by
  cases hn : nodB l with
  | false => rfl
  | true =>
    exfalso
    rw [nodB] at hn
    simp only [Bool.and_eq_true, beq_iff_eq, Bool.not_eq_true'] at hn
    obtain ⟨h1, h2, h3⟩ := hn
    have hk : 0 ≤ nodK l ∧ nodK l < 64 := by
      simp only [globB, Bool.and_eq_true, decide_eq_true_eq] at h1
      exact h1.1.1
    rw [globA, if_pos h1] at h2
    obtain ⟨k, hkk⟩ := Int.eq_ofNat_of_zero_le hk.1
    rw [hkk] at h2
    have hlt : k < 64 := by omega
    have := hno k hlt
    obtain ⟨a0, a1, a2, a3, a4, a5, a6, a7, a8, a9, a10, a11, a12, a13, a14, a15, rfl⟩ := letters h.1
    rw [cut64 _ _ _ _ _ _ _ _ _ _ _ _ _ _ _ _ h] at h2 h3
    have e : [a0, a1, a2, a3, a4, a5, a6, a7, 0, 0, 0, 0, 0, 1, 0, (k : Int) + 1] = [a0, a1, a2, a3, a4, a5, a6, a7, a8, a9, a10, a11, a12, a13, a14, a15] := h2
    simp at e
    obtain ⟨rfl, rfl, rfl, rfl, rfl, rfl, rfl, rfl⟩ := e
    have hs : sameB [a0, a1, a2, a3, a4, a5, a6, a7, 0, 0, 0, 0, 0, 1, 0, (k : Int) + 1] k = true := by
      simp [sameB, lnk, List.range_succ]
    rw [Nope, hs, Bool.true_and] at this
    have hz : a0 = 0 ∧ a1 = 0 ∧ a2 = 0 ∧ a3 = 0 ∧ a4 = 0 ∧ a5 = 0 ∧ a6 = 0 ∧ a7 = 0 := by
      simp [frontB, List.range_succ] at this
      omega
    obtain ⟨rfl, rfl, rfl, rfl, rfl, rfl, rfl, rfl⟩ := hz
    simp [zeros] at h3
end Go.Proofs.YtoijfnkbjdekoaaDoor
