/- A prefix has an address: by what is cut, and by bits. -/
import Derived.Test.YtoijfnkbjdekoaaDoorBits
namespace Go.Proofs.YtoijfnkbjdekoaaDoor
open Go.ChangeShapes Go.WideShapes Go.ChangeAt Go.RowKit
set_option linter.unusedVariables false
set_option linter.unusedSimpArgs false

theorem cb_all : ((List.range 256).all fun x => (List.range 9).all fun s => (List.range 8).all fun j => decide ((x - x % 2 ^ s) / 2 ^ j % 2 = if j < s then 0 else x / 2 ^ j % 2)) = true := by kernel_rfl
theorem cb_nat (x s j : Nat) (hx : x < 256) (hs : s < 9) (hj : j < 8) : (x - x % 2 ^ s) / 2 ^ j % 2 = if j < s then 0 else x / 2 ^ j % 2 := by
  have := List.all_eq_true.1 (List.all_eq_true.1 (List.all_eq_true.1 cb_all x (by simp; omega)) s (by simp; omega)) j (by simp; omega)
  exact of_decide_eq_true this
theorem rec_all : ((List.range 256).all fun u => decide (u = u / 2 ^ 0 % 2 + 2 * (u / 2 ^ 1 % 2) + 4 * (u / 2 ^ 2 % 2) + 8 * (u / 2 ^ 3 % 2) + 16 * (u / 2 ^ 4 % 2) + 32 * (u / 2 ^ 5 % 2) + 64 * (u / 2 ^ 6 % 2) + 128 * (u / 2 ^ 7 % 2))) = true := by kernel_rfl
theorem rec_nat (u : Nat) (h : u < 256) : u = u / 2 ^ 0 % 2 + 2 * (u / 2 ^ 1 % 2) + 4 * (u / 2 ^ 2 % 2) + 8 * (u / 2 ^ 3 % 2) + 16 * (u / 2 ^ 4 % 2) + 32 * (u / 2 ^ 5 % 2) + 64 * (u / 2 ^ 6 % 2) + 128 * (u / 2 ^ 7 % 2) :=
  of_decide_eq_true (List.all_eq_true.1 rec_all u (by simp; omega))
theorem byte_eq (u v : Nat) (hu : u < 256) (hv : v < 256) (h : ∀ j, j < 8 → u / 2 ^ j % 2 = v / 2 ^ j % 2) : u = v := by
  rw [rec_nat u hu, rec_nat v hv, h 0 (by omega), h 1 (by omega), h 2 (by omega), h 3 (by omega), h 4 (by omega), h 5 (by omega), h 6 (by omega), h 7 (by omega)]

theorem cutL_getD (n : Int) (l : List Int) (k : Nat) (h : k < l.length) : (cutL n l).getD k 0 = cutAt n k (l.getD k 0) := by
  simp [cutL, h]
theorem cut_byte (n : Int) (l : List Int) (k : Nat) (ha : Adr l) (hk : k < 16) : ((cutL n l).getD k 0).toNat = (l.getD k 0).toNat - (l.getD k 0).toNat % 2 ^ low n k := by
  have hx := ha.2 _ (getD_mem (k := k) (by rw [ha.1]; omega))
  rw [cutL_getD n l k (by rw [ha.1]; omega)]
  obtain ⟨X, hX⟩ := Int.eq_ofNat_of_zero_le hx.1
  rw [hX, cutAt, ← sub_cast X (low n k)]
  simp
/-- The bits of what is cut. -/
theorem bit_cut (n : Nat) (l : List Int) (i : Nat) (ha : Adr l) (hi : i < 128) : bitI (cutL (n : Int) l) i = if i < n then bitI l i else 0 := by
  have hx := ha.2 _ (getD_mem (k := i / 8) (by rw [ha.1]; omega))
  unfold bitI
  rw [cut_byte n l (i / 8) ha (by omega), cb_nat _ _ _ (by omega) (low_lt _ _) (by omega)]
  have hq : (7 - i % 8 < low (n : Int) (i / 8)) ↔ ¬ i < n := by unfold low; omega
  by_cases h : i < n
  · rw [if_neg (by rw [hq]; simpa using h), if_pos h]
  · rw [if_pos (hq.2 h), if_neg h]; rfl
theorem ext_bits (p q : List Int) (hp : Adr p) (hq : Adr q) (h : ∀ i, i < 128 → bitI p i = bitI q i) : p = q := by
  apply List.ext_getElem (by rw [hp.1, hq.1])
  intro k h1 h2
  have hk : k < 16 := by rw [← hp.1]; exact h1
  have a1 := hp.2 _ (List.getElem_mem h1)
  have a2 := hq.2 _ (List.getElem_mem h2)
  have key : p[k].toNat = q[k].toNat := by
    apply byte_eq _ _ (by omega) (by omega)
    intro j hj
    have := h (8 * k + (7 - j)) (by omega)
    unfold bitI at this
    have e1 : (8 * k + (7 - j)) / 8 = k := by omega
    have e2 : 7 - (8 * k + (7 - j)) % 8 = j := by omega
    rw [e1, e2] at this
    have g1 : p.getD k 0 = p[k] := by simp [h1]
    have g2 : q.getD k 0 = q[k] := by simp [h2]
    rw [g1, g2] at this
    omega
  omega

theorem hasB_bits (p l : List Int) (n : Int) (hp : Adr p) (ha : Adr l) : hasB p n l = (bitsB n && tailB p n.toNat && headB p l n.toNat) := by
  unfold hasB
  cases hb : bitsB n
  · rfl
  · obtain ⟨h0, h1⟩ := bitsB_yes hb
    obtain ⟨m, rfl⟩ := Int.eq_ofNat_of_zero_le h0
    rw [Bool.true_and, Bool.true_and, Int.toNat_natCast, Bool.eq_iff_iff]
    simp only [beq_iff_eq, Bool.and_eq_true, tailB, headB, List.all_eq_true, List.mem_range, Bool.or_eq_true, decide_eq_true_eq]
    constructor
    · rintro rfl
      constructor
      · intro i hi
        rw [bit_cut m l i ha hi]
        by_cases h : i < m
        · exact Or.inl h
        · rw [if_neg h]; exact Or.inr rfl
      · intro i hi
        rw [bit_cut m l i ha hi]
        by_cases h : i < m
        · rw [if_pos h]; exact Or.inr rfl
        · exact Or.inl (by omega)
    · rintro ⟨hT, hH⟩
      apply ext_bits _ _ (adr_cut ha) hp
      intro i hi
      rw [bit_cut m l i ha hi]
      by_cases h : i < m
      · rw [if_pos h]
        rcases hH i hi with h' | h'
        · omega
        · exact h'.symm
      · rw [if_neg h]
        rcases hT i hi with h' | h'
        · exact absurd h' h
        · exact h'.symm
theorem rightB_bits (p : List Int) (n : Int) (hp : Adr p) : rightB p n = (bitsB n && tailB p n.toNat) := by
  rw [rightB, hasB_bits p p n hp hp]
  have : headB p p n.toNat = true := by simp [headB]
  rw [this, Bool.and_true]

theorem refRight_is (p : List Int) (n : Int) (w : World) (hp : Adr p) :
    Calls Tryd.prog 22 #[.agg (pfx p n)] w fun e w' => e = .returned (.bool (rightB p n)) ∧ Below w.heap.size w w' := by
  rw [rightB_bits p n hp]; exact refRight_any p n w hp
theorem refHas_is (p : List Int) (n : Int) (l : List Int) (w : World) (hp : Adr p) (ha : Adr l) :
    Calls Tryd.prog 24 #[.agg (pfx p n), .agg (u8s l)] w fun e w' => e = .returned (.bool (hasB p n l)) ∧ Below w.heap.size w w' := by
  rw [hasB_bits p l n hp ha]; exact refHas_any p n l w hp ha
end Go.Proofs.YtoijfnkbjdekoaaDoor
