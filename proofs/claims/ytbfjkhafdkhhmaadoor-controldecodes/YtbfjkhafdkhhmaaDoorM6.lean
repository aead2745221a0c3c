/- Fields in numbers: how they are put together, and how they are taken. · Fields that are taken out of a number. · Slices of options of the call's own: how they are made and put behind, in regions that draw their order too. · Options of some kinds: slices.Index, Contains, IndexFunc, oneOf; slices.Clone, copied. -/
import Derived.Test.YtbfjkhafdkhhmaaDoorM5
import Derived.Laws.BitsAllLaws
import Derived.Great.BuildSlice
namespace Go.Proofs.YtbfjkhafdkhhmaaDoor
open Go.ChangeShapes Go.WideShapes Go.ChangeAt Go.RowKit Go.Deep
set_option linter.unusedVariables false
set_option linter.unusedSimpArgs false

theorem wrap_small (n : Nat) (h : n < 9223372036854775808) : IntKind.i64.wrap (n : Int) = (n : Int) := by
  have e : (n : Int) % 2 ^ 64 = n := Int.emod_eq_of_lt (by omega) (by omega)
  simp only [IntKind.wrap, IntKind.bits, IntKind.signed, e]
  rw [if_neg]
  simp
  omega
theorem i64_or (a b : Nat) (ha : a < 9223372036854775808) (hb : b < 9223372036854775808) : bits .or .i64 (a : Int) (b : Int) = ((a ||| b : Nat) : Int) := by
  have hx : a ||| b < 2 ^ 63 := Nat.or_lt_two_pow (by omega) (by omega)
  show IntKind.i64.wrap ((BitVec.ofInt 64 (a : Int) ||| BitVec.ofInt 64 (b : Int)).toNat : Int) = _
  rw [BitVec.toNat_or, ofInt_u64 a (by omega), ofInt_u64 b (by omega)]
  exact wrap_small _ (by omega)
theorem i64_and (a b : Nat) (ha : a < 9223372036854775808) (hb : b < 9223372036854775808) : bits .and .i64 (a : Int) (b : Int) = ((a &&& b : Nat) : Int) := by
  have hx : a &&& b < 2 ^ 63 := Nat.and_lt_two_pow _ (by omega)
  show IntKind.i64.wrap ((BitVec.ofInt 64 (a : Int) &&& BitVec.ofInt 64 (b : Int)).toNat : Int) = _
  rw [BitVec.toNat_and, ofInt_u64 a (by omega), ofInt_u64 b (by omega)]
  exact wrap_small _ (by omega)
theorem i64_andNot (a b : Nat) (ha : a < 9223372036854775808) (hb : b < 9223372036854775808) : bits .andNot .i64 (a : Int) (b : Int) = ((a &&& (18446744073709551615 - b) : Nat) : Int) := by
  have hx : a &&& (18446744073709551615 - b) ≤ a := Nat.and_le_left
  show IntKind.i64.wrap ((BitVec.ofInt 64 (a : Int) &&& ~~~BitVec.ofInt 64 (b : Int)).toNat : Int) = _
  rw [BitVec.toNat_and, BitVec.toNat_not, ofInt_u64 a (by omega), ofInt_u64 b (by omega)]
  have e : 2 ^ 64 - 1 - b = 18446744073709551615 - b := by omega
  rw [e]
  exact wrap_small _ (by omega)
theorem w64s (z : Int) (h0 : 0 ≤ z) (h1 : z < 65536 * 256) : wrap64 z = z := by
  unfold wrap64; omega
theorem orI (a b : Int) (t : Nat) (ht : 2 ^ t ≤ 65536) (h0 : 0 ≤ a) (h1 : a < 65536) (h2 : a % 2 ^ t = 0) (h3 : 0 ≤ b) (h4 : b < 2 ^ t) : bits .or .i64 a b = a + b := by
  obtain ⟨A, rfl⟩ := Int.eq_ofNat_of_zero_le h0
  obtain ⟨B, rfl⟩ := Int.eq_ofNat_of_zero_le h3
  have hA : A % 2 ^ t = 0 := by exact_mod_cast h2
  have hB : B < 2 ^ t := by exact_mod_cast h4
  rw [i64_or A B (by omega) (by omega), nat_join t A B hA hB]; rfl
/-- Each field joins what is there. -/
def stO' (v : List Int) : Int → List Fl → Prop
  | _, [] => True
  | n, f :: fs => bits .or .i64 n (wrap64 (v.getD f.p 0 * 2 ^ f.s)) = n + v.getD f.p 0 * 2 ^ f.s ∧ stO' v (n + v.getD f.p 0 * 2 ^ f.s) fs
def orFn (v : List Int) (n : Int) (fs : List Fl) : Int := fs.foldl (fun n f => n + v.getD f.p 0 * 2 ^ f.s) n
theorem stO_at (v : List Int) (fs : List Fl) : ∀ n, stO' v n fs → ∀ q, q < fs.length → bits .or .i64 (orFn v n (fs.take q)) (wrap64 (v.getD (fs.getD q Fl.none).p 0 * 2 ^ (fs.getD q Fl.none).s)) = orFn v n (fs.take q) + v.getD (fs.getD q Fl.none).p 0 * 2 ^ (fs.getD q Fl.none).s := by
  induction fs with
  | nil => intro n _ q hq; simp at hq
  | cons f fs ih =>
    intro n h q hq
    cases q with
    | zero => exact h.1
    | succ q => exact ih _ h.2 q (by simpa using hq)
theorem fits_one (z : Nat) (n : Int) (hz : sizeB z = true) (h : okB z n = true) : fitsB z [n] = true := by simp [fitsB, hz, h]
theorem inF_of {v : List Int} {p s l : Nat} (h : inF v ⟨p, s, l⟩ = true) : 0 ≤ v.getD p 0 ∧ v.getD p 0 ≤ (l : Int) := by simpa [inF] using h
theorem one_ok (v : List Int) (z p l : Nat) (hz : sizeB z = true) (hl : (l : Int) < top z) (hs : l < 65536) (h : inF v ⟨p, 0, l⟩ = true) : stO' v 0 [⟨p, 0, l⟩] ∧ fitsB z [orF v [⟨p, 0, l⟩]] = true := by
  have hb := inF_of h
  refine ⟨⟨?_, trivial⟩, fits_one _ _ hz ?_⟩
  · generalize v.getD p 0 = x at *
    show bits .or .i64 0 (wrap64 (x * 2 ^ 0)) = 0 + x * 2 ^ 0
    rw [show x * 2 ^ 0 = x by omega, w64s _ (by omega) (by omega)]
    exact orI 0 _ 16 (by decide) (by decide) (by decide) (by decide) (by omega) (by omega)
  · show okB z (0 + v.getD p 0 * 2 ^ 0) = true
    generalize v.getD p 0 = x at *
    rw [show 0 + x * 2 ^ 0 = x by omega]
    simp [okB]; omega
theorem none_ok (v : List Int) (z : Nat) (hz : sizeB z = true) : stO' v 0 [] ∧ fitsB z [orF v []] = true := by
  refine ⟨trivial, fits_one _ _ hz ?_⟩
  show okB z 0 = true
  have : 0 < top z := by unfold top; split; decide; split <;> decide
  simp [okB]; omega
theorem bit7_ok (v : List Int) (p : Nat) (h : inF v ⟨p, 7, 1⟩ = true) : stO' v 0 [⟨p, 7, 1⟩] ∧ fitsB 1 [orF v [⟨p, 7, 1⟩]] = true := by
  have hb := inF_of h
  refine ⟨⟨?_, trivial⟩, fits_one _ _ rfl ?_⟩
  · generalize v.getD p 0 = x at *
    show bits .or .i64 0 (wrap64 (x * 2 ^ 7)) = 0 + x * 2 ^ 7
    rw [w64s _ (by omega) (by omega)]
    exact orI 0 _ 16 (by decide) (by decide) (by decide) (by decide) (by omega) (by omega)
  · show okB 1 (0 + v.getD p 0 * 2 ^ 7) = true
    generalize v.getD p 0 = x at *
    simp [okB, top]; omega
theorem dao_ok (v : List Int) (h1 : inF v ⟨7, 7, 1⟩ = true) (h2 : inF v ⟨10, 6, 1⟩ = true) : stO' v 0 [⟨7, 7, 1⟩, ⟨10, 6, 1⟩] ∧ fitsB 1 [orF v [⟨7, 7, 1⟩, ⟨10, 6, 1⟩]] = true := by
  have hb := inF_of h1
  have hc := inF_of h2
  refine ⟨⟨(bit7_ok v 7 h1).1.1, ?_, trivial⟩, fits_one _ _ rfl ?_⟩
  · show bits .or .i64 (0 + v.getD 7 0 * 2 ^ 7) (wrap64 (v.getD 10 0 * 2 ^ 6)) = 0 + v.getD 7 0 * 2 ^ 7 + v.getD 10 0 * 2 ^ 6
    generalize v.getD 7 0 = x at *
    generalize v.getD 10 0 = y at *
    rw [w64s _ (by omega) (by omega)]
    exact orI _ _ 7 (by decide) (by omega) (by omega) (by omega) (by omega) (by omega)
  · show okB 1 (0 + v.getD 7 0 * 2 ^ 7 + v.getD 10 0 * 2 ^ 6) = true
    generalize v.getD 7 0 = x at *
    generalize v.getD 10 0 = y at *
    simp [okB, top]; omega
theorem dio_ok (v : List Int) (h1 : inF v ⟨3, 7, 1⟩ = true) (h2 : inF v ⟨4, 3, 7⟩ = true) (h3 : inF v ⟨5, 0, 7⟩ = true) : stO' v 0 [⟨3, 7, 1⟩, ⟨4, 3, 7⟩, ⟨5, 0, 7⟩] ∧ fitsB 1 [orF v [⟨3, 7, 1⟩, ⟨4, 3, 7⟩, ⟨5, 0, 7⟩]] = true := by
  have hb := inF_of h1
  have hc := inF_of h2
  have hd := inF_of h3
  refine ⟨⟨(bit7_ok v 3 h1).1.1, ?_, ?_, trivial⟩, fits_one _ _ rfl ?_⟩
  · show bits .or .i64 (0 + v.getD 3 0 * 2 ^ 7) (wrap64 (v.getD 4 0 * 2 ^ 3)) = 0 + v.getD 3 0 * 2 ^ 7 + v.getD 4 0 * 2 ^ 3
    generalize v.getD 3 0 = x at *
    generalize v.getD 4 0 = y at *
    rw [w64s _ (by omega) (by omega)]
    exact orI _ _ 7 (by decide) (by omega) (by omega) (by omega) (by omega) (by omega)
  · show bits .or .i64 (0 + v.getD 3 0 * 2 ^ 7 + v.getD 4 0 * 2 ^ 3) (wrap64 (v.getD 5 0 * 2 ^ 0)) = 0 + v.getD 3 0 * 2 ^ 7 + v.getD 4 0 * 2 ^ 3 + v.getD 5 0 * 2 ^ 0
    generalize v.getD 3 0 = x at *
    generalize v.getD 4 0 = y at *
    generalize v.getD 5 0 = z at *
    rw [w64s _ (by omega) (by omega)]
    exact orI _ _ 3 (by decide) (by omega) (by omega) (by omega) (by omega) (by omega)
  · show okB 1 (0 + v.getD 3 0 * 2 ^ 7 + v.getD 4 0 * 2 ^ 3 + v.getD 5 0 * 2 ^ 0) = true
    generalize v.getD 3 0 = x at *
    generalize v.getD 4 0 = y at *
    generalize v.getD 5 0 = z at *
    simp [okB, top]; omega
theorem parts_ok (k : Nat) (hk : k < 4) (v : List Int) (h : witV k v = true) : ∀ p ∈ cpa k, stO' v 0 p.f ∧ fitsB p.z [orF v p.f] = true := by
  have h1 : (cpa k).all (inP v) = true := by simp [witV] at h ⊢; exact h.1
  have hk' : k = 0 ∨ k = 1 ∨ k = 2 ∨ k = 3 := by omega
  rcases hk' with rfl | rfl | rfl | rfl
  · intro p hp
    simp only [cpa, cpas, List.getD_cons_zero, List.mem_singleton] at hp
    subst hp
    exact none_ok v 2 rfl
  · simp only [cpa, cpas, List.getD_cons_zero, List.getD_cons_succ, inP, List.all_cons, List.all_nil, Bool.and_true, Bool.and_eq_true] at h1
    obtain ⟨a0, a1, a2, ⟨b1, b2, b3⟩, a4⟩ := h1
    intro p hp
    simp only [cpa, cpas, List.getD_cons_zero, List.getD_cons_succ, List.mem_cons, List.not_mem_nil, or_false] at hp
    rcases hp with rfl | rfl | rfl | rfl | rfl | rfl
    · exact one_ok v 1 0 255 rfl (by decide) (by decide) a0
    · exact one_ok v 1 1 255 rfl (by decide) (by decide) a1
    · exact one_ok v 2 2 65535 rfl (by decide) (by decide) a2
    · exact dio_ok v b1 b2 b3
    · exact one_ok v 1 6 255 rfl (by decide) (by decide) a4
    · exact none_ok v 2 rfl
  · simp only [cpa, cpas, List.getD_cons_zero, List.getD_cons_succ, inP, List.all_cons, List.all_nil, Bool.and_true, Bool.and_eq_true] at h1
    obtain ⟨a0, ⟨b1, b2⟩, _, a3⟩ := h1
    intro p hp
    simp only [cpa, cpas, List.getD_cons_zero, List.getD_cons_succ, List.mem_cons, List.not_mem_nil, or_false] at hp
    rcases hp with rfl | rfl | rfl | rfl
    · exact one_ok v 1 0 255 rfl (by decide) (by decide) a0
    · exact dao_ok v b1 b2
    · exact none_ok v 1 rfl
    · exact one_ok v 1 8 255 rfl (by decide) (by decide) a3
  · simp only [cpa, cpas, List.getD_cons_zero, List.getD_cons_succ, inP, List.all_cons, List.all_nil, Bool.and_true, Bool.and_eq_true] at h1
    obtain ⟨a0, b1, a2, a3⟩ := h1
    intro p hp
    simp only [cpa, cpas, List.getD_cons_zero, List.getD_cons_succ, List.mem_cons, List.not_mem_nil, or_false] at hp
    rcases hp with rfl | rfl | rfl | rfl
    · exact one_ok v 1 0 255 rfl (by decide) (by decide) a0
    · exact bit7_ok v 10 b1
    · exact one_ok v 1 8 255 rfl (by decide) (by decide) a2
    · exact one_ok v 1 9 255 rfl (by decide) (by decide) a3
end Go.Proofs.YtbfjkhafdkhhmaaDoor

namespace Go.Proofs.YtbfjkhafdkhhmaaDoor
open Go.ChangeShapes Go.WideShapes Go.ChangeAt Go.RowKit Go.Deep
set_option linter.unusedVariables false
set_option linter.unusedSimpArgs false

theorem and_field (a s t : Nat) : a &&& ((2 ^ t - 1) * 2 ^ s) = a / 2 ^ s % 2 ^ t * 2 ^ s := by
  apply Nat.eq_of_testBit_eq
  intro i
  rw [Nat.testBit_and, ← Nat.shiftLeft_eq, ← Nat.shiftLeft_eq, Nat.testBit_shiftLeft, Nat.testBit_shiftLeft, Nat.testBit_two_pow_sub_one, Nat.testBit_mod_two_pow, Nat.testBit_div_two_pow]
  by_cases h : s ≤ i
  · have e : i - s + s = i := by omega
    have e2 : s + (i - s) = i := by omega
    simp [h, e, e2, Bool.and_comm]
  · simp [h]
theorem not_part (a m : Nat) (ha : a < 18446744073709551616) (hm : m < 18446744073709551616) : (a &&& (18446744073709551615 - m)) + (a &&& m) = a := by
  have h1 : (BitVec.ofNat 64 a &&& ~~~BitVec.ofNat 64 m) &&& (BitVec.ofNat 64 a &&& BitVec.ofNat 64 m) = 0#64 := by
    ext i hi
    simp
    intro _ h2 _
    exact h2
  have h2 := BitVec.add_eq_or_of_and_eq_zero _ _ h1
  have h3 : (BitVec.ofNat 64 a &&& ~~~BitVec.ofNat 64 m) ||| (BitVec.ofNat 64 a &&& BitVec.ofNat 64 m) = BitVec.ofNat 64 a := by
    ext i hi
    simp
    cases (BitVec.ofNat 64 a)[i] <;> cases (BitVec.ofNat 64 m)[i] <;> simp
  rw [h3] at h2
  have h4 := congrArg BitVec.toNat h2
  rw [BitVec.toNat_add, BitVec.toNat_and, BitVec.toNat_and, BitVec.toNat_not, BitVec.toNat_ofNat, BitVec.toNat_ofNat, Nat.mod_eq_of_lt (by omega : a < 2 ^ 64), Nat.mod_eq_of_lt (by omega : m < 2 ^ 64)] at h4
  have e : 2 ^ 64 - 1 - m = 18446744073709551615 - m := by omega
  rw [e] at h4
  have l1 : a &&& m ≤ a := Nat.and_le_left
  have l2 : a &&& (18446744073709551615 - m) ≤ a := Nat.and_le_left
  by_cases hlt : (a &&& (18446744073709551615 - m)) + (a &&& m) < 2 ^ 64
  · rw [Nat.mod_eq_of_lt hlt] at h4; exact h4
  · exfalso
    omega
/-- A field's value, and what is left. -/
def fval (n : Int) (f : Fl) : Int := n / 2 ^ f.s % ((f.l : Int) + 1)
def fleft (n : Int) (f : Fl) : Int := n - fval n f * 2 ^ f.s
theorem fval_bd (n : Int) (f : Fl) : 0 ≤ fval n f ∧ fval n f ≤ f.l := by
  unfold fval
  have h1 := Int.emod_nonneg (n / 2 ^ f.s) (show ((f.l : Int) + 1) ≠ 0 by omega)
  have h2 := Int.emod_lt_of_pos (n / 2 ^ f.s) (show (0 : Int) < (f.l : Int) + 1 by omega)
  omega
/-- A field of a number below 65536. -/
def FOk (f : Fl) : Prop := ∃ t, f.l + 1 = 2 ^ t ∧ f.s + t ≤ 16
theorem fval_and (n : Int) (f : Fl) (hf : FOk f) (h0 : 0 ≤ n) (h1 : n < 65536) : bits .and .i64 (n / 2 ^ f.s) (f.l : Int) = fval n f := by
  obtain ⟨t, ht, hs⟩ := hf
  obtain ⟨A, rfl⟩ := Int.eq_ofNat_of_zero_le h0
  have hd : ((A : Nat) : Int) / 2 ^ f.s = ((A / 2 ^ f.s : Nat) : Int) := by simp
  have hA : A / 2 ^ f.s ≤ A := Nat.div_le_self _ _
  have hl : f.l = 2 ^ t - 1 := by omega
  have ht16 : 2 ^ t ≤ 2 ^ 16 := Nat.pow_le_pow_right (by decide) (by omega)
  rw [hd, i64_and _ _ (by omega) (by omega), hl, Nat.and_two_pow_sub_one_eq_mod, fval, hd]
  have : (((2 ^ t - 1 : Nat) : Int)) + 1 = ((2 ^ t : Nat) : Int) := by have := Nat.two_pow_pos t; omega
  rw [hl, this]; simp
theorem fleft_bd (n : Int) (f : Fl) (hf : FOk f) (h0 : 0 ≤ n) (h1 : n < 65536) : 0 ≤ fleft n f ∧ fleft n f < 65536 ∧ bits .andNot .i64 n (wrap64 ((f.l : Int) * 2 ^ f.s)) = fleft n f := by
  obtain ⟨t, ht, hs⟩ := hf
  obtain ⟨A, rfl⟩ := Int.eq_ofNat_of_zero_le h0
  have hA : A < 65536 := by omega
  have hl : f.l = 2 ^ t - 1 := by omega
  have hpos : 0 < 2 ^ f.s := Nat.two_pow_pos _
  have hm : (2 ^ t - 1) * 2 ^ f.s < 65536 := by
    have h3 : 2 ^ t * 2 ^ f.s ≤ 2 ^ 16 := by rw [← Nat.pow_add]; exact Nat.pow_le_pow_right (by decide) (by omega)
    have h4 : (2 ^ t - 1) * 2 ^ f.s + 2 ^ f.s = 2 ^ t * 2 ^ f.s := by
      rw [Nat.sub_mul, Nat.one_mul]
      have : 2 ^ f.s ≤ 2 ^ t * 2 ^ f.s := Nat.le_mul_of_pos_left _ (Nat.two_pow_pos t)
      omega
    omega
  have hfield := and_field A f.s t
  have hsum := not_part A ((2 ^ t - 1) * 2 ^ f.s) (by omega) (by omega)
  have hv : fval (A : Int) f = ((A / 2 ^ f.s % 2 ^ t : Nat) : Int) := by
    rw [fval, hl]
    have : (((2 ^ t - 1 : Nat) : Int)) + 1 = ((2 ^ t : Nat) : Int) := by have := Nat.two_pow_pos t; omega
    rw [this]; simp
  have hcast : ((f.l : Int) * 2 ^ f.s) = (((2 ^ t - 1) * 2 ^ f.s : Nat) : Int) := by rw [hl]; simp
  have hle : A / 2 ^ f.s % 2 ^ t * 2 ^ f.s ≤ A := by rw [← hfield]; exact Nat.and_le_left
  have hfl : fleft (A : Int) f = ((A - A / 2 ^ f.s % 2 ^ t * 2 ^ f.s : Nat) : Int) := by
    rw [fleft, hv, Int.ofNat_sub hle]; simp
  refine ⟨by rw [hfl]; omega, by rw [hfl]; omega, ?_⟩
  rw [hcast, w64s _ (by omega) (by omega), i64_andNot _ _ (by omega) (by omega), hfl]
  congr 1
  omega
theorem cpa_fok : ∀ k, k < 4 → ∀ p ∈ cpa k, (p.z = 1 ∨ p.z = 2) ∧ ∀ f ∈ p.f, FOk f := by
  have h1 : FOk ⟨0, 0, 255⟩ ∧ FOk ⟨1, 0, 255⟩ ∧ FOk ⟨2, 0, 65535⟩ ∧ FOk ⟨3, 7, 1⟩ ∧ FOk ⟨4, 3, 7⟩ ∧ FOk ⟨5, 0, 7⟩ ∧ FOk ⟨6, 0, 255⟩ ∧ FOk ⟨7, 7, 1⟩ ∧ FOk ⟨10, 6, 1⟩ ∧ FOk ⟨8, 0, 255⟩ ∧ FOk ⟨10, 7, 1⟩ ∧ FOk ⟨9, 0, 255⟩ :=
    ⟨⟨8, rfl, by decide⟩, ⟨8, rfl, by decide⟩, ⟨16, rfl, by decide⟩, ⟨1, rfl, by decide⟩, ⟨3, rfl, by decide⟩, ⟨3, rfl, by decide⟩, ⟨8, rfl, by decide⟩, ⟨1, rfl, by decide⟩, ⟨1, rfl, by decide⟩, ⟨8, rfl, by decide⟩, ⟨1, rfl, by decide⟩, ⟨8, rfl, by decide⟩⟩
  intro k hk
  have hk' : k = 0 ∨ k = 1 ∨ k = 2 ∨ k = 3 := by omega
  rcases hk' with rfl | rfl | rfl | rfl <;> simp [cpa, cpas, h1]
/-- Fields taken one behind the other: what is left, and the values. -/
def rdFs (fs : List Fl) (s : Int × List Int) : Int × List Int := fs.foldl (fun s f => (fleft s.1 f, s.2.set f.p (fval s.1 f))) s
theorem rdFs_succ (fs : List Fl) (s : Int × List Int) (j : Nat) (h : j < fs.length) : rdFs (fs.take (j + 1)) s = (fleft (rdFs (fs.take j) s).1 (fs.getD j Fl.none), (rdFs (fs.take j) s).2.set (fs.getD j Fl.none).p (fval (rdFs (fs.take j) s).1 (fs.getD j Fl.none))) := by
  rw [rdFs, rdFs, List.take_succ_eq_append_getElem h, List.foldl_append]; simp [h]
theorem rdFs_bd (fs : List Fl) (hf : ∀ f ∈ fs, FOk f) : ∀ s : Int × List Int, 0 ≤ s.1 → s.1 < 65536 → 0 ≤ (rdFs fs s).1 ∧ (rdFs fs s).1 < 65536 ∧ (rdFs fs s).2.length = s.2.length := by
  induction fs with
  | nil => intro s h0 h1; exact ⟨h0, h1, rfl⟩
  | cons f fs ih =>
    intro s h0 h1
    have hb := fleft_bd s.1 f (hf f (by simp)) h0 h1
    have := ih (fun x hx => hf x (by simp [hx])) (fleft s.1 f, s.2.set f.p (fval s.1 f)) hb.1 hb.2.1
    refine ⟨this.1, this.2.1, ?_⟩
    rw [show rdFs (f :: fs) s = rdFs fs (fleft s.1 f, s.2.set f.p (fval s.1 f)) from rfl, this.2.2]
    simp
end Go.Proofs.YtbfjkhafdkhhmaaDoor

namespace Go.Proofs.YtbfjkhafdkhhmaaDoor
open Go.ChangeShapes Go.WideShapes Go.ChangeAt Go.RowKit Go.Deep
set_option linter.unusedVariables false
set_option linter.unusedSimpArgs false

theorem fillO' (k : Int) (na : Option Addr) (nl nc : Nat) (l : List Int) (a0 a1 a2 a3 a4 a5 a6 a7 a8 a9 a10 a11 a12 a13 a14 a15 : Int) (ta : Option Addr) (tl tc : Nat) (m : List Int) :
    Instr.fill (fun i => some (i * 19, 19)) ((Array.range (1 * 19)).map ((Value.agg Ov.zero.cs).cells[· % (Value.agg Ov.zero.cs).cells.size]!)) [(0, .agg (Ov.cs ⟨k, ⟨na, nl, nc, l⟩, [a0, a1, a2, a3, a4, a5, a6, a7, a8, a9, a10, a11, a12, a13, a14, a15], ⟨ta, tl, tc, m⟩⟩))] = some (Ov.cs ⟨k, ⟨na, nl, nc, l⟩, [a0, a1, a2, a3, a4, a5, a6, a7, a8, a9, a10, a11, a12, a13, a14, a15], ⟨ta, tl, tc, m⟩⟩) := by kernel_rfl
theorem fillO (o : Ov) (h : o.ad.length = 16) : Instr.fill (fun i => some (i * 19, 19)) ((Array.range (1 * 19)).map ((Value.agg Ov.zero.cs).cells[· % (Value.agg Ov.zero.cs).cells.size]!)) [(0, .agg o.cs)] = some o.cs := by
  obtain ⟨k, ⟨na, nl, nc, l⟩, ad, ⟨ta, tl, tc, m⟩⟩ := o
  simp only at h
  match ad, h with
  | [a0, a1, a2, a3, a4, a5, a6, a7, a8, a9, a10, a11, a12, a13, a14, a15], _ => exact fillO' k na nl nc l a0 a1 a2 a3 a4 a5 a6 a7 a8 a9 a10 a11 a12 a13 a14 a15 ta tl tc m
/-- A type of slices of options. -/
structure ST (ts t : TypeId) : Prop where
  und : Tryd.prog.underlying ts = some (.slice t)
  ot : OTo t
theorem s23 : ST 27 54 := ⟨Tryd.underlying27, o43⟩
theorem s22 : ST 23 57 := ⟨Tryd.underlying23, o38⟩
theorem cells_zero : (Value.agg Ov.zero.cs).cells.size = 19 := by rw [Value.cells]; rfl
/-- A slice of one option. -/
theorem bsO {ops : Array Oper} {rest : List Oper} {o : Oper} {a : Act} {w : World} {Q : Exit → Act → World → Prop} {ts t : TypeId} (hT : ST ts t) (hg : o.guard = none) (y : Operand) (ho : o.op = .buildSlice ts 1 #[(0, y)])
    (v : Ov) (hl : Adr v.ad) (hy : a.eval y = .agg v.cs) (h : wpList Tryd.prog ops Q rest (a.put o.dst (.slice (some ⟨w.heap.size, 0, none⟩) 1 1)) (w.alloc (.cells v.cs t))) : wpList Tryd.prog ops Q (o :: rest) a w := by
  obtain ⟨ie, hi, hz, hs, hb⟩ := info_parts hT.ot.zero
  refine wpList_buildSlice hg ts t 1 _ ho v.cs ie _ hT.und hi hz (by rw [hs]; decide) (by rw [hs]; decide) ?_ h
  rw [hs]
  simp only [List.map_toArray, List.map_cons, List.map_nil, hy]
  exact fillO v hl.1
theorem step_bsO {ops : Array Oper} {o : Oper} {a : Act} {w : World} {K : Act → World → Prop} {Q : Exit → Act → World → Prop} {E : Prop} {ts t : TypeId} (hT : ST ts t) (hg : o.guard = none) (y : Operand) (ho : o.op = .buildSlice ts 1 #[(0, y)])
    (v : Ov) (hl : Adr v.ad) (hy : a.eval y = .agg v.cs) (h : K (a.put o.dst (.slice (some ⟨w.heap.size, 0, none⟩) 1 1)) (w.alloc (.cells v.cs t))) :
    if Region.wanted o (yielded ops a.tmps) = true then Oper.wp Tryd.prog o a w K Q else E := by
  rw [if_pos (by simp [Region.wanted, hg])]
  obtain ⟨ie, hi, hz, hs, hb⟩ := info_parts hT.ot.zero
  refine wp_buildSlice ts t 1 _ ho v.cs ie _ hT.und hi hz (by rw [hs]; decide) (by rw [hs]; decide) ?_ h
  rw [hs]
  simp only [List.map_toArray, List.map_cons, List.map_nil, hy]
  exact fillO v hl.1
theorem news_row {w : World} {g : Nat} {t : TypeId} {cs : Array Value} (h : Row w g t cs) : ∀ j u, cs.toList[j]? = some u → w.cell? ((⟨g, 0, none⟩ : Addr).add j) = some u := by
  intro j u hj
  rw [Addr.add_lit, Nat.zero_add, h.cell]
  simpa using hj
theorem one_list (v : Ov) : ∀ u ∈ v.cs.toList, u.oneCell' = true := by
  intro u hu
  have := v.one
  rw [Array.all_eq_true_iff_forall_mem] at this
  exact this u (by simpa using hu)
/-- An option more. -/
theorem step_pushO {ops : Array Oper} {o : Oper} {a : Act} {w : World} {K : Act → World → Prop} {Q : Exit → Act → World → Prop} {E : Prop} {ts t : TypeId} (hT : ST ts t) (hg : o.guard = none) (s y : Operand)
    (ho : o.op = .call { callee := .builtin .append, args := #[s, y], argTypes := #[ts, ts] }) (base m g : Nat) (v : Value) (xs : List Value) (hs : a.eval s = v) (hown : w.ownsRow base t 19 v m xs)
    (x : Ov) (hl : Adr x.ad) (hx : a.eval y = .slice (some ⟨g, 0, none⟩) 1 1) (hr : Row w g t x.cs) (hb : base ≤ w.heap.size) (hm : m ≤ 200000)
    (h : ∀ v' w', w'.ownsRow base t 19 v' (m + 1) (xs ++ x.cs.toList) → w.grownBy w' v.ownBlock → K (a.put o.dst v') w') :
    if Region.wanted o (yielded ops a.tmps) = true then Oper.wp Tryd.prog o a w K Q else E := by
  rw [if_pos (by simp [Region.wanted, hg])]
  obtain ⟨ie, hi, hz, hz1, hz2⟩ := info_parts hT.ot.zero
  refine wp_append_own w s y ts ho base t ie _ 19 72 hT.und hi hz hz1 hz2 cells_zero (by decide) v m xs hs hown ⟨g, 0, none⟩ 1 1 x.cs.toList hx (by rw [Array.length_toList, Ov.size hl]) (news_row hr) (one_list x) (by unfold maxLen; omega) (by omega) hb ?_
  intro v' w' h2 h3 _
  exact h v' w' h2 h3
/-- Numbers that lie somewhere, behind a row of the call's own, in a region that draws its order. -/
theorem step_appI {ops : Array Oper} {o : Oper} {a : Act} {w : World} {K : Act → World → Prop} {Q : Exit → Act → World → Prop} {E : Prop} {base n m cap : Nat} {v : Value} {xs l : List Int} {ao : Option Addr} (hg : o.guard = none) (s x : Operand)
    (ho : o.op = .call { callee := .builtin .append, args := #[s, x], argTypes := #[52, 52] }) (hs : a.eval s = v) (hx : a.eval x = .slice ao m cap)
    (hown : w.ownsRow base 3 1 v n (i64s xs)) (hl : Lies .i64 w ao m cap l) (hb : base ≤ w.heap.size) (hm : n + m ≤ 200000)
    (h : ∀ v' w', w'.ownsRow base 3 1 v' (n + m) (i64s (xs ++ l)) → w.grownBy w' v.ownBlock → K (a.put o.dst v') w') :
    if Region.wanted o (yielded ops a.tmps) = true then Oper.wp Tryd.prog o a w K Q else E := by
  rw [if_pos (by simp [Region.wanted, hg])]
  obtain ⟨ie, hi, hz, hz1, hz2⟩ := info_parts info3
  cases ao with
  | some ad =>
    refine wp_append_own w s x 52 ho base 3 ie _ 1 8 Tryd.underlying52 hi hz hz1 hz2 rfl (by decide) v n _ hs hown ad m cap (l.map (Value.int .i64)) hx (by rw [List.length_map, hl.1]; omega) (hl.cells ad rfl) (ints_oneCell8 l .i64) (by unfold maxLen; omega) (by omega) hb ?_
    intro v' w' h2 h3 _
    exact h v' w' (by rw [i64s, List.map_append]; exact h2) h3
  | none =>
    obtain ⟨rfl, rfl⟩ := hl.isNil rfl
    have hn : l = [] := List.eq_nil_of_length_eq_zero hl.1
    subst hn
    have hrun := run_append_owned_none (P := Tryd.prog) (w := w) base 52 o.type 3 ie 1 Tryd.underlying52 hi v n _ hown
    unfold Oper.wp
    simp [execOp, ho, resolve, invoke, builtin, hs, hx, hrun, Result.andThen]
    exact h v w (by simpa using hown) (World.grownBy.refl _ _)
theorem yields_ldo {P : Program} {ops : Array Oper} {S : World → Prop} {op : Oper} {a : Act} (hw : Region.wanted op (yielded ops a.tmps) = true) (ty : TypeId) (x : Operand) (ho : op.op = .load ty x)
    (g off : Nat) (hx : a.eval x = .pointer (some ⟨g, off, none⟩)) (cs : Array Value) (d : TypeDesc) (hS : ∀ w, S w → Part w g off cs)
    (hu : P.underlying ty = some d) (hd : (match d with | .struct _ | .array _ _ => true | _ => false) = true) (hi : (P.info? ty).map (·.size) = some cs.size) : YieldsIf P ops S op (.agg cs) a :=
  .inl ⟨hw, fun w hw' => by
    unfold execOp
    simp only [ho, hx, Instr.loadAt, Instr.sureAddr, Sem.run_bind, Sem.run_pure, Result.andThen_ok, run_loadVar_part w g off ty cs d (hS w hw') hu hd hi]⟩
theorem yld36 {ops : Array Oper} {S : World → Prop} {op : Oper} {a : Act} (hw : Region.wanted op (yielded ops a.tmps) = true) (x : Operand) (ho : op.op = .load 22 x)
    (g off : Nat) (hx : a.eval x = .pointer (some ⟨g, off, none⟩)) (l : List Int) (hl : Adr l) (hS : ∀ w, S w → Part w g off (arr l)) : YieldsIf Tryd.prog ops S op (.agg (arr l)) a :=
  yields_ldo hw 22 x ho g off hx (arr l) _ hS Tryd.underlying22 rfl (by rw [arr_size, hl.1]; exact size36)
theorem yld41 {ops : Array Oper} {S : World → Prop} {op : Oper} {a : Act} (hw : Region.wanted op (yielded ops a.tmps) = true) (x : Operand) (ho : op.op = .load 26 x)
    (g off : Nat) (hx : a.eval x = .pointer (some ⟨g, off, none⟩)) (l : List Int) (hl : Adr l) (hS : ∀ w, S w → Part w g off (arr l)) : YieldsIf Tryd.prog ops S op (.agg (arr l)) a :=
  yields_ldo hw 26 x ho g off hx (arr l) _ hS Tryd.underlying26 rfl (by rw [arr_size, hl.1]; exact size41)
theorem yldOo {ops : Array Oper} {S : World → Prop} {op : Oper} {a : Act} {t : TypeId} (ht : OTo t) (hw : Region.wanted op (yielded ops a.tmps) = true) (x : Operand) (ho : op.op = .load t x)
    (g off : Nat) (hx : a.eval x = .pointer (some ⟨g, off, none⟩)) (v : Ov) (hl : Adr v.ad) (hS : ∀ w, S w → Part w g off v.cs) : YieldsIf Tryd.prog ops S op (.agg v.cs) a := by
  obtain ⟨fs, h1⟩ := ht.desc
  exact yields_ldo hw t x ho g off hx v.cs _ hS h1 rfl (by rw [Ov.size hl]; exact ht.info)
theorem ybdO {ops : Array Oper} {S : World → Prop} {op : Oper} {a : Act} {t : TypeId} (ht : OTo t) (hw : Region.wanted op (yielded ops a.tmps) = true) (x0 x1 x2 x3 : Operand) (ho : op.op = .build t #[(0, x0), (1, x1), (2, x2), (3, x3)])
    (h : Ov) (hl : Adr h.ad) (h0 : a.eval x0 = .int .i64 h.k) (h1 : a.eval x1 = h.n.v) (h2 : a.eval x2 = .agg (arr h.ad)) (h3 : a.eval x3 = h.t.v) : YieldsIf Tryd.prog ops S op (.agg h.cs) a :=
  .inl ⟨hw, fun w _ => by
    have hf : Tryd.prog.built t ((#[(0, x0), (1, x1), (2, x2), (3, x3)] : Array (Nat × Operand)).map fun (i, x) => (i, a.eval x)).toList = some h.cs := by
      simp only [List.map_toArray, List.map_cons, List.map_nil, h0, h1, h2, h3]; exact ht.full h hl.1
    unfold execOp
    simp only [ho, Sem.run_bind, run_build w t _ h.cs hf, Result.andThen_ok]
    rfl⟩
end Go.Proofs.YtbfjkhafdkhhmaaDoor

namespace Go.Proofs.YtbfjkhafdkhhmaaDoor
open Go.ChangeShapes Go.WideShapes Go.ChangeAt Go.RowKit Go.Deep
set_option linter.unusedVariables false
set_option linter.unusedSimpArgs false

theorem not_mem_take {l : List Int} {x : Int} {k : Nat} (hk : k < l.length) (h : ¬ x ∈ l.take k) (hne : ¬ x = l.getD k 0) : ¬ x ∈ l.take (k + 1) := by
  rw [List.take_succ_eq_append_getElem hk, List.mem_append]
  intro h'
  rcases h' with h' | h'
  · exact h h'
  · simp at h'; exact hne (by simp [hk, h'])
theorem index_any (a : Option Addr) (n cap : Nat) (l : List Int) (x : Int) (w : World) (h : Lies .i64 w a n cap l) :
    Calls Tryd.prog 74 #[.slice a n cap, .int .i64 x] w fun e w' => (∃ r : Int, e = .returned (.int .i64 r) ∧ decide (0 ≤ r) = decide (x ∈ l)) ∧ w' = w := by
  obtain ⟨hl, hlc, hcm, _, hc⟩ := h
  unfold maxLen at hcm
  have HC : Hid _ := hc
  have HL : Hid (l.length = n) := hl
  clear hc hl
  go_enter Tryd.func74, Tryd.ntmps74
  go_wp2
  go_loop [8] (fun i => ∃ k : Nat, k ≤ n ∧ i = .int .i64 k ∧ Hid (¬ x ∈ l.take k)) (fun i => n - (intOf i).toNat)
  case atStart => exact ⟨0, Nat.zero_le _, rfl, by rw [Hid]; simp⟩
  case round =>
    obtain ⟨k, hk, rfl, hno⟩ := hrel
    by_cases hlt : k < n
    · obtain ⟨b, off, rfl, hcell⟩ := HC.out k hlt
      have hlt' : (k : Int) < (n : Int) := by omega
      have HM : Hid (l.getD k 0 ∈ l) := by rw [Hid]; simp [show k < l.length by rw [HL.out]; exact hlt]
      have HN : Hid (¬ x = l.getD k 0 → ¬ x ∈ l.take (k + 1)) := not_mem_take (by rw [HL.out]; exact hlt) hno.out
      generalize l.getD k 0 = z at *
      by_cases hz : x = z
      · have he : (x == z) = true := by simp [hz]
        have HZ := hid hz
        clear hz
        go_wp2
        go_ret
        exact ⟨⟨_, rfl, by rw [HZ.out]; simp [HM.out]⟩, rfl⟩
      · have he : (x == z) = false := by simp [hz]
        have HZ := hid hz
        clear hz
        go_wp2
        go_round
        case rel => exact ⟨k + 1, by omega, by go_num, HN.out HZ.out⟩
        case measure => simp [intOf]; omega
    · obtain rfl : k = n := by omega
      go_wp2
      go_ret
      refine ⟨⟨_, rfl, ?_⟩, rfl⟩
      have := hno.out
      rw [List.take_of_length_le (by rw [HL.out]; exact Nat.le_refl _)] at this
      simp [this]
theorem contains_any (a : Option Addr) (n cap : Nat) (l : List Int) (x : Int) (w : World) (h : Lies .i64 w a n cap l) :
    Calls Tryd.prog 45 #[.slice a n cap, .int .i64 x] w fun e w' => e = .returned (.bool (decide (x ∈ l))) ∧ w' = w := by
  have HL := hid h
  clear h
  go_enter Tryd.func45, Tryd.ntmps45
  go_wp2_with fail
  refine (index_any a n cap l x _ HL.out).mono ?_
  rintro e w1 ⟨⟨r, rfl, hr⟩, rfl⟩
  have HR := hid hr
  clear hr
  go_wp2_with fail
  go_ret
  exact ⟨ret_bool HR.out, rfl⟩
/-- Is an option of one of some kinds? -/
def hitB (ks : List Int) (k : Int) : Bool := decide (k ∈ ks)
theorem oneOf1_any (o : Ov) (g : Nat) (ka : Option Addr) (kn kc : Nat) (ks : List Int) (w : World) (hc : w.cell? ⟨g, 0, none⟩ = some (.slice ka kn kc)) (hk : Lies .i64 w ka kn kc ks) :
    Calls Tryd.prog 88 #[.agg o.cs, .pointer (some ⟨g, 0, none⟩)] w fun e w' => e = .returned (.bool (hitB ks o.k)) ∧ Below w.heap.size w w' := by
  have HR0 := hid (Row.new w 54 o.cs)
  have B0 := hid (balloc (Below.refl w.heap.size w) (.cells o.cs 54))
  have K0 := hid (hk.below B0.out)
  have C0 := hid ((B0.out.cell (p := ⟨g, 0, none⟩) (World.block_lt_of_cell? w _ hc)).trans hc)
  clear hk hc
  go_enter Tryd.func88, Tryd.ntmps88
  go_upto_region 1 with fail
  generalize hw1 : w.alloc (.cells o.cs 54) = w1 at *
  have c0 := (HR0.out.cell 0).trans o.at0
  have d0 := C0.out
  clear hw1
  go_wp2_with fail
  refine (contains_any ka kn kc ks o.k _ K0.out).mono ?_
  rintro e w1 ⟨rfl, rfl⟩
  go_wp2_with fail
  go_ret
  exact ⟨rfl, B0.out⟩
theorem oneOf_any (ka : Option Addr) (kn kc : Nat) (w : World) :
    Calls Tryd.prog 72 #[.slice ka kn kc] w fun e w' => e = .returned (.func (.func 88) #[] #[.pointer (some ⟨w.heap.size, 0, none⟩)]) ∧ w' = w.alloc (.cells #[.slice ka kn kc] 52) := by
  have hmf : ∀ (fn : Fn) (first cap : Array Value) (w : World), (Instr.makeFunc fn first cap).run Tryd.prog w = .ok (.func fn first cap) w := fun _ _ _ _ => rfl
  go_enter Tryd.func72, Tryd.ntmps72
  go_wp2_with fail
  go_ret
  exact ⟨rfl, rfl⟩
/-- Which is the first one? -/
def firstAt (ks : List Int) (L : List Ov) (r : Int) : Prop := (r = -1 ∧ ∀ o ∈ L, hitB ks o.k = false) ∨ ∃ i : Nat, i < L.length ∧ r = i ∧ hitB ks (L.getD i Ov.zero).k = true ∧ ∀ j, j < i → hitB ks (L.getD j Ov.zero).k = false
set_option maxRecDepth 100000 in
set_option maxHeartbeats 800000 in
theorem indexFunc_any (a : Option Addr) (n cap : Nat) (L : List Ov) (g : Nat) (ka : Option Addr) (kn kc : Nat) (ks : List Int) (w : World) (hL : Opts w a n cap L) (hc : w.cell? ⟨g, 0, none⟩ = some (.slice ka kn kc)) (hk : Lies .i64 w ka kn kc ks) :
    Calls Tryd.prog 71 #[.slice a n cap, .func (.func 88) #[] #[.pointer (some ⟨g, 0, none⟩)]] w fun e w' => (∃ r : Int, e = .returned (.int .i64 r) ∧ Hid (firstAt ks L r)) ∧ Below w.heap.size w w' := by
  have k1 := Nat.le_trans hL.le hL.max
  unfold maxLen at k1
  have HL := hid hL
  have HK := hid hk
  have HC := hid hc
  have ll := hid hL.len
  clear hL hk hc
  go_enter Tryd.func71, Tryd.ntmps71
  go_wp2_with fail
  go_loopw [8] (fun i wr => ∃ j : Nat, j ≤ n ∧ i = .int .i64 j ∧ Hid (∀ i, i < j → hitB ks (L.getD i Ov.zero).k = false) ∧ Hid (Below w.heap.size w wr)) (fun i _ => n - (intOf i).toNat)
  case atStart => exact ⟨0, Nat.zero_le _, rfl, (fun i hi => by omega), Below.refl _ _⟩
  case round =>
    obtain ⟨j, hj, rfl, hno, hb⟩ := hrel
    by_cases hlt : j < n
    · have hlt' : (j : Int) < (n : Int) := by omega
      obtain ⟨b1, off1, rfl, hp1⟩ := (HL.out.below hb.out).cell j hlt
      have ok1 := (HL.out.below hb.out).at j hlt
      generalize hoo : L.getD j Ov.zero = o at *
      have HOO := hid hoo
      have P1 := hid hp1
      have A1 := hid ok1.ad
      have K1 := hid (HK.out.below hb.out)
      have C1 := hid ((hb.out.cell (p := ⟨g, 0, none⟩) (World.block_lt_of_cell? w _ HC.out)).trans HC.out)
      clear hp1 ok1 hoo
      go_wp2_with (refine ldOo o43 _ rfl rfl _ _ rfl o A1.out P1.out ?_)
      refine (oneOf1_any o g ka kn kc ks _ C1.out K1.out).mono ?_
      rintro e w2 ⟨rfl, hb2⟩
      have B2 := hid (bthen hb.out hb2)
      clear hb2
      cases hh : hitB ks o.k
      · go_wp2_with fail
        go_roundw
        case rel =>
          refine ⟨j + 1, by omega, by go_num, ?_, B2.out⟩
          intro i hi
          by_cases hij : i = j
          · rw [hij, HOO.out]; exact hh
          · exact hno.out i (by omega)
        case measure => simp [intOf]; omega
      · go_wp2_with fail
        go_ret
        refine ⟨⟨_, rfl, .inr ⟨j, by rw [ll.out]; exact hlt, rfl, by rw [HOO.out]; exact hh, hno.out⟩⟩, B2.out⟩
    · obtain rfl : j = n := by omega
      go_wp2_with fail
      go_ret
      refine ⟨⟨_, rfl, .inl ⟨rfl, fun o ho => ?_⟩⟩, hb.out⟩
      obtain ⟨i, hi, rfl⟩ := List.mem_iff_getElem.1 ho
      have := hno.out i (by rw [← ll.out]; exact hi)
      simpa [hi] using this
end Go.Proofs.YtbfjkhafdkhhmaaDoor
