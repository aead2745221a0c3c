/- Fields that are taken out of a number. · Reading: are all bytes that are left 0? · Reading: skipZeros. · Reading: takeParts. · Cursors whose bytes are their own; a reader and an option in memory. -/
import Derived.Test.YtbfjkhafdkhhmaaDoorM9
import Derived.Test.YtbfjkhafdkhhmaaDoorM6
import Derived.Test.YtbfjkhafdkhhmaaDoorM5
namespace Go.Proofs.YtbfjkhafdkhhmaaDoor
open Go.ChangeShapes Go.WideShapes Go.ChangeAt Go.RowKit Go.Deep
set_option linter.unusedVariables false
set_option linter.unusedSimpArgs false

theorem and_field (a s t : Nat) : a &&& ((2 ^ t - 1) * 2 ^ s) = a / 2 ^ s % 2 ^ t * 2 ^ s := by
  apply Nat.eq_of_testBit_eq
  intro i
  rw [Nat.testBit_and, ← Nat.shiftLeft_eq, ← Nat.shiftLeft_eq, Nat.testBit_shiftLeft, Nat.testBit_shiftLeft, Nat.testBit_two_pow_sub_one, Nat.testBit_mod_two_pow, Nat.testBit_div_two_pow]
  by_cases h : s ≤ i
  · have e : i - s + s = i := by omega
    have e2 : s + (i - s) = i := by omega
    simp [h, e, e2, Bool.and_comm]
  · simp [h]
theorem not_part (a m : Nat) (ha : a < 18446744073709551616) (hm : m < 18446744073709551616) : (a &&& (18446744073709551615 - m)) + (a &&& m) = a := by
  have h1 : (BitVec.ofNat 64 a &&& ~~~BitVec.ofNat 64 m) &&& (BitVec.ofNat 64 a &&& BitVec.ofNat 64 m) = 0#64 := by
    ext i hi
    simp
    intro _ h2 _
    exact h2
  have h2 := BitVec.add_eq_or_of_and_eq_zero _ _ h1
  have h3 : (BitVec.ofNat 64 a &&& ~~~BitVec.ofNat 64 m) ||| (BitVec.ofNat 64 a &&& BitVec.ofNat 64 m) = BitVec.ofNat 64 a := by
    ext i hi
    simp
    cases (BitVec.ofNat 64 a)[i] <;> cases (BitVec.ofNat 64 m)[i] <;> simp
  rw [h3] at h2
  have h4 := congrArg BitVec.toNat h2
  rw [BitVec.toNat_add, BitVec.toNat_and, BitVec.toNat_and, BitVec.toNat_not, BitVec.toNat_ofNat, BitVec.toNat_ofNat, Nat.mod_eq_of_lt (by omega : a < 2 ^ 64), Nat.mod_eq_of_lt (by omega : m < 2 ^ 64)] at h4
  have e : 2 ^ 64 - 1 - m = 18446744073709551615 - m := by omega
  rw [e] at h4
  have l1 : a &&& m ≤ a := Nat.and_le_left
  have l2 : a &&& (18446744073709551615 - m) ≤ a := Nat.and_le_left
  by_cases hlt : (a &&& (18446744073709551615 - m)) + (a &&& m) < 2 ^ 64
  · rw [Nat.mod_eq_of_lt hlt] at h4; exact h4
  · exfalso
    omega
/-- A field's value, and what is left. -/
def fval (n : Int) (f : Fl) : Int := n / 2 ^ f.s % ((f.l : Int) + 1)
def fleft (n : Int) (f : Fl) : Int := n - fval n f * 2 ^ f.s
theorem fval_bd (n : Int) (f : Fl) : 0 ≤ fval n f ∧ fval n f ≤ f.l := by
  unfold fval
  have h1 := Int.emod_nonneg (n / 2 ^ f.s) (show ((f.l : Int) + 1) ≠ 0 by omega)
  have h2 := Int.emod_lt_of_pos (n / 2 ^ f.s) (show (0 : Int) < (f.l : Int) + 1 by omega)
  omega
/-- A field of a number below 65536. -/
def FOk (f : Fl) : Prop := ∃ t, f.l + 1 = 2 ^ t ∧ f.s + t ≤ 16
theorem fval_and (n : Int) (f : Fl) (hf : FOk f) (h0 : 0 ≤ n) (h1 : n < 65536) : bits .and .i64 (n / 2 ^ f.s) (f.l : Int) = fval n f := by
  obtain ⟨t, ht, hs⟩ := hf
  obtain ⟨A, rfl⟩ := Int.eq_ofNat_of_zero_le h0
  have hd : ((A : Nat) : Int) / 2 ^ f.s = ((A / 2 ^ f.s : Nat) : Int) := by simp
  have hA : A / 2 ^ f.s ≤ A := Nat.div_le_self _ _
  have hl : f.l = 2 ^ t - 1 := by omega
  have ht16 : 2 ^ t ≤ 2 ^ 16 := Nat.pow_le_pow_right (by decide) (by omega)
  rw [hd, i64_and _ _ (by omega) (by omega), hl, Nat.and_two_pow_sub_one_eq_mod, fval, hd]
  have : (((2 ^ t - 1 : Nat) : Int)) + 1 = ((2 ^ t : Nat) : Int) := by have := Nat.two_pow_pos t; omega
  rw [hl, this]; simp
theorem fleft_bd (n : Int) (f : Fl) (hf : FOk f) (h0 : 0 ≤ n) (h1 : n < 65536) : 0 ≤ fleft n f ∧ fleft n f < 65536 ∧ bits .andNot .i64 n (wrap64 ((f.l : Int) * 2 ^ f.s)) = fleft n f := by
  obtain ⟨t, ht, hs⟩ := hf
  obtain ⟨A, rfl⟩ := Int.eq_ofNat_of_zero_le h0
  have hA : A < 65536 := by omega
  have hl : f.l = 2 ^ t - 1 := by omega
  have hpos : 0 < 2 ^ f.s := Nat.two_pow_pos _
  have hm : (2 ^ t - 1) * 2 ^ f.s < 65536 := by
    have h3 : 2 ^ t * 2 ^ f.s ≤ 2 ^ 16 := by rw [← Nat.pow_add]; exact Nat.pow_le_pow_right (by decide) (by omega)
    have h4 : (2 ^ t - 1) * 2 ^ f.s + 2 ^ f.s = 2 ^ t * 2 ^ f.s := by
      rw [Nat.sub_mul, Nat.one_mul]
      have : 2 ^ f.s ≤ 2 ^ t * 2 ^ f.s := Nat.le_mul_of_pos_left _ (Nat.two_pow_pos t)
      omega
    omega
  have hfield := and_field A f.s t
  have hsum := not_part A ((2 ^ t - 1) * 2 ^ f.s) (by omega) (by omega)
  have hv : fval (A : Int) f = ((A / 2 ^ f.s % 2 ^ t : Nat) : Int) := by
    rw [fval, hl]
    have : (((2 ^ t - 1 : Nat) : Int)) + 1 = ((2 ^ t : Nat) : Int) := by have := Nat.two_pow_pos t; omega
    rw [this]; simp
  have hcast : ((f.l : Int) * 2 ^ f.s) = (((2 ^ t - 1) * 2 ^ f.s : Nat) : Int) := by rw [hl]; simp
  have hle : A / 2 ^ f.s % 2 ^ t * 2 ^ f.s ≤ A := by rw [← hfield]; exact Nat.and_le_left
  have hfl : fleft (A : Int) f = ((A - A / 2 ^ f.s % 2 ^ t * 2 ^ f.s : Nat) : Int) := by
    rw [fleft, hv, Int.ofNat_sub hle]; simp
  refine ⟨by rw [hfl]; omega, by rw [hfl]; omega, ?_⟩
  rw [hcast, w64s _ (by omega) (by omega), i64_andNot _ _ (by omega) (by omega), hfl]
  congr 1
  omega
theorem cpa_fok : ∀ k, k < 4 → ∀ p ∈ cpa k, (p.z = 1 ∨ p.z = 2) ∧ ∀ f ∈ p.f, FOk f := by
  have h1 : FOk ⟨0, 0, 255⟩ ∧ FOk ⟨1, 0, 255⟩ ∧ FOk ⟨2, 0, 65535⟩ ∧ FOk ⟨3, 7, 1⟩ ∧ FOk ⟨4, 3, 7⟩ ∧ FOk ⟨5, 0, 7⟩ ∧ FOk ⟨6, 0, 255⟩ ∧ FOk ⟨7, 7, 1⟩ ∧ FOk ⟨10, 6, 1⟩ ∧ FOk ⟨8, 0, 255⟩ ∧ FOk ⟨10, 7, 1⟩ ∧ FOk ⟨9, 0, 255⟩ :=
    ⟨⟨8, rfl, by decide⟩, ⟨8, rfl, by decide⟩, ⟨16, rfl, by decide⟩, ⟨1, rfl, by decide⟩, ⟨3, rfl, by decide⟩, ⟨3, rfl, by decide⟩, ⟨8, rfl, by decide⟩, ⟨1, rfl, by decide⟩, ⟨1, rfl, by decide⟩, ⟨8, rfl, by decide⟩, ⟨1, rfl, by decide⟩, ⟨8, rfl, by decide⟩⟩
  intro k hk
  have hk' : k = 0 ∨ k = 1 ∨ k = 2 ∨ k = 3 := by omega
  rcases hk' with rfl | rfl | rfl | rfl <;> simp [cpa, cpas, h1]
/-- Fields taken one behind the other: what is left, and the values. -/
def rdFs (fs : List Fl) (s : Int × List Int) : Int × List Int := fs.foldl (fun s f => (fleft s.1 f, s.2.set f.p (fval s.1 f))) s
theorem rdFs_succ (fs : List Fl) (s : Int × List Int) (j : Nat) (h : j < fs.length) : rdFs (fs.take (j + 1)) s = (fleft (rdFs (fs.take j) s).1 (fs.getD j Fl.none), (rdFs (fs.take j) s).2.set (fs.getD j Fl.none).p (fval (rdFs (fs.take j) s).1 (fs.getD j Fl.none))) := by
  rw [rdFs, rdFs, List.take_succ_eq_append_getElem h, List.foldl_append]; simp [h]
theorem rdFs_bd (fs : List Fl) (hf : ∀ f ∈ fs, FOk f) : ∀ s : Int × List Int, 0 ≤ s.1 → s.1 < 65536 → 0 ≤ (rdFs fs s).1 ∧ (rdFs fs s).1 < 65536 ∧ (rdFs fs s).2.length = s.2.length := by
  induction fs with
  | nil => intro s h0 h1; exact ⟨h0, h1, rfl⟩
  | cons f fs ih =>
    intro s h0 h1
    have hb := fleft_bd s.1 f (hf f (by simp)) h0 h1
    have := ih (fun x hx => hf x (by simp [hx])) (fleft s.1 f, s.2.set f.p (fval s.1 f)) hb.1 hb.2.1
    refine ⟨this.1, this.2.1, ?_⟩
    rw [show rdFs (f :: fs) s = rdFs fs (fleft s.1 f, s.2.set f.p (fval s.1 f)) from rfl, this.2.2]
    simp
end Go.Proofs.YtbfjkhafdkhhmaaDoor

namespace Go.Proofs.YtbfjkhafdkhhmaaDoor
open Go.ChangeShapes Go.WideShapes Go.ChangeAt Go.RowKit Go.Deep
set_option linter.unusedVariables false
set_option linter.unusedSimpArgs false

/-- Are there bytes other than 0? -/
def anyN (l : List Int) : Bool := l.any (fun x => x != 0)
theorem isn0_any (x : Int) (w : World) : Calls Tryd.prog 111 #[.int .u8 x] w fun e w' => e = .returned (.bool (x != 0)) ∧ w' = w := by
  go_enter Tryd.func111, Tryd.ntmps111
  go_wp2_with fail
  go_ret
  exact ⟨rfl, rfl⟩
theorem indexFunc8_any (a : Option Addr) (n cap : Nat) (l : List Int) (w : World) (h : Lies .u8 w a n cap l) :
    Calls Tryd.prog 113 #[.slice a n cap, .func (.func 111) #[] #[]] w fun e w' => (∃ r : Int, e = .returned (.int .i64 r) ∧ decide (0 ≤ r) = anyN l) ∧ w' = w := by
  obtain ⟨hl, hlc, hcm, _, hc⟩ := h
  unfold maxLen at hcm
  have HC : Hid _ := hc
  have HL : Hid (l.length = n) := hl
  clear hc hl
  go_enter Tryd.func113, Tryd.ntmps113
  go_wp2_with fail
  go_loop [8] (fun i => ∃ k : Nat, k ≤ n ∧ i = .int .i64 k ∧ Hid (anyN (l.take k) = false)) (fun i => n - (intOf i).toNat)
  case atStart => exact ⟨0, Nat.zero_le _, rfl, by rw [Hid]; simp [anyN]⟩
  case round =>
    obtain ⟨k, hk, rfl, hno⟩ := hrel
    by_cases hlt : k < n
    · obtain ⟨b, off, rfl, hcell⟩ := HC.out k hlt
      have hlt' : (k : Int) < (n : Int) := by omega
      have HM : Hid (l.getD k 0 ∈ l) := by rw [Hid]; simp [show k < l.length by rw [HL.out]; exact hlt]
      have HN : Hid ((l.getD k 0 != 0) = false → anyN (l.take (k + 1)) = false) := by
        intro hz
        rw [anyN, List.take_add_one, List.any_append, show (l.take k).any (fun x => x != 0) = false from hno.out]
        have hk' : k < l.length := by rw [HL.out]; exact hlt
        simp [hk'] at hz ⊢
        exact hz
      generalize l.getD k 0 = z at *
      go_wp2_with fail
      refine (isn0_any z _).mono ?_
      rintro e w1 ⟨rfl, rfl⟩
      cases hz : (z != 0)
      · go_wp2_with fail
        go_round
        case rel => exact ⟨k + 1, by omega, by go_num, HN.out hz⟩
        case measure => simp [intOf]; omega
      · go_wp2_with fail
        go_ret
        refine ⟨⟨_, rfl, ?_⟩, rfl⟩
        have : anyN l = true := List.any_eq_true.2 ⟨z, HM.out, hz⟩
        rw [this]; simp
    · obtain rfl : k = n := by omega
      go_wp2_with fail
      go_ret
      refine ⟨⟨_, rfl, ?_⟩, rfl⟩
      have := hno.out
      rw [List.take_of_length_le (by rw [HL.out]; exact Nat.le_refl _)] at this
      simp [this]
theorem containsFunc8_any (a : Option Addr) (n cap : Nat) (l : List Int) (w : World) (h : Lies .u8 w a n cap l) :
    Calls Tryd.prog 112 #[.slice a n cap, .func (.func 111) #[] #[]] w fun e w' => e = .returned (.bool (anyN l)) ∧ w' = w := by
  have HL := hid h
  clear h
  go_enter Tryd.func112, Tryd.ntmps112
  go_wp2_with fail
  refine (indexFunc8_any a n cap l _ HL.out).mono ?_
  rintro e w1 ⟨⟨r, rfl, hr⟩, rfl⟩
  have HR := hid hr
  clear hr
  go_wp2_with fail
  go_ret
  exact ⟨ret_bool HR.out, rfl⟩
end Go.Proofs.YtbfjkhafdkhhmaaDoor

namespace Go.Proofs.YtbfjkhafdkhhmaaDoor
open Go.ChangeShapes Go.WideShapes Go.ChangeAt Go.RowKit Go.Deep
set_option linter.unusedVariables false
set_option linter.unusedSimpArgs false

/-- What is wrong with a cursor behind Spoil. -/
def spE (er e : Int) : Int := if er = 0 then e else er
theorem spoil_any (w : World) (c : Nat) (a : Option Addr) (len cap at_ : Nat) (l : List Int) (er e : Int) (h : CurAt w c a len cap l at_ er) :
    Calls Tryd.prog 83 #[.pointer (some ⟨c, 0, none⟩), .int .i64 e] w fun e' w' => e' = .returned (.tuple #[]) ∧ CurAt w' c a len cap l at_ (spE er e) ∧ w.grownBy w' (some c) ∧ w'.heap.size = w.heap.size := by
  by_cases her : er = 0
  · subst her
    have : spE 0 e = e := by simp [spE]
    rw [this]
    exact spoil_now w c a len cap at_ l e h
  · have : spE er e = er := by simp [spE, her]
    rw [this]
    refine (spoil_was w c er e h.cell2 her).mono ?_
    rintro e' w' ⟨rfl, rfl⟩
    exact ⟨rfl, h, grownBy_drewN w' 0 _, rfl⟩
theorem rd_all (len at_ : Nat) (h : at_ ≤ len) : rdE 1 ((len : Int) - at_) (len - at_) 0 = 0 ∧ rdN 1 ((len : Int) - at_) (len - at_) 0 = len - at_ := by
  have h1 : rdE 1 ((len : Int) - at_) (len - at_) 0 = 0 := by
    unfold rdE
    have hz : sizeB 1 = true := by decide
    rw [if_pos rfl, if_neg (by rw [hz]; simp; omega), if_neg (by omega)]
  refine ⟨h1, ?_⟩
  rw [rdN, if_pos h1]; omega
/-- bytes(left) with nothing wrong. -/
theorem bytes_left (w : World) (c : Nat) (a : Option Addr) (len cap at_ : Nat) (l : List Int) (h : CurAt w c a len cap l at_ 0) :
    Calls Tryd.prog 84 #[.pointer (some ⟨c, 0, none⟩), .int .i64 ((len : Int) - at_)] w fun e w' => ∃ b cp, e = .returned (.slice b (len - at_) cp) ∧ w'.ownsRow w.heap.size 5 1 (.slice b (len - at_) cp) (len - at_) (u8s (l.drop at_)) ∧
      Lies .u8 w' b (len - at_) cp (l.drop at_) ∧ CurAt w' c a len cap l len 0 ∧ w.grownBy w' (some c) := by
  have hle := h.le
  obtain ⟨hE, hN⟩ := rd_all len at_ h.le
  have hll := h.lies.1
  have hd : (l.drop at_).take (len - at_) = l.drop at_ := List.take_of_length_le (by rw [List.length_drop]; omega)
  have hdl : (l.drop at_).length = len - at_ := by rw [List.length_drop]; omega
  have := bytes_any w c a len cap at_ l 0 ((len : Int) - at_) h
  rw [hE, hN, hd] at this
  refine this.mono ?_
  rintro e w' ⟨v, rfl, hown, hc, hg⟩
  have hown' := ownsRow_u8 hown hdl.symm rfl
  obtain ⟨b, cp, rfl, hl, _⟩ := owns_lies hown'
  rw [hdl] at hl ⊢
  rw [show at_ + (len - at_) = len by omega] at hc
  rw [hdl] at hown
  exact ⟨b, cp, rfl, hown, hl, hc, hg⟩
def zerE (l : List Int) : Int := if anyN l = true then 3 else 0
theorem skipZeros_any (w : World) (p c : Nat) (a : Option Addr) (len cap at_ : Nat) (l : List Int) (gv : Value) (hr : Row w p 153 #[.pointer (some ⟨c, 0, none⟩), gv]) (h : CurAt w c a len cap l at_ 0) :
    Calls Tryd.prog 108 #[.pointer (some ⟨p, 0, none⟩)] w fun e w' => e = .returned (.tuple #[]) ∧ CurAt w' c a len cap l len (zerE (l.drop at_)) ∧ w.grownBy w' (some c) := by
  have hpc : p ≠ c := by
    intro e
    subst e
    have := h.block
    rw [hr] at this
    simp at this
  have R0 := hid hr
  have C0 := hid h
  clear hr h
  go_enter Tryd.func108, Tryd.ntmps108
  go_wp2_with fail
  refine wp_region_held_drew (S := fun w' => w'.cell? ⟨p, 0, none⟩ = some (.pointer (some ⟨c, 0, none⟩))) (by kernel_rfl) ?_ (fun hHeld => ?_)
  · exact R0.out.cell 0
  refine wpAnyH_take (i := 0) (oi := _) (v := ?va0) rfl (by kernel_rfl) (by kernel_rfl) (by kernel_rfl) (fun _ _ _ h => h) (Or.inl ⟨by rfl, ?hya0⟩) (by assumption) ?resta0
  case hya0 => (intro w hSw; (try dsimp only at hSw); go_split_ands; go_simp; try (with_reducible rfl))
  try simp only [List.getElem_toArray, List.getElem_cons_zero, List.getElem_cons_succ, Act.put, List.setIfInBounds_toArray, List.set_cons_zero, List.set_cons_succ]
  refine wpAnyH_take (i := 1) (oi := _) (v := ?va1) rfl (by kernel_rfl) (by kernel_rfl) (by kernel_rfl) (fun _ _ _ h => h) (Or.inl ⟨by rfl, ?hya1⟩) (by assumption) ?resta1
  case hya1 => (intro w hSw; (try dsimp only at hSw); go_split_ands; go_simp; try (with_reducible rfl))
  try simp only [List.getElem_toArray, List.getElem_cons_zero, List.getElem_cons_succ, Act.put, List.setIfInBounds_toArray, List.set_cons_zero, List.set_cons_succ]
  refine wpAnyH_take (i := 2) (oi := _) (v := ?va2) rfl (by kernel_rfl) (by kernel_rfl) (by kernel_rfl) (fun _ _ _ h => h) (Or.inl ⟨by rfl, ?hya2⟩) (by assumption) ?resta2
  case hya2 => (intro w hSw; (try dsimp only at hSw); go_split_ands; go_simp; try (with_reducible rfl))
  try simp only [List.getElem_toArray, List.getElem_cons_zero, List.getElem_cons_succ, Act.put, List.setIfInBounds_toArray, List.set_cons_zero, List.set_cons_succ]
  refine wpAnyH_take (i := 3) (oi := _) (v := ?va3) rfl (by kernel_rfl) (by kernel_rfl) (by kernel_rfl) (fun _ _ _ h => h) (Or.inl ⟨by rfl, ?hya3⟩) (by assumption) ?resta3
  case hya3 => (intro w hSw; (try dsimp only at hSw); go_split_ands; go_simp; try (with_reducible rfl))
  try simp only [List.getElem_toArray, List.getElem_cons_zero, List.getElem_cons_succ, Act.put, List.setIfInBounds_toArray, List.set_cons_zero, List.set_cons_succ]
  refine wpAnyH_take (i := 4) (oi := _) (v := ?va4) rfl (by kernel_rfl) (by kernel_rfl) (by kernel_rfl) (fun _ _ _ h => h) (Or.inl ⟨by rfl, ?hya4⟩) (by assumption) ?resta4
  case hya4 => (intro w hSw; (try dsimp only at hSw); go_split_ands; go_simp; try (with_reducible rfl))
  try simp only [List.getElem_toArray, List.getElem_cons_zero, List.getElem_cons_succ, Act.put, List.setIfInBounds_toArray, List.set_cons_zero, List.set_cons_succ]
  refine wpAnyH_take (i := 5) (oi := _) (v := ?va5) rfl (by kernel_rfl) (by kernel_rfl) (by kernel_rfl) (fun _ _ _ h => h) (Or.inl ⟨by rfl, ?hya5⟩) (by assumption) ?resta5
  case hya5 => (intro w hSw; (try dsimp only at hSw); go_split_ands; go_simp; try (with_reducible rfl))
  try simp only [List.getElem_toArray, List.getElem_cons_zero, List.getElem_cons_succ, Act.put, List.setIfInBounds_toArray, List.set_cons_zero, List.set_cons_succ]
  refine wpAnyH_take (i := 6) (oi := _) (v := ?va6) rfl (by kernel_rfl) (by kernel_rfl) (by kernel_rfl) (fun _ _ _ h => h) (Or.inl ⟨by rfl, ?hya6⟩) (by assumption) ?resta6
  case hya6 => (intro w hSw; (try dsimp only at hSw); go_split_ands; go_simp; try (with_reducible rfl))
  try simp only [List.getElem_toArray, List.getElem_cons_zero, List.getElem_cons_succ, Act.put, List.setIfInBounds_toArray, List.set_cons_zero, List.set_cons_succ]
  refine wpAnyH_take (i := 7) (oi := _) (v := ?va7) rfl (by kernel_rfl) (by kernel_rfl) (by kernel_rfl) (fun _ _ _ h => h) (Or.inl ⟨by rfl, ?hya7⟩) (by assumption) ?resta7
  case hya7 => (intro w hSw; (try dsimp only at hSw); go_split_ands; go_simp; try (with_reducible rfl))
  try simp only [List.getElem_toArray, List.getElem_cons_zero, List.getElem_cons_succ, Act.put, List.setIfInBounds_toArray, List.set_cons_zero, List.set_cons_succ]
  refine wpAnyH_take (i := 10) (oi := _) (v := ?va10) rfl (by kernel_rfl) (by kernel_rfl) (by kernel_rfl) (fun _ _ _ h => h) (Or.inl ⟨by rfl, ?hya10⟩) (by assumption) ?resta10
  case hya10 => (intro w hSw; (try dsimp only at hSw); go_split_ands; go_simp; try (with_reducible rfl))
  try simp only [List.getElem_toArray, List.getElem_cons_zero, List.getElem_cons_succ, Act.put, List.setIfInBounds_toArray, List.set_cons_zero, List.set_cons_succ]
  refine wpAnyH_ready (rs := [8]) (by kernel_rfl) (by simp) ?_
  refine AllReadyH.cons (o := _) rfl (fun K hK => ?_) AllReadyH.nil
  go_simp
  refine (left_any _ c a len cap at_ l 0 (C0.out.drewN _)).mono ?_
  rintro e w1 ⟨rfl, q, rfl⟩
  go_wp2_with fail
  refine hK.out _ _ (R0.out.cell 0) (fun hHeld => ?_)
  clear hK K
  try simp only [List.getElem_toArray, List.getElem_cons_zero, List.getElem_cons_succ, Act.put, List.setIfInBounds_toArray, List.set_cons_zero, List.set_cons_succ]
  refine wpAnyH_ready (rs := [9]) (by kernel_rfl) (by simp) ?_
  refine AllReadyH.cons (o := _) rfl (fun K hK => ?_) AllReadyH.nil
  go_simp
  refine (bytes_left _ c a len cap at_ l (C0.out.drewN _)).mono ?_
  rintro e w2 ⟨b, cp, rfl, hown, hl, hc, hg⟩
  have R2 := hid ((R0.out.drewN _).kept hg (by simp [hpc]))
  have L2 := hid hl
  have C2 := hid hc
  have G2 := hid ((grownBy_drewN w _ (some c)).trans hg)
  clear hown hl hc hg
  go_wp2_with fail
  refine hK.out _ _ (R2.out.cell 0) (fun hHeld => ?_)
  clear hK K
  try simp only [List.getElem_toArray, List.getElem_cons_zero, List.getElem_cons_succ, Act.put, List.setIfInBounds_toArray, List.set_cons_zero, List.set_cons_succ]
  refine wpAnyH_ready (rs := [11]) (by kernel_rfl) (by simp) ?_
  refine AllReadyH.cons (o := _) rfl (fun K hK => ?_) AllReadyH.nil
  go_simp
  refine (containsFunc8_any _ _ _ _ _ L2.out).mono ?_
  rintro e w3 ⟨rfl, rfl⟩
  go_wp2_with fail
  refine hK.out _ _ (R2.out.cell 0) (fun hHeld => ?_)
  clear hK K
  try simp only [List.getElem_toArray, List.getElem_cons_zero, List.getElem_cons_succ, Act.put, List.setIfInBounds_toArray, List.set_cons_zero, List.set_cons_succ]
  refine wpAnyH_done (by kernel_rfl) ?_ _
  cases hz : anyN (l.drop at_)
  · have HZ : Hid (zerE (l.drop at_) = 0) := by simp [Hid, zerE, hz]
    go_wp2_with fail
    go_returns
    exact ⟨rfl, by rw [HZ.out]; exact C2.out, G2.out⟩
  · have HZ : Hid (zerE (l.drop at_) = 3) := by simp [Hid, zerE, hz]
    go_wp2_with fail
    refine (spoil_any _ c a len cap len l 0 3 C2.out).mono ?_
    rintro e w4 ⟨rfl, hc, hg, hs⟩
    have C4 := hid hc
    have G4 := hid (G2.out.trans hg)
    clear hc hg hs
    go_wp2_with fail
    go_returns
    exact ⟨rfl, by rw [HZ.out]; exact C4.out, G4.out⟩
end Go.Proofs.YtbfjkhafdkhhmaaDoor

namespace Go.Proofs.YtbfjkhafdkhhmaaDoor
open Go.ChangeShapes Go.WideShapes Go.ChangeAt Go.RowKit Go.Deep
set_option linter.unusedVariables false
set_option linter.unusedSimpArgs false

def Ov.setA (o : Ov) (F : List Int) : Ov := ⟨o.k, o.n, F, o.t⟩
theorem splice_A {o : Ov} {F : List Int} (h : Adr o.ad) (hF : F.length = 16) : (o.cs.toList.take 2 ++ u8s F ++ o.cs.toList.drop (2 + (u8s F).length)).toArray = (o.setA F).cs := by
  have e : o.cs.toList = [.int .i64 o.k, o.n.v] ++ (u8s o.ad ++ [o.t.v]) := by simp [Ov.cs, arr]
  have l1 : (u8s o.ad).length = 16 := by rw [u8s_len, h.1]
  have l2 : (u8s F).length = 16 := by rw [u8s_len, hF]
  apply Array.ext'
  rw [e, l2]
  have e1 : ([Value.int .i64 o.k, o.n.v] ++ (u8s o.ad ++ [o.t.v])).take 2 = [.int .i64 o.k, o.n.v] := rfl
  have e2 : ([Value.int .i64 o.k, o.n.v] ++ (u8s o.ad ++ [o.t.v])).drop (2 + 16) = [o.t.v] := by
    rw [show 2 + 16 = ([Value.int .i64 o.k, o.n.v] ++ u8s o.ad).length by simp [l1], ← List.append_assoc, List.drop_left]
  rw [e1, e2]
  simp [Ov.cs, Ov.setA, arr]
/-- copy(o.Addr[:], ..) as one step of a region that draws its order. -/
theorem step_copyA {ops : Array Oper} {op : Oper} {a : Act} {w : World} {K : Act → World → Prop} {Q : Exit → Act → World → Prop} {E : Prop} (hgd : op.guard = none) (d s : Operand)
    (hop : op.op = .call { callee := .builtin .copy, args := #[d, s], argTypes := #[33, 33] }) (g dCap sCap : Nat) (sp : Option Addr) (hd : a.eval d = .slice (some ⟨g, 2, none⟩) 16 dCap) (hs : a.eval s = .slice sp 16 sCap)
    (o : Ov) (hA : Adr o.ad) (hr : Row w g 54 o.cs) (F : List Int) (hl : Lies .u8 w sp 16 sCap F)
    (h : K (a.put op.dst (goInt 16)) (w.setRow g (o.setA F).cs)) :
    if Region.wanted op (yielded ops a.tmps) = true then Oper.wp Tryd.prog op a w K Q else E := by
  have hw : Region.wanted op (yielded ops a.tmps) = true := by simp [Region.wanted, hgd]
  rw [if_pos hw]
  have hF : F.length = 16 := hl.1
  have l2 : (u8s F).length = 16 := by rw [u8s_len, hF]
  obtain ⟨b, off, e, _⟩ := hl.2.2.2.2 0 (by omega)
  subst e
  have hrun := run_copy_row (P := Tryd.prog) w 33 33 op.type 5 g 2 16 dCap ⟨b, off, none⟩ 16 sCap o.cs 54 (u8s F) Tryd.underlying33 (by kernel_rfl) hr (by rw [l2]; rfl) (hl.cells _ rfl) (by rw [l2, Ov.size hA]; decide) (ints_oneCell8 F .u8)
  rw [splice_A hA hF, l2] at hrun
  unfold Oper.wp
  simp [execOp, hop, resolve, invoke, builtin, hd, hs, hrun, Result.andThen]
  exact h
/-- Reading one part more: how many bytes were read, the numbers, the address. -/
def stp (l : List Int) (s : Nat × List Int × List Int) (p : Int × Int) : Nat × List Int × List Int :=
  if (p.1 == 16) = true then (s.1 + 16, s.2.1, (l.drop s.1).take 16) else (s.1 + p.1.toNat, s.2.1 ++ [numOf ((l.drop s.1).take p.1.toNat)], s.2.2)
def stps (l : List Int) (P : List (Int × Int)) : Nat × List Int × List Int := P.foldl (stp l) (0, [], zeros)
theorem stps_succ (l : List Int) (P : List (Int × Int)) (j : Nat) (h : j < P.length) : stps l (P.take (j + 1)) = stp l (stps l (P.take j)) (P.getD j (0, 0)) := by
  rw [List.take_succ_eq_append_getElem h, stps, List.foldl_append]; simp [stps, h]
theorem stps_at (l : List Int) (P : List (Int × Int)) (h : ∀ p ∈ P, (p.1 == 16) = true ∨ sizeB p.1 = true) (j : Nat) (hj : j ≤ P.length) : ((stps l (P.take j)).1 : Int) = sumP (P.take j) := by
  induction j with
  | zero => rfl
  | succ j ih =>
    have hj' : j < P.length := by omega
    rw [stps_succ l P j hj', sumP_succ P j hj', ← ih (by omega)]
    have hm : P.getD j (0, 0) ∈ P := by simp [hj']
    rcases h _ hm with hp | hp
    · rw [stp, if_pos hp]
      have : (P.getD j (0, 0)).1 = 16 := by simpa using hp
      rw [this]; simp
    · have hne : ¬ ((P.getD j (0, 0)).1 == 16) = true := by rcases sizeB_cases hp with e | e | e <;> rw [e] <;> decide
      rw [stp, if_neg hne]
      rcases sizeB_cases hp with e | e | e <;> rw [e] <;> simp
theorem stps_adr (l : List Int) (P : List (Int × Int)) (h : ∀ p ∈ P, (p.1 == 16) = true ∨ sizeB p.1 = true) (ho : Oct l) (hl : sumP P = l.length) (j : Nat) (hj : j ≤ P.length) (hle : ∀ i, i ≤ P.length → sumP (P.take i) ≤ sumP P) : Adr (stps l (P.take j)).2.2 := by
  induction j with
  | zero => exact adr_zeros
  | succ j ih =>
    have hj' : j < P.length := by omega
    have ha := stps_at l P h j (by omega)
    have hs := sumP_succ P j hj'
    have hb := hle (j + 1) hj
    rw [stps_succ l P j hj', stp]
    split
    · rename_i h16
      have : (P.getD j (0, 0)).1 = 16 := by simpa using h16
      refine ⟨?_, ho.cut _ _⟩
      rw [List.length_take, List.length_drop]
      omega
    · exact ih (by omega)
theorem rd_n (size : Int) (len at_ : Nat) (hz : sizeB size = true) (h : (at_ : Int) + size ≤ len) : rdE size 1 (len - at_) 0 = 0 ∧ rdN size 1 (len - at_) 0 = size.toNat := by
  have h1 : rdE size 1 (len - at_) 0 = 0 := by
    unfold rdE
    rw [if_pos rfl, if_neg (by rw [hz]; simp), if_neg (by omega)]
  refine ⟨h1, ?_⟩
  rw [rdN, if_pos h1]; simp
theorem rd_b (n len at_ : Nat) (h : at_ + n ≤ len) : rdE 1 n (len - at_) 0 = 0 ∧ rdN 1 n (len - at_) 0 = n := by
  have h1 : rdE 1 n (len - at_) 0 = 0 := by
    unfold rdE
    have hz : sizeB 1 = true := by decide
    rw [if_pos rfl, if_neg (by rw [hz]; simp), if_neg (by omega)]
  refine ⟨h1, ?_⟩
  rw [rdN, if_pos h1]; simp
end Go.Proofs.YtbfjkhafdkhhmaaDoor

namespace Go.Proofs.YtbfjkhafdkhhmaaDoor
open Go.ChangeShapes Go.WideShapes Go.ChangeAt Go.RowKit Go.Deep
set_option linter.unusedVariables false
set_option linter.unusedSimpArgs false

theorem over_own (a : Option Addr) (len cap : Nat) (l : List Int) (w : World) (h : Lies .u8 w a len cap l) (ho : Oct l) (hl : len ≤ 100000) :
    Calls Tryd.prog 37 #[.slice a len cap] w fun e w' => ∃ c a' cap', e = .returned (.pointer (some ⟨c, 0, none⟩)) ∧ CurAt w' c a' len cap' l 0 0 ∧ Below w.heap.size w w' ∧ w.heap.size ≤ c ∧ c < w'.heap.size ∧ w'.ownsRow w.heap.size 5 1 (.slice a' len cap') len (u8s l) := by
  have HB := hid h
  have HO := hid ho
  clear h ho
  go_enter Tryd.func37, Tryd.ntmps37
  go_wp2_with (go_at_call 62; refine (clone_any _ _ _ l _ HB.out hl).mono ?_; rintro e w1 ⟨v1, rfl, hown1, hb1⟩; have HOW := hid hown1; obtain ⟨a1, cap1, rfl, hl1, ho1⟩ := owns_lies hown1)
  have hln : l.length = len := HB.out.1
  rw [hln] at hl1
  go_ret
  have hb2 : Below w1.heap.size w1 (w1.alloc (.cells #[.slice a1 l.length cap1, .int .i64 0, .int .i64 0] 121)) := (Below.refl _ _).alloc (Nat.le_refl _) _
  refine ⟨w1.heap.size, a1, cap1, rfl, ⟨?_, hl1.below hb2, HO.out, Nat.zero_le _, hl⟩, hb1.trans (hb2.mono hb1.size), hb1.size, by simp, ?_⟩
  rotate_left
  · have := own_below HOW.out hb2
    rw [hln] at this ⊢
    exact this
  rw [heap_alloc_new, hln]; rfl

set_option maxHeartbeats 400000 in
theorem within_own (w : World) (c : Nat) (a : Option Addr) (len cap at_ : Nat) (l : List Int) (er n : Int) (h : CurAt w c a len cap l at_ er) :
    Calls Tryd.prog 104 #[.pointer (some ⟨c, 0, none⟩), .int .i64 n] w fun e w' => ∃ c2 a2 cap2, e = .returned (.pointer (some ⟨c2, 0, none⟩)) ∧
      CurAt w' c2 a2 (rdN 1 n (len - at_) er) cap2 ((l.drop at_).take (rdN 1 n (len - at_) er)) 0 (rdE 1 n (len - at_) er) ∧
      CurAt w' c a len cap l (at_ + rdN 1 n (len - at_) er) (rdE 1 n (len - at_) er) ∧ w.grownBy w' (some c) ∧ w.heap.size ≤ c2 ∧ w'.ownsRow w.heap.size 5 1 (.slice a2 (rdN 1 n (len - at_) er) cap2) (rdN 1 n (len - at_) er) (u8s ((l.drop at_).take (rdN 1 n (len - at_) er))) := by
  have H := hid h
  have hm0 := rdN_le 1 n (len - at_) er
  have hs := h.small
  have ho := hid (h.oct.cut at_ (rdN 1 n (len - at_) er))
  clear h
  go_enter Tryd.func104, Tryd.ntmps104
  go_wp2_with fail
  refine (read_any _ c a len cap at_ l er 1 n H.out).mono ?_
  rintro e w1 ⟨a1, rfl, hl1, hc1, hg1, hs1⟩
  have HL1 := hid hl1
  have HC1 := hid hc1
  have HG1 := hid hg1
  have HS1 := hid hs1
  clear hl1 hc1 hg1 hs1
  generalize hm : rdN 1 n (len - at_) er = m at *
  generalize he : rdE 1 n (len - at_) er = er' at *
  have HM := hid hm
  have HE := hid he
  clear hm he
  go_wp2_with fail
  refine (over_own _ _ _ _ _ HL1.out ho.out (by omega)).mono ?_
  rintro e w2 ⟨c2, a2, cap2, rfl, hc2, hb2, hlo2, hhi2, hap⟩
  have HC2 := hid hc2
  have HB2 := hid hb2
  have HAP := hid hap
  clear hap
  have hcc := HC1.out.below HB2.out
  have HCC := hid hcc
  have h2 := hcc.cell2
  clear hc2 hb2 hcc
  go_wp2_with fail
  refine (err_any _ _ _ h2).mono ?_
  rintro e w2 ⟨rfl, rfl⟩
  go_wp2_with fail
  refine (spoil_now _ c2 a2 m cap2 0 _ er' HC2.out).mono ?_
  rintro e w3 ⟨rfl, hc4, hg4, hs4⟩
  have HC4 := hid hc4
  have HG4 := hid hg4
  clear hc4 hg4 hs4
  go_wp2
  go_ret
  have hlt1 : c < w1.heap.size := HC1.out.lt
  rw [HM.out, HE.out]
  refine ⟨c2, a2, cap2, rfl, HC4.out, HCC.out.grown HC2.out.noU8 (by omega) HG4.out, ?_, by have := HS1.out; omega, ?_⟩
  rotate_left
  · have := HAP.out.kept HG4.out (.inr (own_row HAP.out HC2.out.block (by decide)))
    rw [HS1.out] at this
    exact this
  have hb3 : Below w1.heap.size w1 w3 := Below.grown HB2.out HG4.out HB2.out.size (fun k hk => by cases hk; exact hlo2)
  exact grownBy_below HG1.out hb3

/-- A reader, its cursor and an option in memory. -/
structure RdAt (base : Nat) (w wr : World) (p c g : Nat) (gv : Value) (a : Option Addr) (len cap : Nat) (l : List Int) (at_ : Nat) (er : Int) (o : Ov) : Prop where
  r : Row wr p 153 #[.pointer (some ⟨c, 0, none⟩), gv]
  cur : CurAt wr c a len cap l at_ er
  win : wr.ownsRow base 5 1 (.slice a len cap) len (u8s l)
  row : Row wr g 54 o.cs
  own : Own2 base wr o
  below : Below base w wr
  hc : base ≤ c
  hg : base ≤ g
theorem CurAt.row {w : World} {c : Nat} {a : Option Addr} {len cap : Nat} {l : List Int} {at_ : Nat} {er : Int} (h : CurAt w c a len cap l at_ er) : Row w c 121 #[.slice a len cap, .int .i64 at_, .int .i64 er] := h.block
theorem Row.ne {w : World} {b d : Nat} {t u : TypeId} {cs ds : Array Value} (h : Row w b t cs) (k : Row w d u ds) (hne : t ≠ u) : b ≠ d := by
  intro e
  subst e
  rw [Row] at h k
  rw [h] at k
  simp at k
  exact hne k.2
theorem Own2.row {base g : Nat} {w w' : World} {o : Ov} {t : TypeId} {cs : Array Value} (h : Own2 base w o) (hr : Row w g t cs) (h3 : (3 : TypeId) ≠ t) (h5 : (5 : TypeId) ≠ t) (hg : w.grownBy w' (some g)) : Own2 base w' o :=
  ⟨h.n.kept hg (.inr (own_row h.n hr h3)), h.nn, h.ad, h.t.kept hg (.inr (own_row h.t hr h5)), h.tn, h.oct⟩
theorem CurAt.other {w w' : World} {c : Nat} {d : Option Nat} {a : Option Addr} {len cap : Nat} {l : List Int} {at_ : Nat} {er : Int} (h : CurAt w c a len cap l at_ er) (hcd : some c ≠ d) (ha : ∀ ad, a = some ad → some ad.block ≠ d) (hg : w.grownBy w' d) : CurAt w' c a len cap l at_ er :=
  ⟨(hg.block c h.lt hcd).trans h.block, ⟨h.lies.1, h.lies.2.1, h.lies.2.2.1, h.lies.2.2.2.1, fun k hk => by
    obtain ⟨b, off, he, hc⟩ := h.lies.2.2.2.2 k hk
    exact ⟨b, off, he, hg.cell hc (ha ⟨b, off, none⟩ he)⟩⟩, h.oct, h.le, h.small⟩
section
variable {base : Nat} {w wr w' : World} {p c g : Nat} {gv : Value} {a : Option Addr} {len cap : Nat} {l : List Int} {at_ : Nat} {er : Int} {o : Ov}
theorem RdAt.on (h : RdAt base w wr p c g gv a len cap l at_ er o) (hb : Below wr.heap.size wr w') : RdAt base w w' p c g gv a len cap l at_ er o :=
  ⟨h.r.below hb, h.cur.below hb, own_below h.win hb, h.row.below hb, h.own.below hb, h.below.trans (hb.mono (Nat.le_of_lt (Nat.lt_of_le_of_lt h.hc h.cur.lt))), h.hc, h.hg⟩
theorem RdAt.drewN (h : RdAt base w wr p c g gv a len cap l at_ er o) (q : Nat) : RdAt base w (wr.drewN q) p c g gv a len cap l at_ er o := h.on (bdrew (Below.refl _ _) q)
theorem RdAt.size (h : RdAt base w wr p c g gv a len cap l at_ er o) : base ≤ wr.heap.size := Nat.le_of_lt (Nat.lt_of_le_of_lt h.hc h.cur.lt)
theorem RdAt.read (h : RdAt base w wr p c g gv a len cap l at_ er o) {at2 : Nat} {er2 : Int} (hc : CurAt w' c a len cap l at2 er2) (hg : wr.grownBy w' (some c)) : RdAt base w w' p c g gv a len cap l at2 er2 o :=
  ⟨h.r.kept hg (fun e => h.r.ne h.cur.row (by decide) (Option.some.inj e)), hc, h.win.kept hg (.inr (own_row h.win h.cur.row (by decide))), h.row.kept hg (fun e => h.row.ne h.cur.row (by decide) (Option.some.inj e)), h.own.row h.cur.row (by decide) (by decide) hg,
    Below.grown h.below hg h.size (fun k hk => by cases hk; exact h.hc), h.hc, h.hg⟩
theorem RdAt.wrote (h : RdAt base w wr p c g gv a len cap l at_ er o) {o2 : Ov} (hr : Row w' g 54 o2.cs) (hg : wr.grownBy w' (some g)) (ho : Own2 base w' o2) : RdAt base w w' p c g gv a len cap l at_ er o2 :=
  ⟨h.r.kept hg (fun e => h.r.ne h.row (by decide) (Option.some.inj e)), h.cur.other (fun e => h.cur.row.ne h.row (by decide) (Option.some.inj e)) (fun ad e => by have := own_row h.win h.row (by decide); rw [e] at this; exact this) hg, h.win.kept hg (.inr (own_row h.win h.row (by decide))), hr, ho,
    Below.grown h.below hg h.size (fun k hk => by cases hk; exact h.hg), h.hc, h.hg⟩
/-- The address is copied. -/
theorem RdAt.setA (h : RdAt base w wr p c g gv a len cap l at_ er o) (F : List Int) (hF : Adr F) : RdAt base w (wr.setRow g (o.setA F).cs) p c g gv a len cap l at_ er (o.setA F) := by
  have hg := grownBy_setRow wr g (o.setA F).cs
  have h2 := h.own.row h.row (by decide) (by decide) hg
  exact h.wrote (h.row.setRow _) hg ⟨h2.n, h2.nn, hF, h2.t, h2.tn, h2.oct⟩
/-- A list of numbers of the call's own is laid in. -/
theorem RdAt.setN (h : RdAt base w wr p c g gv a len cap l at_ er o) (na : Option Addr) (nc : Nat) (L : List Int) (hn : wr.ownsRow base 3 1 (.slice na L.length nc) L.length (i64s L)) : RdAt base w (wr.setCell ⟨g, 1, none⟩ (.slice na L.length nc)) p c g gv a len cap l at_ er (o.setN ⟨na, L.length, nc, L⟩) := by
  have hg := grownBy_setCell wr g 1 (.slice na L.length nc)
  have h2 := h.own.row h.row (by decide) (by decide) hg
  refine h.wrote ?_ hg ⟨hn.kept hg (.inr (own_row hn h.row (by decide))), rfl, h2.ad, h2.t, h2.tn, h2.oct⟩
  rw [← Ov.set1]
  exact h.row.set 1 _
theorem RdAt.setT (h : RdAt base w wr p c g gv a len cap l at_ er o) (na : Option Addr) (nc : Nat) (L : List Int) (hn : wr.ownsRow base 5 1 (.slice na L.length nc) L.length (u8s L)) (hO : Oct L) : RdAt base w (wr.setCell ⟨g, 18, none⟩ (.slice na L.length nc)) p c g gv a len cap l at_ er (o.setT ⟨na, L.length, nc, L⟩) := by
  have hg := grownBy_setCell wr g 18 (.slice na L.length nc)
  have h2 := h.own.row h.row (by decide) (by decide) hg
  refine h.wrote ?_ hg ⟨h2.n, h2.nn, h2.ad, hn.kept hg (.inr (own_row hn h.row (by decide))), rfl, hO⟩
  rw [← Ov.set18 h.own.ad]
  exact h.row.set 18 _
/-- An append onto the option's numbers. -/
theorem RdAt.grow (h : RdAt base w wr p c g gv a len cap l at_ er o) (hg : wr.grownBy w' o.n.v.ownBlock) : Row w' p 153 #[.pointer (some ⟨c, 0, none⟩), gv] ∧ CurAt w' c a len cap l at_ er ∧ w'.ownsRow base 5 1 (.slice a len cap) len (u8s l) ∧ Row w' g 54 o.cs ∧ w'.ownsRow base 5 1 o.t.v o.t.l.length (u8s o.t.l) ∧ Below base w w' := by
  have hw := own_apart h.win h.own.n (by decide)
  have ht := own_apart h.own.t h.own.n (by decide)
  refine ⟨h.r.kept hg (fun e => own_row h.own.n h.r (by decide) e.symm), h.cur.other (fun e => own_row h.own.n h.cur.row (by decide) e.symm) ?_ hg, h.win.kept hg hw, h.row.kept hg (fun e => own_row h.own.n h.row (by decide) e.symm), h.own.t.kept hg ht,
    Below.grown h.below hg h.size (fun k hk => (h.own.n.lt k hk).1)⟩
  intro ad e
  rcases hw with hw | hw
  · rw [e] at hw; simp [Value.ownBlock] at hw
  · rw [e] at hw; exact hw
/-- An append onto the option's numbers: the row that it writes. -/
theorem RdAt.app (h : RdAt base w wr p c g gv a len cap l at_ er o) (hg : wr.grownBy w' o.n.v.ownBlock) : Row w' p 153 #[.pointer (some ⟨c, 0, none⟩), gv] ∧ Row w' g 54 o.cs :=
  ⟨h.r.kept hg (fun e => own_row h.own.n h.r (by decide) e.symm), h.row.kept hg (fun e => own_row h.own.n h.row (by decide) e.symm)⟩
end
/-- n bytes, which are there. -/
theorem bytes_n (w : World) (c : Nat) (a : Option Addr) (len cap at_ : Nat) (l : List Int) (n : Nat) (h : CurAt w c a len cap l at_ 0) (hn : at_ + n ≤ len) :
    Calls Tryd.prog 84 #[.pointer (some ⟨c, 0, none⟩), .int .i64 n] w fun e w' => ∃ b cp, e = .returned (.slice b n cp) ∧
      Lies .u8 w' b n cp ((l.drop at_).take n) ∧ CurAt w' c a len cap l (at_ + n) 0 ∧ w.grownBy w' (some c) := by
  obtain ⟨hE, hN⟩ := rd_b n len at_ hn
  have hll := h.lies.1
  have hdl : ((l.drop at_).take n).length = n := by rw [List.length_take, List.length_drop]; omega
  have := bytes_any w c a len cap at_ l 0 n h
  rw [hE, hN] at this
  refine this.mono ?_
  rintro e w' ⟨v, rfl, hown, hc, hg⟩
  have hown' := ownsRow_u8 hown hdl.symm rfl
  obtain ⟨b, cp, rfl, hl, _⟩ := owns_lies hown'
  rw [hdl] at hl ⊢
  exact ⟨b, cp, rfl, hl, hc, hg⟩
/-- A number, which is there. -/
theorem take_n (w : World) (c : Nat) (a : Option Addr) (len cap at_ : Nat) (l : List Int) (size : Int) (h : CurAt w c a len cap l at_ 0) (hz : sizeB size = true) (hn : (at_ : Int) + size ≤ len) :
    Calls Tryd.prog 82 #[.pointer (some ⟨c, 0, none⟩), .int .i64 size] w fun e w' => e = .returned (.int .i64 (numOf ((l.drop at_).take size.toNat))) ∧
      CurAt w' c a len cap l (at_ + size.toNat) 0 ∧ w.grownBy w' (some c) ∧ w'.heap.size = w.heap.size := by
  obtain ⟨hE, hN⟩ := rd_n size len at_ hz hn
  have := take_any w c a len cap at_ l 0 size h
  rw [takeV, hE, hN] at this
  exact this
end Go.Proofs.YtbfjkhafdkhhmaaDoor
