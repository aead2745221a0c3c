/- Reading: are all bytes that are left 0? -/
import Derived.Test.YtbgogeojdibmkaaDoorCpy
namespace Go.Proofs.YtbgogeojdibmkaaDoor
open Go.ChangeShapes Go.WideShapes Go.ChangeAt Go.RowKit Go.Deep
set_option linter.unusedVariables false
set_option linter.unusedSimpArgs false

/-- Are there bytes other than 0? -/
def anyN (l : List Int) : Bool := l.any (fun x => x != 0)
theorem isn0_any (x : Int) (w : World) : Calls Tryd.prog 74 #[.int .u8 x] w fun e w' => e = .returned (.bool (x != 0)) ∧ w' = w := by
  go_enter Tryd.func74, Tryd.ntmps74
  go_wp2_with fail
  go_ret
  exact ⟨rfl, rfl⟩
theorem indexFunc8_any (a : Option Addr) (n cap : Nat) (l : List Int) (w : World) (h : Lies .u8 w a n cap l) :
    Calls Tryd.prog 77 #[.slice a n cap, .func (.func 74) #[] #[]] w fun e w' => (∃ r : Int, e = .returned (.int .i64 r) ∧ decide (0 ≤ r) = anyN l) ∧ w' = w := by
  obtain ⟨hl, hlc, hcm, _, hc⟩ := h
  unfold maxLen at hcm
  have HC : Hid _ := hc
  have HL : Hid (l.length = n) := hl
  clear hc hl
  go_enter Tryd.func77, Tryd.ntmps77
  go_wp2_with fail
  go_loop [8] (fun i => ∃ k : Nat, k ≤ n ∧ i = .int .i64 k ∧ Hid (anyN (l.take k) = false)) (fun i => n - (intOf i).toNat)
  case atStart => exact ⟨0, Nat.zero_le _, rfl, by rw [Hid]; simp [anyN]⟩
  case round =>
    obtain ⟨k, hk, rfl, hno⟩ := hrel
    by_cases hlt : k < n
    · obtain ⟨b, off, rfl, hcell⟩ := HC.out k hlt
      have hlt' : (k : Int) < (n : Int) := by omega
      have HM : Hid (l.getD k 0 ∈ l) := by rw [Hid]; simp [show k < l.length by rw [HL.out]; exact hlt]
      have HN : Hid ((l.getD k 0 != 0) = false → anyN (l.take (k + 1)) = false) := by
        intro hz
        rw [anyN, List.take_add_one, List.any_append, show (l.take k).any (fun x => x != 0) = false from hno.out]
        have hk' : k < l.length := by rw [HL.out]; exact hlt
        simp [hk'] at hz ⊢
        exact hz
      generalize l.getD k 0 = z at *
      go_wp2_with fail
      refine (isn0_any z _).mono ?_
      rintro e w1 ⟨rfl, rfl⟩
      cases hz : (z != 0)
      · go_wp2_with fail
        go_round
        case rel => exact ⟨k + 1, by omega, by go_num, HN.out hz⟩
        case measure => simp [intOf]; omega
      · go_wp2_with fail
        go_ret
        refine ⟨⟨_, rfl, ?_⟩, rfl⟩
        have : anyN l = true := List.any_eq_true.2 ⟨z, HM.out, hz⟩
        rw [this]; simp
    · obtain rfl : k = n := by omega
      go_wp2_with fail
      go_ret
      refine ⟨⟨_, rfl, ?_⟩, rfl⟩
      have := hno.out
      rw [List.take_of_length_le (by rw [HL.out]; exact Nat.le_refl _)] at this
      simp [this]
theorem containsFunc8_any (a : Option Addr) (n cap : Nat) (l : List Int) (w : World) (h : Lies .u8 w a n cap l) :
    Calls Tryd.prog 75 #[.slice a n cap, .func (.func 74) #[] #[]] w fun e w' => e = .returned (.bool (anyN l)) ∧ w' = w := by
  have HL := hid h
  clear h
  go_enter Tryd.func75, Tryd.ntmps75
  go_wp2_with fail
  refine (indexFunc8_any a n cap l _ HL.out).mono ?_
  rintro e w1 ⟨⟨r, rfl, hr⟩, rfl⟩
  have HR := hid hr
  clear hr
  go_wp2_with fail
  go_ret
  exact ⟨ret_bool HR.out, rfl⟩
end Go.Proofs.YtbgogeojdibmkaaDoor
