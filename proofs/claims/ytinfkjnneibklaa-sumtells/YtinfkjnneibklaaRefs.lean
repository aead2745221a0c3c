/- What the document's own sum answers: a contract. -/
import Derived.Test.YtinfkjnneibklaaAdd
namespace Go.Proofs.Ytinfkjnneibklaa
open Go.ChangeShapes Go.WideShapes Go.ChangeAt Go.RowKit
set_option linter.unusedVariables false
set_option linter.unusedSimpArgs false

theorem wsum_one (l : List Int) (k : Nat) (h : k < l.length) (hp : k % 2 = 0) : wsum 0 (l.take (k + 1)) = wsum 0 (l.take k) + 256 * l.getD k 0 := by
  rw [take_snoc l k h, wsum_app]
  have : (l.take k).length = k := by simp; omega
  rw [this]
  simp [wsum, wt, hp]
  omega
theorem wsum_pair (l : List Int) (k : Nat) (h : k + 1 < l.length) (hp : k % 2 = 0) : wsum 0 (l.take (k + 2)) = wsum 0 (l.take k) + 256 * l.getD k 0 + l.getD (k + 1) 0 := by
  rw [show k + 2 = (k + 1) + 1 by omega, take_snoc l (k + 1) h, wsum_app, wsum_one l k (by omega) hp]
  have : (l.take (k + 1)).length = k + 1 := by simp; omega
  rw [this]
  have hq : ¬ ((0 + (k + 1)) % 2 = 0) := by omega
  simp only [wsum, wt, if_neg hq]
  omega

set_option maxHeartbeats 800000 in
theorem refSum_any (a : Option Addr) (n cap : Nat) (l : List Int) (w : World) (h : Lies .u8 w a n cap l) (ho : Oct l) (hs : n ≤ 10000000) :
    Calls Try.prog 9 #[.slice a n cap] w fun e w' => e = .returned (.int .i64 (sumV l)) ∧ w' = w := by
  have H := hid h
  have HO := hid ho
  clear h ho
  have HW : Hid (∀ k, 0 ≤ wsum 0 (l.take k) ∧ wsum 0 (l.take k) ≤ 652800000000) := by
    intro k
    have := wsum_bd 0 (l.take k) (oct_take HO.out k)
    have h2 : (l.take k).length ≤ 10000000 := by have := H.out.1; simp; omega
    omega
  go_enter Try.func9, Try.ntmps9
  go_wp2_with fail
  go_loop [3, 4] (fun v i => ∃ k : Nat, k ≤ n + 1 ∧ Hid (k % 2 = 0) ∧ i = .int .i64 k ∧ v = .int .i64 (wsum 0 (l.take k))) (fun _ i => n + 1 - (intOf i).toNat)
  case atStart => exact ⟨0, Nat.zero_le _, rfl, rfl, by simp [wsum]⟩
  case round =>
    obtain ⟨k, hk, hp, rfl, rfl⟩ := hrel
    by_cases hlt : k < n
    · obtain ⟨b, off, rfl, hcell⟩ := H.out.2.2.2.2 k hlt
      have hx := HO.out.at k (by rw [H.out.1]; exact hlt)
      have hw := HW.out k
      by_cases hlt2 : k + 1 < n
      · obtain ⟨b2, off2, he2, hcell2⟩ := H.out.2.2.2.2 (k + 1) hlt2
        obtain ⟨rfl, rfl⟩ : b2 = b ∧ off2 = off := by simp at he2; exact ⟨he2.1.symm, he2.2.symm⟩
        clear he2
        have hx2 := HO.out.at (k + 1) (by rw [H.out.1]; exact hlt2)
        have HS := hid (wsum_pair l k (by rw [H.out.1]; exact hlt2) hp.out)
        generalize wsum 0 (l.take k) = s at *
        generalize l.getD k 0 = x at *
        generalize l.getD (k + 1) 0 = y at *
        have hd : decide (((k : Int) + 1) < (n : Int)) = true := by simp; omega
        go_wp2_with fail
        go_round
        case rel => exact ⟨k + 2, by omega, by have := hp.out; rw [Hid]; omega, by go_num, by rw [HS.out]⟩
        case measure => simp [intOf]; omega
      · have HS := hid (wsum_one l k (by rw [H.out.1]; exact hlt) hp.out)
        have HT : Hid (l.take (k + 2) = l.take (k + 1)) := by
          have := H.out.1
          rw [Hid, List.take_of_length_le (by omega), List.take_of_length_le (by omega)]
        generalize wsum 0 (l.take k) = s at *
        generalize l.getD k 0 = x at *
        have hd : decide (((k : Int) + 1) < (n : Int)) = false := by simp; omega
        have hd2 : decide ((k + 1) < n) = false := by simp; omega
        go_wp2_with fail
        go_round
        case rel => exact ⟨k + 2, by omega, by have := hp.out; rw [Hid]; omega, by go_num, by rw [HT.out, HS.out]⟩
        case measure => simp [intOf]; omega
    · have HT : Hid (l.take k = l) := List.take_of_length_le (by rw [H.out.1]; omega)
      have hw := HW.out k
      rw [HT.out] at hw ⊢
      have HV : Hid (norm (wsum 0 l) = sumV l) := rfl
      generalize wsum 0 l = s at *
      have hd : decide ((k : Int) < (n : Int)) = false := by simp; omega
      have hd2 : decide (k < n) = false := by simp; omega
      go_wp2_with fail
      go_loop [3] (fun v => ∃ m : Int, v = .int .i64 m ∧ 0 ≤ m ∧ m ≤ 652800000000 ∧ Hid (norm m = sumV l)) (fun v => (intOf v).toNat)
      case atStart => exact ⟨s, rfl, hw.1, hw.2, HV.out⟩
      case round =>
        obtain ⟨m, rfl, h0, hm, hn⟩ := hrel
        by_cases hgt : 65535 < m
        · go_wp2_with fail
          go_round
          case rel => exact ⟨m - 65535, by go_num, by omega, by omega, by rw [Hid, norm_less m hgt]; exact hn.out⟩
          case measure => simp [intOf]; omega
        · go_wp2_with fail
          go_ret
          exact ⟨ret_int (by rw [← hn.out, norm_id m h0 (by omega)]), rfl⟩
end Go.Proofs.Ytinfkjnneibklaa
