/- What slices.Grow and slices.Concat answer here: contracts. -/
import Derived.Test.YtinfkjnneibklaaActs
import Derived.Lib.AppendZeros
namespace Go.Proofs.Ytinfkjnneibklaa
open Go.ChangeShapes Go.WideShapes Go.ChangeAt Go.RowKit
set_option linter.unusedVariables false
set_option linter.unusedSimpArgs false

theorem zeros_size (n : Nat) : (Builtin.zeroCells (Value.int IntKind.u8 0).cells n).size = n := by
  simp [Builtin.zeroCells, Value.cells]

theorem grow_nil (k : Nat) (w : World) (h0 : 0 < k) (hk : k ≤ 100000) :
    Calls Try.prog 28 #[.slice none 0 0, .int .i64 k] w fun e w' => ∃ v, e = .returned v ∧ w'.ownsRow w.heap.size 5 1 v 0 [] ∧ Below w.heap.size w w' := by
  obtain ⟨i0, hi, hz0, hz1, hz2⟩ := info_parts info5
  have hrun := fun ty => Lib.run_append_nil_zeros (P := Try.prog) w 27 3 ty 5 i0 (.int .u8 0) .i64 .i64 Try.underlying27 Try.underlying3 hi hz0 k h0 (by rw [hz1]; omega) (by omega) (by rw [hz2]; omega)
  have hge := grownCap_ge w k 0 5
  have hle := grownCap_le_maxLen w k 0 5 (by unfold maxLen; omega)
  have hO : Hid ((w.drew.alloc (.cells (Builtin.zeroCells (Value.int .u8 0).cells k ++ Builtin.zeroCells (Value.int .u8 0).cells (grownCap w k 0 5 - k)) 5)).ownsRow w.heap.size 5 1 (.slice (some ⟨w.heap.size, 0, none⟩) 0 (grownCap w k 0 5)) 0 []) := by
    refine ⟨by simp, .inr ⟨w.heap.size, _, _, rfl, Nat.le_refl _, heap_alloc_new w.drew _, by omega, hle, ?_, by simp⟩⟩
    rw [Array.size_append, zeros_size, zeros_size]; omega
  have HB : Hid (Below w.heap.size w (w.drew.alloc (.cells (Builtin.zeroCells (Value.int .u8 0).cells k ++ Builtin.zeroCells (Value.int .u8 0).cells (grownCap w k 0 5 - k)) 5))) := by
    have := bdrew (Below.refl w.heap.size w) 1
    exact balloc this _
  have HR := hid hrun
  unfold maxLen at hle
  clear hrun
  generalize grownCap w k 0 5 = g at *
  generalize (w.drew.alloc (.cells (Builtin.zeroCells (Value.int .u8 0).cells k ++ Builtin.zeroCells (Value.int .u8 0).cells (g - k)) 5)) = w1 at *
  go_enter Try.func28, Try.ntmps28
  go_wp2_with (at_builtin; refine Lib.wpList_append_run _ rfl _ _ _ _ rfl _ _ rfl rfl _ _ (HR.out _) ?_)
  go_ret
  exact ⟨_, rfl, hO.out, HB.out⟩

set_option maxHeartbeats 800000 in
theorem concat_any (w : World) (a : Option Addr) (n cap : Nat) (L : List Txt) (hL : Texts w a n cap L) (h0 : 0 < (bytes L).length) (hs : (bytes L).length ≤ 100000) :
    Calls Try.prog 26 #[.slice a n cap] w fun e w' => ∃ v, e = .returned v ∧ w'.ownsRow w.heap.size 5 1 v (bytes L).length (u8s (bytes L)) ∧ Below w.heap.size w w' := by
  have HL := hid hL
  have hcm : n ≤ maxLen := Nat.le_trans hL.2.1 hL.2.2.1
  unfold maxLen at hcm
  have HM : Hid (∀ k, (bytes (L.take k)).length ≤ 100000) := fun k => Nat.le_trans (bytes_take_le L k) hs
  have H0 := hid h0
  have HS := hid hs
  obtain ⟨i0, hi, hz0, hz1, hz2⟩ := info_parts info5
  clear hL h0 hs
  go_enter Try.func26, Try.ntmps26
  go_wp2_with fail
  go_loop [3, 11] (fun v i => ∃ k : Nat, k ≤ n ∧ i = .int .i64 k ∧ v = .int .i64 (bytes (L.take k)).length) (fun _ i => n - (intOf i).toNat)
  case atStart => exact ⟨0, Nat.zero_le _, rfl, by simp [bytes]⟩
  case round =>
    obtain ⟨k, hk, rfl, rfl⟩ := hrel
    by_cases hlt : k < n
    · obtain ⟨b, off, rfl, hcell⟩ := HL.out.2.2.2.1 k hlt
      have hkl : k < L.length := by rw [HL.out.1]; exact hlt
      have hok := HL.out.2.2.2.2 (L.getD k Txt.none) (by simp [hkl])
      have HB : Hid ((bytes (L.take (k + 1))).length = (bytes (L.take k)).length + (L.getD k Txt.none).n) := by rw [Hid, bytes_snoc L k hkl, List.length_append, hok.1.1]
      have hm1 := HM.out (k + 1)
      rw [HB.out] at hm1
      clear hok hkl
      generalize L.getD k Txt.none = t at *
      obtain ⟨ta, tn, tc, tl⟩ := t
      simp only [Txt.v] at hcell HB hm1
      generalize (bytes (L.take k)).length = m at *
      have hd : decide (((m : Int) + (tn : Int)) < 0) = false := by simp; omega
      go_wp2_with fail
      go_round
      case rel => exact ⟨k + 1, by omega, by go_num, by rw [HB.out]; go_num⟩
      case measure => simp [intOf]; omega
    · obtain rfl : k = n := by omega
      have hd : decide ((k : Int) < (k : Int)) = false := by simp
      rw [List.take_of_length_le (by rw [HL.out.1]; exact Nat.le_refl _)]
      have HN := hid H0.out
      generalize hbn : (bytes L).length = bn at *
      have Hbn := hid hbn
      clear hbn
      go_wp2_with fail
      refine (grow_nil bn _ HN.out HS.out).mono ?_
      rintro e w1 ⟨v1, rfl, hown1, hb1⟩
      have O1 := hid hown1
      have B1 := hid hb1
      clear hown1 hb1
      go_wp2_with fail
      go_loopw [6, 27] (fun v i wr => ∃ j : Nat, j ≤ k ∧ i = .int .i64 j ∧ Hid (wr.ownsRow w.heap.size 5 1 v (bytes (L.take j)).length (u8s (bytes (L.take j)))) ∧ Hid (Below w.heap.size w wr)) (fun _ i _ => k - (intOf i).toNat)
      case atStart => exact ⟨0, Nat.zero_le _, rfl, by simpa [bytes, u8s, Hid] using O1.out, B1.out⟩
      case round =>
        obtain ⟨j, hj, rfl, hO, hB⟩ := hrel
        by_cases hlj : j < k
        · obtain ⟨b, off, rfl, hcell⟩ := (HL.out.below hB.out).2.2.2.1 j hlj
          have hkl : j < L.length := by rw [HL.out.1]; exact hlj
          have hok := HL.out.2.2.2.2 (L.getD j Txt.none) (by simp [hkl])
          have HJ := hid (bytes_snoc L j hkl)
          have hm1 := HM.out (j + 1)
          rw [HJ.out, List.length_append, hok.1.1] at hm1
          clear hkl
          generalize L.getD j Txt.none = t at *
          obtain ⟨ta, tn, tc, tl⟩ := t
          have HT := hid hok.1
          simp only [Txt.v] at hcell HJ hm1 HT
          clear hok
          generalize bytes (L.take j) = M at *
          generalize hMn : M.length = mn at *
          have HMn := hid hMn
          clear hMn
          go_wp2_with (at_builtin; refine wpList_append_own_any _ rfl _ _ 27 rfl w.heap.size 5 i0 (.int .u8 0) 1 1 Try.underlying27 hi hz0 hz1 hz2 rfl (by decide) _ _ _ rfl hO.out ta tn tc (u8s tl) rfl ?c1 ?c2 ?c3 (ints_oneCell8 _ _) ?c4 ?c5 ?c6 ?_)
          case c1 => simp [u8s]; exact HT.out.1
          case c2 => exact HT.out.isNil
          case c3 => exact (HT.out.below hB.out).cells
          case c4 => unfold maxLen; omega
          case c5 => omega
          case c6 => exact hB.out.size
          intro v5 w5 hown5 hb5
          have O5 := hid hown5
          have B5 := hid (hB.out.trans hb5)
          clear hown5 hb5
          go_wp2_with fail
          go_roundw
          case rel => exact ⟨j + 1, by omega, by go_num, by rw [Hid, HJ.out]; exact ownsRow_u8 O5.out (by rw [List.length_append, HMn.out, HT.out.1]) (by simp [u8s]), B5.out⟩
          case measure => simp [intOf]; omega
        · obtain rfl : j = k := by omega
          go_wp2_with fail
          go_ret
          refine ⟨_, rfl, ?_, hB.out⟩
          have := hO.out
          rwa [List.take_of_length_le (by rw [HL.out.1]; exact Nat.le_refl _)] at this
end Go.Proofs.Ytinfkjnneibklaa
