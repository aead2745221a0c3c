/- The walk of PackReads. -/
import Derived.Test.YtlfblldaiinghaaReadsA0
import Derived.Test.YtlfblldaiinghaaReadsA1
import Derived.Test.YtlfblldaiinghaaReadsA2
import Derived.Test.YtlfblldaiinghaaReadsA3
import Derived.Test.YtlfblldaiinghaaReadsA4
import Derived.Test.YtlfblldaiinghaaReadsA5
import Derived.Test.YtlfblldaiinghaaActs
import Derived.Deep.DeepCutAuto
import Derived.Deep.RegionHeld3
namespace Go.Proofs.Ytlfblldaiinghaa
open Go.ChangeShapes Go.WideShapes Go.ChangeAt Go.RowKit
set_option linter.unusedVariables false
set_option linter.unusedSimpArgs false

set_option maxRecDepth 1000000 in
set_option maxHeartbeats 2000000 in
theorem reads_walk1 (ab al : Option Addr) (lb cb ll cl nb : Nat) (bs : List Int) (w : World) (hmin : (if (300 : Int) < (lb : Int) then (300 : Int) else (lb : Int)) = (nb : Int)) (hnb : nb ≤ lb ∧ nb ≤ 300) (hb : Lies .u8 w ab nb cb bs) (hlb : lb ≤ cb) (ho : Oct bs) (hl : ActsAt w al ll cl) :
    Calls Try.prog 4 #[.slice ab lb cb, .slice al ll cl] w fun e w' => e = .returned (.bool true) ∧ Below w.heap.size w w' := by
  have hcb := hb.2.2.1
  have hcl := hl.2.1
  have hll := hl.1
  unfold maxLen at hcb hcl
  have HB := hid hb
  have HL := hid hl
  have HO := hid ho
  obtain ⟨i0, hi, hz0, hz1, hz2⟩ := info_parts info5
  have hb0 : Below w.heap.size w (w.alloc (.cells #[] 5)) := balloc (Below.refl _ _) _
  have B0 := hid (HB.out.below hb0)
  have O0 := hid (World.ownsRow_made (e := 5) (size := 1) (base := w.heap.size) w #[] 0 (Nat.le_refl _) (by decide) (by simp))
  clear hb hl ho hb0
  go_enter Try.func4, Try.ntmps4
  go_wp2_with (at_builtin; refine wpList_append_own_any _ rfl _ _ 22 rfl w.heap.size 5 i0 (.int .u8 0) 1 1 Try.underlying22 hi hz0 hz1 hz2 rfl (by decide) _ _ _ rfl O0.out ab nb cb (u8s bs) rfl ?c1 B0.out.isNil B0.out.cells (ints_oneCell8 _ _) ?c2 ?c3 ?c4 ?_)
  case c1 => simp [u8s]; exact HB.out.1
  case c2 => unfold maxLen; omega
  case c3 => omega
  case c4 => simp
  intro v1 w1 hown1 hb1
  have hb1' : Below w.heap.size w w1 := (balloc (Below.refl _ _) _).trans hb1
  have hown1' : w1.ownsRow w.heap.size 5 1 v1 bs.length (u8s bs) := ownsRow_u8 hown1 (by rw [HB.out.1]) (by simp)
  obtain ⟨aw, cw, rfl, hl1, hk1⟩ := owns_lies hown1'
  rw [HB.out.1] at hl1 ⊢
  have W1 := hid hl1
  have WK := hid (fun y hy => (hk1 y hy).2.2.1)
  have BB1 := hid hb1'
  have X1 := hid (HB.out.below hb1')
  clear hown1 hown1' hb1 hb1' hl1 hk1 B0 O0 hmin
  go_wp2_with fail
  refine (over_any ab nb cb bs _ X1.out HO.out (by omega)).mono ?_
  rintro e w2 ⟨c, ac, capc, rfl, hc2, hb2, hlo2, hhi2⟩
  have C2 := hid hc2
  have W2 := hid (W1.out.below hb2)
  have BB2 := hid (bthen BB1.out hb2)
  have WK2 : Hid (∀ y, aw = some y → y.block < w2.heap.size) := fun y hy => by have := WK.out y hy; have := hb2.size; omega
  have hcw : w.heap.size ≤ c := by have := BB1.out.size; omega
  clear hc2 hb2 hlo2 WK BB1 X1 W1
  go_wp2_with fail
  have hb3 : Below w2.heap.size w2 (w2.alloc (.cells #[.slice aw nb cw, .int .i64 0, .int .i64 0] 44)) := balloc (Below.refl _ _) _
  have hR3 : Hid (RInv w c w2.heap.size ac nb capc bs aw cw (w2.alloc (.cells #[.slice aw nb cw, .int .i64 0, .int .i64 0] 44))) := by
    refine ⟨0, 0, aw, cw, C2.out.below hb3, ⟨?_, ?_, HO.out, by omega, by omega⟩, bthen BB2.out hb3, W2.out.below hb3, fun x hx => ⟨x, hx, rfl⟩, fun y hy => ?_⟩
    · rw [heap_alloc_new, Nat.sub_zero]; rfl
    · rw [Nat.sub_zero, List.drop_zero]; exact W2.out.below hb3
    · have := WK2.out y hy; have := hb3.size; omega
  have hcd : c ≠ w2.heap.size := by have := C2.out.lt; omega
  have hdw : w.heap.size ≤ w2.heap.size := BB2.out.size
  generalize (w2.alloc (.cells #[.slice aw nb cw, .int .i64 0, .int .i64 0] 44)) = w3 at *
  generalize w2.heap.size = d at *
  clear hb3 C2 W2 BB2 WK2 hhi2
  go_loopg [8] 30 (fun g i wr => ∃ k : Nat, k ≤ ll ∧ k + g = 30 ∧ i = .int .i64 k ∧ Hid (RInv w c d ac nb capc bs aw cw wr))
  case atStart => exact ⟨0, Nat.zero_le _, rfl, rfl, hR3⟩
  case round =>
    obtain ⟨k, hk, hk30, rfl, HR⟩ := hrel
    have hgk : gk = 30 - k := by omega
    have HG := hid hgk
    have HK30 := hid hk30
    clear hgk hk30
    by_cases hlt : k < ll ∧ k < 30
    · obtain ⟨hkl, hk3⟩ := hlt
      obtain ⟨wo, rfl⟩ : ∃ x, x = wr := ⟨_, rfl⟩
      obtain ⟨at_, er, ad, capd, hC, hD, hB, hW, hA, hKK⟩ := HR.out
      obtain ⟨b, off, K, S, N, rfl, hc0, hc1, hc2, wK, wS, wN⟩ := HL.out.2.2 k hkl
      have e0 : wo.cell? ⟨b, off + k * 3, none⟩ = _ := (hB.cell (p := ⟨b, off + k * 3, none⟩) (World.block_lt_of_cell? w _ hc0)).trans hc0
      have e1 : wo.cell? ⟨b, off + k * 3 + 1, none⟩ = _ := (hB.cell (p := ⟨b, off + k * 3 + 1, none⟩) (World.block_lt_of_cell? w _ hc1)).trans hc1
      have e2 : wo.cell? ⟨b, off + k * 3 + 2, none⟩ = _ := (hB.cell (p := ⟨b, off + k * 3 + 2, none⟩) (World.block_lt_of_cell? w _ hc2)).trans hc2
      have hbx : Below wo.heap.size wo (wo.alloc (.cells #[.int .i64 K, .int .i64 S, .int .i64 N] 46)) := balloc (Below.refl _ _) _
      obtain ⟨lf, hlf⟩ : ∃ lf, nb - at_ = lf := ⟨_, rfl⟩
      rw [hlf] at hD
      have LF := hid hlf
      have C0 := hid (hC.below hbx)
      have D0 := hid (hD.below hbx)
      have B0 := hid (bthen hB hbx)
      have W0 := hid (hW.below hbx)
      have A0 := hid hA
      have K0 : Hid (∀ y, aw = some y → y.block < (wo.alloc (.cells #[.int .i64 K, .int .i64 S, .int .i64 N] 46)).heap.size) := fun y hy => by have := hKK y hy; have := hbx.size; omega
      have hcx : c < wo.heap.size := hC.lt
      have hdx : d < wo.heap.size := hD.lt
      have WN := hid wN
      have hk1 : (k : Int) < (ll : Int) := by omega
      have hk2 : (k : Int) < 30 := by omega
      clear HR hC hD hB hW hA hKK hc0 hc1 hc2 wK wS wN hlf hbx
      go_upto_region 11 with fail
      iterate 8 go_step
      go_cut [10] from 37 to 255 (fun v wx => v = .bool true ∧ Hid (RInv w c d ac nb capc bs aw cw wx))
      case rest =>
        obtain ⟨rfl, HR9⟩ := hcut
        obtain ⟨at9, er9, ad9, capd9, hC9, hD9, hB9, hW9, hA9, hK9⟩ := HR9.out
        obtain ⟨lf9, hlf9⟩ : ∃ x, nb - at9 = x := ⟨_, rfl⟩
        rw [hlf9] at hD9
        obtain ⟨cv, hcv⟩ : ∃ cv, closeV lf9 er9 = cv := ⟨_, rfl⟩
        have CV := hid hcv
        have LF9 := hid hlf9
        have C9 := hid hC9
        have D9 := hid hD9
        have f1 : ((at9 : Int) != (at9 : Int)) = false := by simp
        have f2 : ((lf9 : Int) != (lf9 : Int)) = false := by simp
        have f3 : (er9 != er9) = false := by simp
        have f4 : (cv != cv) = false := by simp
        have g0 := hD9.cell0
        have g1 := hD9.cell1
        have g2 := hD9.cell2
        clear hcv hlf9 hC9 hD9 hB9 hW9 hA9 hK9 C0 D0 B0 W0 A0 K0 LF WN
        go_wp2_with fail
        go_quiet ((first | (go_at_call 26; exact Calls.quiet_of_same (at_any _ c _ (by exact C9.out.cell1))) | (go_at_call 27; exact Calls.quiet_of (left_lf _ c ac nb capc at9 lf9 bs er9 (C9.out.drewN _) LF9.out)) | (go_at_call 23; exact Calls.quiet_of_same (err_any _ c _ (by exact C9.out.cell2))) | (go_at_call 17; exact Calls.quiet_of (close_lf _ c ac nb capc at9 lf9 bs er9 cv (C9.out.drewN _) LF9.out CV.out)) | (go_at_call 28; exact Calls.quiet_of_same (refClose_cv _ d ad9 lf9 capd9 _ at9 er9 cv (D9.out.drewN _) CV.out))))
        go_wp2
        go_roundg (gk - 1)
        case measure => have := HG.out; omega
        case rel => exact ⟨k + 1, by omega, by have := HG.out; omega, by go_num, (HR9.out).drew9 _⟩
      case first =>
      rename_i J9 K9 hJ9 hK9
      rcases kind_cases K with hz | hz | hz | hz | hz | hz
      · exact arm0 _ (by kernel_rfl) _ _ _ _ _ _ _ _ _ _ _ _ _ _ _ _ _ _ _ _ _ _ _ _ _ _ _ _ _ _ _ _ _ _ _ _ _ _ _ _ _ _ _ _ _ _ _ _ _ _ _ _ _ _ _ _ _ _ _ _ _ _ _ _ _ _ _ _ _ _ _ _ _ _ _ _ _ _ _ _ _ _ _ _ _ _ _ _ _ _ _ _ _ _ _ _ _ _ _ _ _ _ _ _ _ _ _ _ _ _ _ _ _ _ _ _ _ _ _ _ _ _ _ _ _ _ _ _ _ _ _ _ _ _ _ _ _ _ _ _ _ _ _ _ _ _ _ _ _ _ _ _ _ _ _ _ _ _ _ _ _ _ _ _ _ _ _ _ _ _ _ _ _ _ _ _ _ _ _ _ _ _ _ _ _ _ _ _ _ _ _ _ _ _ _ _ _ _ _ _ _ _ _ _ _ _ _ _ _ _ _ _ _ _ _ _ _ _ _ _ _ _ _ _ _ _ _ _ _ _ _ _ _ _ _ _ _ _ _ _ _ _ _ _ _ _ _ _ _ _ _ _ _ _ _ _ _ _ _ _ _ _ _ _ _ _ _ _ _ _ _ _ _ _ _ _ w wo c d nb capc cw ac aw bs K S N at_ lf capd er ad J9 K9 _ (fun a' w' h => hJ9 a' w' ⟨u4, h⟩) hK9 hcw hdw hcd LF C0 D0 B0 W0 A0 K0 hcx hdx WN hnb.2 hz
      · exact arm1 _ (by kernel_rfl) _ _ _ _ _ _ _ _ _ _ _ _ _ _ _ _ _ _ _ _ _ _ _ _ _ _ _ _ _ _ _ _ _ _ _ _ _ _ _ _ _ _ _ _ _ _ _ _ _ _ _ _ _ _ _ _ _ _ _ _ _ _ _ _ _ _ _ _ _ _ _ _ _ _ _ _ _ _ _ _ _ _ _ _ _ _ _ _ _ _ _ _ _ _ _ _ _ _ _ _ _ _ _ _ _ _ _ _ _ _ _ _ _ _ _ _ _ _ _ _ _ _ _ _ _ _ _ _ _ _ _ _ _ _ _ _ _ _ _ _ _ _ _ _ _ _ _ _ _ _ _ _ _ _ _ _ _ _ _ _ _ _ _ _ _ _ _ _ _ _ _ _ _ _ _ _ _ _ _ _ _ _ _ _ _ _ _ _ _ _ _ _ _ _ _ _ _ _ _ _ _ _ _ _ _ _ _ _ _ _ _ _ _ _ _ _ _ _ _ _ _ _ _ _ _ _ _ _ _ _ _ _ _ _ _ _ _ _ _ _ _ _ _ _ _ _ _ _ _ _ _ _ _ _ _ _ _ _ _ _ _ _ _ _ _ _ _ _ _ _ _ _ _ _ _ _ w wo c d nb capc cw ac aw bs K S N at_ lf capd er ad J9 K9 _ (fun a' w' h => hJ9 a' w' ⟨u4, h⟩) hK9 hcw hdw hcd LF C0 D0 B0 W0 A0 K0 hcx hdx WN hnb.2 hz
      · exact arm2 _ (by kernel_rfl) _ _ _ _ _ _ _ _ _ _ _ _ _ _ _ _ _ _ _ _ _ _ _ _ _ _ _ _ _ _ _ _ _ _ _ _ _ _ _ _ _ _ _ _ _ _ _ _ _ _ _ _ _ _ _ _ _ _ _ _ _ _ _ _ _ _ _ _ _ _ _ _ _ _ _ _ _ _ _ _ _ _ _ _ _ _ _ _ _ _ _ _ _ _ _ _ _ _ _ _ _ _ _ _ _ _ _ _ _ _ _ _ _ _ _ _ _ _ _ _ _ _ _ _ _ _ _ _ _ _ _ _ _ _ _ _ _ _ _ _ _ _ _ _ _ _ _ _ _ _ _ _ _ _ _ _ _ _ _ _ _ _ _ _ _ _ _ _ _ _ _ _ _ _ _ _ _ _ _ _ _ _ _ _ _ _ _ _ _ _ _ _ _ _ _ _ _ _ _ _ _ _ _ _ _ _ _ _ _ _ _ _ _ _ _ _ _ _ _ _ _ _ _ _ _ _ _ _ _ _ _ _ _ _ _ _ _ _ _ _ _ _ _ _ _ _ _ _ _ _ _ _ _ _ _ _ _ _ _ _ _ _ _ _ _ _ _ _ _ _ _ _ _ _ _ _ w wo c d nb capc cw ac aw bs K S N at_ lf capd er ad J9 K9 _ (fun a' w' h => hJ9 a' w' ⟨u4, h⟩) hK9 hcw hdw hcd LF C0 D0 B0 W0 A0 K0 hcx hdx WN hnb.2 hz
      · exact arm3 _ (by kernel_rfl) _ _ _ _ _ _ _ _ _ _ _ _ _ _ _ _ _ _ _ _ _ _ _ _ _ _ _ _ _ _ _ _ _ _ _ _ _ _ _ _ _ _ _ _ _ _ _ _ _ _ _ _ _ _ _ _ _ _ _ _ _ _ _ _ _ _ _ _ _ _ _ _ _ _ _ _ _ _ _ _ _ _ _ _ _ _ _ _ _ _ _ _ _ _ _ _ _ _ _ _ _ _ _ _ _ _ _ _ _ _ _ _ _ _ _ _ _ _ _ _ _ _ _ _ _ _ _ _ _ _ _ _ _ _ _ _ _ _ _ _ _ _ _ _ _ _ _ _ _ _ _ _ _ _ _ _ _ _ _ _ _ _ _ _ _ _ _ _ _ _ _ _ _ _ _ _ _ _ _ _ _ _ _ _ _ _ _ _ _ _ _ _ _ _ _ _ _ _ _ _ _ _ _ _ _ _ _ _ _ _ _ _ _ _ _ _ _ _ _ _ _ _ _ _ _ _ _ _ _ _ _ _ _ _ _ _ _ _ _ _ _ _ _ _ _ _ _ _ _ _ _ _ _ _ _ _ _ _ _ _ _ _ _ _ _ _ _ _ _ _ _ _ _ _ _ _ w wo c d nb capc cw ac aw bs K S N at_ lf capd er ad J9 K9 _ (fun a' w' h => hJ9 a' w' ⟨u4, h⟩) hK9 hcw hdw hcd LF C0 D0 B0 W0 A0 K0 hcx hdx WN hnb.2 hz
      · exact arm4 _ (by kernel_rfl) _ _ _ _ _ _ _ _ _ _ _ _ _ _ _ _ _ _ _ _ _ _ _ _ _ _ _ _ _ _ _ _ _ _ _ _ _ _ _ _ _ _ _ _ _ _ _ _ _ _ _ _ _ _ _ _ _ _ _ _ _ _ _ _ _ _ _ _ _ _ _ _ _ _ _ _ _ _ _ _ _ _ _ _ _ _ _ _ _ _ _ _ _ _ _ _ _ _ _ _ _ _ _ _ _ _ _ _ _ _ _ _ _ _ _ _ _ _ _ _ _ _ _ _ _ _ _ _ _ _ _ _ _ _ _ _ _ _ _ _ _ _ _ _ _ _ _ _ _ _ _ _ _ _ _ _ _ _ _ _ _ _ _ _ _ _ _ _ _ _ _ _ _ _ _ _ _ _ _ _ _ _ _ _ _ _ _ _ _ _ _ _ _ _ _ _ _ _ _ _ _ _ _ _ _ _ _ _ _ _ _ _ _ _ _ _ _ _ _ _ _ _ _ _ _ _ _ _ _ _ _ _ _ _ _ _ _ _ _ _ _ _ _ _ _ _ _ _ _ _ _ _ _ _ _ _ _ _ _ _ _ _ _ _ _ _ _ _ _ _ _ _ _ _ _ _ w wo c d nb capc cw ac aw bs K S N at_ lf capd er ad J9 K9 _ (fun a' w' h => hJ9 a' w' ⟨u4, h⟩) hK9 hcw hdw hcd LF C0 D0 B0 W0 A0 K0 hcx hdx WN hnb.2 hz
      · exact arm5 _ (by kernel_rfl) _ _ _ _ _ _ _ _ _ _ _ _ _ _ _ _ _ _ _ _ _ _ _ _ _ _ _ _ _ _ _ _ _ _ _ _ _ _ _ _ _ _ _ _ _ _ _ _ _ _ _ _ _ _ _ _ _ _ _ _ _ _ _ _ _ _ _ _ _ _ _ _ _ _ _ _ _ _ _ _ _ _ _ _ _ _ _ _ _ _ _ _ _ _ _ _ _ _ _ _ _ _ _ _ _ _ _ _ _ _ _ _ _ _ _ _ _ _ _ _ _ _ _ _ _ _ _ _ _ _ _ _ _ _ _ _ _ _ _ _ _ _ _ _ _ _ _ _ _ _ _ _ _ _ _ _ _ _ _ _ _ _ _ _ _ _ _ _ _ _ _ _ _ _ _ _ _ _ _ _ _ _ _ _ _ _ _ _ _ _ _ _ _ _ _ _ _ _ _ _ _ _ _ _ _ _ _ _ _ _ _ _ _ _ _ _ _ _ _ _ _ _ _ _ _ _ _ _ _ _ _ _ _ _ _ _ _ _ _ _ _ _ _ _ _ _ _ _ _ _ _ _ _ _ _ _ _ _ _ _ _ _ _ _ _ _ _ _ _ _ _ _ _ _ _ _ w wo c d nb capc cw ac aw bs K S N at_ lf capd er ad J9 K9 _ (fun a' w' h => hJ9 a' w' ⟨u4, h⟩) hK9 hcw hdw hcd LF C0 D0 B0 W0 A0 K0 hcx hdx WN hnb.2 hz
    · obtain ⟨wo, rfl⟩ : ∃ x, x = wr := ⟨_, rfl⟩
      obtain ⟨at_, er, ad, capd, hC, hD, hB, hW, hA, hKK⟩ := HR.out
      have PB := hid (HB.out.below hB)
      have WW := hid hW
      have g1 := hD.cell1
      have BX := hid hB
      have hn3 : nb ≤ cb := PB.out.2.1
      clear HR hC hD hB hW hA hKK
      go_upto_region 8 with fail
      go_cut [44] from 37 to 255 (fun v wx => v = .bool false ∧ wx = wo)
      case first =>
        by_cases hkl : k < ll
        · have hk3 : decide ((k : Int) < 30) = false := by simp only [decide_eq_false_iff_not]; omega
          have hk1 : (k : Int) < (ll : Int) := by omega
          go_wp2_with fail
          go_meet
          case rel => exact ⟨rfl, rfl⟩
        · have hk1 : decide ((k : Int) < (ll : Int)) = false := by simp only [decide_eq_false_iff_not]; omega
          go_wp2_with fail
          go_meet
          case rel => exact ⟨rfl, rfl⟩
      case rest =>
        obtain ⟨rfl, hwc⟩ := hcut
        subst hwc
        go_wp2_with fail
        go_loopg [21] nb (fun g i wq => ∃ j : Nat, j + g = nb ∧ i = .int .i64 j ∧ ∃ q, wq = wc.drewN q)
        case atStart => exact ⟨0, by omega, rfl, 0, rfl⟩
        case round =>
          obtain ⟨j, hj, rfl, q, rfl⟩ := hrel
          by_cases hjn : j < nb
          · obtain ⟨b1, off1, rfl, c1⟩ := PB.out.2.2.2.2 j hjn
            obtain ⟨b2, off2, rfl, c2⟩ := WW.out.2.2.2.2 j hjn
            generalize bs.getD j 0 = x at *
            have fx : (x != x) = false := by simp
            have hj1 : (j : Int) < (nb : Int) := by omega
            by_cases hja : (j : Int) < (at_ : Int)
            · go_wp2_with fail
              go_quiet (fail)
              go_wp2_with fail
              go_roundg (gk - 1)
              case measure => omega
              case rel => exact ⟨j + 1, by omega, by go_num, q + nq, by first | rfl | exact World.drewN_drewN ..⟩
            · have hja' : decide ((j : Int) < (at_ : Int)) = false := by simp only [decide_eq_false_iff_not]; omega
              have hja2 : decide (j < at_) = false := by simp only [decide_eq_false_iff_not]; omega
              go_wp2_with fail
              go_quiet (fail)
              go_wp2_with fail
              go_roundg (gk - 1)
              case measure => omega
              case rel => exact ⟨j + 1, by omega, by go_num, q + nq, by first | rfl | exact World.drewN_drewN ..⟩
          · go_wp2_with (go_at_call 13; refine (known_any _).mono ?_; rintro e w11 ⟨rfl, hb11⟩)
            go_ret
            exact ⟨rfl, bthen (bdrew BX.out q) hb11⟩

theorem reads_walk0 (ab al : Option Addr) (lb cb ll cl : Nat) (bs : List Int) (w : World) (hb : Lies .u8 w ab lb cb bs) (ho : Oct bs) (hl : ActsAt w al ll cl) :
    Calls Try.prog 4 #[.slice ab lb cb, .slice al ll cl] w fun e w' => e = .returned (.bool true) ∧ Below w.heap.size w w' := by
  refine reads_walk1 ab al lb cb ll cl (min lb 300) (bs.take (min lb 300)) w ?_ (by omega) (hb.pre (min lb 300) (by omega)) hb.2.1 (fun x hx => ho x (List.mem_of_mem_take hx)) hl
  split <;> omega

theorem wf_u8 {n : Int} (h : (Lit.int .u8 n).wf = true) : 0 ≤ n ∧ n < 256 := by
  simp [Lit.wf, IntKind.min, IntKind.max, IntKind.bits, IntKind.signed] at h; omega

theorem reads_walk (ab : Option Addr) (lb cb : Nat) (bs : List Int) (al : Option Addr) (ll cl : Nat) (w : World) (hb : IsRow .u8 w ab lb cb bs) (hl : ActsAt w al ll cl) :
    Calls Try.prog 4 #[.slice ab lb cb, .slice al ll cl] w fun e w' => e = .returned (.bool true) ∧ Below w.heap.size w w' :=
  reads_walk0 ab al lb cb ll cl _ w hb.lies (fun x hx => wf_u8 (hb.wf x (List.mem_of_mem_take hx))) hl
end Go.Proofs.Ytlfblldaiinghaa
