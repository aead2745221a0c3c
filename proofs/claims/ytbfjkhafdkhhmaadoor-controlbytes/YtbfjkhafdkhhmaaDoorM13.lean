/- The document's answer: Check. · The document's answer: the bytes of an option, as letters tell them. · The document's answer: the bytes of an option that is right. -/
import Derived.Test.YtbfjkhafdkhhmaaDoorM12
import Derived.Deep.RegionHeld3
namespace Go.Proofs.YtbfjkhafdkhhmaaDoor
open Go.ChangeShapes Go.WideShapes Go.ChangeAt Go.RowKit Go.Deep
set_option linter.unusedVariables false
set_option linter.unusedSimpArgs false

/-- A guard: the goal is a list of operations. -/
theorem wpl_id {P : Program} {ops : Array Oper} {Q : Exit → Act → World → Prop} {o : Oper} {rest : List Oper} {a : Act} {w : World} (h : wpList P ops Q (o :: rest) a w) : wpList P ops Q (o :: rest) a w := h
theorem szc_nn (c : Int) : 0 ≤ szc c := by unfold szc; split; omega; split; omega; split <;> omega
theorem getD_mem (l : List Int) (j : Nat) (h : j < l.length) : l.getD j 0 ∈ l := by simp [h]
theorem frmB_bits (k : Nat) (o : Ov) (w : World) (h : o.ok w) : frmB k o.p = ((o.n.n == (nmb (prt k)).length) && ((o.ad == zeros || hasA k) && (o.t.n == 0 || txb k))) := by rw [frmB, Ov.p, h.n.1, h.t.1]
set_option maxRecDepth 1000000 in
set_option maxHeartbeats 6400000 in
theorem optRefCheck_any (o : Ov) (w : World) (ho : o.ok w) (hwf : ∀ x ∈ o.n.l, (Lit.int .i64 x).wf = true) :
    Calls Tryd.prog 46 #[.agg o.cs] w fun e w' => e = .returned (.int .i64 (chkP o.p)) ∧ Below w.heap.size w w' := by
  have HR0 := hid (Row.new w 57 o.cs)
  have B0 := hid (balloc (Below.refl w.heap.size w) (.cells o.cs 57))
  have O0 := hid (ho.below B0.out)
  have HA := hid ho.ad
  have HFB := hid (fun k => frmB_bits k o w ho)
  have HWF := hid hwf
  have HT := hid ho.t.1
  have HN := hid ho.n.1
  have hnl : o.n.n ≤ maxLen := Nat.le_trans ho.n.2.1 ho.n.2.2.1
  have htl : o.t.n ≤ maxLen := Nat.le_trans ho.t.2.1 ho.t.2.2.1
  unfold maxLen at hnl htl
  have hq := eq36 o.ad zeros ho.ad.1 rfl
  clear ho hwf
  cases hkd : kndB o.k
  · have HC : Hid (chkP o.p = 6) := by rw [Hid, chkP, if_pos (by exact hkd)]
    have HL : Hid (lets o.k = ⟨#[63]⟩) := by simp [Hid, lets, hkd]
    go_enter Tryd.func46, Tryd.ntmps46
    go_upto_region 1 with fail
    generalize hw1 : w.alloc (.cells o.cs 57) = w1 at *
    have c0 := (HR0.out.cell 0).trans o.at0
    clear hw1
    go_wp2_with fail
    refine (parts_any _ _).mono ?_
    rintro e w2 ⟨rfl, hb2⟩
    have B2 := hid (bthen B0.out hb2)
    rw [HL.out]
    clear hb2
    go_wp2_with fail
    go_ret
    exact ⟨ret_int HC.out.symm, B2.out⟩
  · obtain ⟨k, hok, hk⟩ := knd_nat hkd
    have HK := hid hok
    have HLt : Hid (lets k = chs k) := by rw [Hid, lets, ← hok, hkd, if_pos rfl, hok]; rfl
    have HC : Hid (chkP o.p = if frmB k o.p = false then 3 else if widB (nmb (prt k)) o.n.l = false then 1 else if 64 < o.t.n then 2 else 0) := by
      rw [Hid, chkP, if_neg (by rw [show o.p.k = o.k from rfl, hkd]; simp), show o.p.k = o.k from rfl, hok, ← HT.out]; rfl
    have HF := hid (HFB.out k)
    clear hok
    have hne := chs_ne k hk
    have hcs := chs_small k hk
    have hclen := cl_len k
    have HCA := hid (cl_all k hk)
    have HCN := hid (cl_num k hk)
    have hm10 : (nmb (prt k)).length ≤ 10 := Nat.le_trans (nmb_le (prt k)) (prt_small k hk).1
    go_enter Tryd.func46, Tryd.ntmps46
    go_upto_region 1 with fail
    generalize hw1 : w.alloc (.cells o.cs 57) = w1 at *
    have c0 := (HR0.out.cell 0).trans o.at0
    rw [HK.out] at c0
    clear hw1
    go_wp2_with fail
    refine (parts_any _ _).mono ?_
    rintro e w2 ⟨rfl, hb2⟩
    have B2 := hid (bthen B0.out hb2)
    have R2 := hid (HR0.out.below hb2)
    have O2 := hid (O0.out.below hb2)
    rw [HLt.out]
    clear hb2 c0 B0 HR0 O0
    have HCh := hid (fun i h => char_at k i h)
    have HCS := hid (fun i h => cnt_succ (cl k) i h)
    have HH1 := hid (fun i h => hasC_succ 97 (cl k) i h)
    have HH2 := hid (fun i h => hasC_succ 116 (cl k) i h)
    have HCL := hid hclen
    rw [hclen] at HCA
    clear hclen
    go_wp2_with fail
    go_loop [4, 5, 6, 7] (fun cv av tv iv => ∃ i : Nat, i ≤ (chs k).size ∧ iv = .int .i64 i ∧ cv = .int .i64 (cnt (cl k) i) ∧ Hid (cnt (cl k) i ≤ i) ∧ av = .bool (hasC 97 (cl k) i) ∧ tv = .bool (hasC 116 (cl k) i)) (fun _ _ _ i => (chs k).size - (intOf i).toNat)
    case atStart => exact ⟨0, Nat.zero_le _, rfl, rfl, Nat.le_refl _, rfl, rfl⟩
    case round =>
      obtain ⟨i, hi, rfl, rfl, hci, rfl, rfl⟩ := hrel
      have hci' := hci.out
      by_cases hlt : i < (chs k).size
      · have hlt3 : (i : Int) < ((chs k).size : Int) := by omega
        have hc := HCh.out i hlt
        have hs := HCS.out i (by rw [HCL.out]; exact hlt)
        have h1 := HH1.out i (by rw [HCL.out]; exact hlt)
        have h2 := HH2.out i (by rw [HCL.out]; exact hlt)
        generalize (cl k).getD i 0 = c at *
        have HS := hid hs
        have H1 := hid h1
        have H2 := hid h2
        clear hs h1 h2
        generalize cnt (cl k) i = n0 at *
        generalize hasC 97 (cl k) i = ha at *
        generalize hasC 116 (cl k) i = ht at *
        go_wp2_with fail
        refine (rsize_any c _).mono ?_
        rintro e w2 ⟨rfl, rfl⟩
        by_cases hp : 0 < szc c
        · have HP := hid hp
          generalize szc c = sz at *
          cases ha <;> cases ht <;>
          ( go_wp2_with fail
            go_round
            case rel => exact ⟨i + 1, by omega, by go_num, by rw [HS.out, if_pos HP.out]; go_num, by rw [Hid, HS.out, if_pos HP.out]; omega, by rw [H1.out]; first | rfl | simp, by rw [H2.out]; first | rfl | simp⟩
            case measure => simp [intOf]; omega)
        · have HP := hid hp
          generalize szc c = sz at *
          cases ha <;> cases ht <;>
          ( go_wp2_with fail
            go_round
            case rel => exact ⟨i + 1, by omega, by go_num, by rw [HS.out, if_neg (by have := HP.out; omega)]; rfl, by rw [Hid, HS.out, if_neg (by have := HP.out; omega)]; omega, by rw [H1.out]; first | rfl | simp, by rw [H2.out]; first | rfl | simp⟩
            case measure => simp [intOf]; omega)
      · obtain rfl : i = (chs k).size := by omega
        rw [HCA.out.1, HCA.out.2.1, HCA.out.2.2]
        have HCE := hid HCA.out.1
        clear HH1 HH2 hci hci' hi hlt HCA
        have hz := zarr
        have Rz := hid (Row.new w2 22 (arr zeros))
        have BZ := hid (balloc (Below.refl w2.heap.size w2) (.cells (arr zeros) 22))
        go_upto_region 13 with fail
        generalize hw3 : w2.alloc (.cells (arr zeros) 22) = w3 at *
        have R3 := hid (R2.out.below BZ.out)
        have O3 := hid (O2.out.below BZ.out)
        have B3 := hid (bthen B2.out BZ.out)
        have a1 := (R3.out.cell 1).trans o.at1
        have a18 := (R3.out.cell 18).trans (Ov.at18 HA.out)
        have PA := hid (R3.out.part.ovA HA.out)
        have PZ := hid Rz.out.part
        generalize w2.heap.size = g3 at *
        clear hw3 hz Rz BZ R2 O2 B2
        have HF2 : Hid (frmB k o.p = ((o.n.n == (nmb (prt k)).length) && ((o.ad == zeros || hasA k) && (o.t.n == 0 || txb k)))) := HF
        have HFL : Hid (frmB k o.p = true → o.n.n = (nmb (prt k)).length) := fun h => by rw [← HN.out]; exact frm_len h
        have HW : Hid (∀ j, j < o.n.n → (Lit.int .i64 (o.n.l.getD j 0)).wf = true) := fun j hj => HWF.out _ (getD_mem _ _ (by rw [HN.out]; exact hj))
        clear HF HFB HWF
        generalize frmB k o.p = fb at *
        generalize hm : (nmb (prt k)).length = m at *
        have HM := hid hm
        clear hm
        generalize hasA k = ha at *
        generalize txb k = tb at *
        generalize (o.ad == zeros) = zb at *
        go_cut [70] from 46 to 70 (fun v wx => v = .bool (!fb) ∧ wx = w3)
        case first =>
          by_cases hlen : o.n.n = m
          · have e1 : ((o.n.n : Int) != (m : Int)) = false := by simp [hlen]
            have HLn := hid hlen
            clear hlen
            by_cases ht0 : o.t.n = 0
            · have HT0 := hid ht0
              have e3 : decide ((0 : Int) < (o.t.n : Int)) = false := decide_eq_false (by omega)
              have e4 : decide (0 < o.t.n) = false := decide_eq_false (by omega)
              clear ht0
              cases zb <;> cases ha <;>
              ( go_wp2_with (with_reducible refine wpl_id ?_; first | (refine ld36 _ rfl rfl _ _ rfl o.ad HA.out PA.out ?_) | (refine ld36 _ rfl rfl _ _ rfl zeros adr_zeros PZ.out ?_))
                go_meet
                case rel => exact ⟨by rw [HF2.out, HLn.out, HT0.out]; simp, rfl⟩)
            · have HT0 := hid ht0
              have e3 : (0 : Int) < (o.t.n : Int) := by omega
              have e4 : 0 < o.t.n := by omega
              clear ht0
              cases zb <;> cases ha <;> cases tb <;>
              ( go_wp2_with (with_reducible refine wpl_id ?_; first | (refine ld36 _ rfl rfl _ _ rfl o.ad HA.out PA.out ?_) | (refine ld36 _ rfl rfl _ _ rfl zeros adr_zeros PZ.out ?_))
                go_meet
                case rel => exact ⟨by rw [HF2.out, HLn.out]; simp [HT0.out], rfl⟩)
          · have e1 : ((o.n.n : Int) != (m : Int)) = true := by rw [bne_iff_ne]; omega
            have HLn := hid hlen
            clear hlen
            go_wp2_with (with_reducible refine wpl_id ?_; first | (refine ld36 _ rfl rfl _ _ rfl o.ad HA.out PA.out ?_) | (refine ld36 _ rfl rfl _ _ rfl zeros adr_zeros PZ.out ?_))
            go_meet
            case rel => exact ⟨by rw [HF2.out]; simp [HLn.out], rfl⟩
        case rest =>
          obtain ⟨rfl, hwc⟩ := hcut
          subst hwc
          cases fb
          · go_wp2_with fail
            go_ret
            exact ⟨ret_int (by rw [HC.out]; rfl), B3.out⟩
          · have HLn := hid (HFL.out rfl)
            have hnm := HLn.out
            clear PA PZ a18 hq HFL HF2
            go_wp2_with fail
            go_loopw [9, 10] (fun av iv wr => ∃ i : Nat, i ≤ (chs k).size ∧ iv = .int .i64 i ∧ av = .int .i64 (cnt (cl k) i) ∧ Hid (widTo (nmb (prt k)) o.n.l (cnt (cl k) i) = true) ∧ Hid (Below wc.heap.size wc wr)) (fun _ i _ => (chs k).size - (intOf i).toNat)
            case atStart => exact ⟨0, Nat.zero_le _, rfl, rfl, rfl, Below.refl _ _⟩
            case round =>
              obtain ⟨i, hi, rfl, rfl, hw, hb⟩ := hrel
              by_cases hlt : i < (chs k).size
              · have hlt3 : (i : Int) < ((chs k).size : Int) := by omega
                have hc := HCh.out i hlt
                have hs := HCS.out i (by rw [HCL.out]; exact hlt)
                have hcn := HCN.out i (by rw [HCL.out]; exact hlt)
                generalize (cl k).getD i 0 = c at *
                have HS := hid hs
                have HCN2 := hid hcn
                clear hs hcn
                go_wp2_with fail
                refine (rsize_any c _).mono ?_
                rintro e wr ⟨rfl, rfl⟩
                by_cases hp : 0 < szc c
                · obtain ⟨hj, hgd, hsz⟩ := HCN2.out hp
                  have hp0 : (szc c == 0) = false := by simp; omega
                  have HS2 : Hid (cnt (cl k) (i + 1) = cnt (cl k) i + 1) := by rw [Hid, HS.out, if_pos hp]
                  have HG : Hid (goodc c (o.n.l.getD (cnt (cl k) i) 0) = inB ((nmb (prt k)).getD (cnt (cl k) i) (0, 0)) (o.n.l.getD (cnt (cl k) i) 0)) := by rw [Hid, hgd]; exact goodc_in c _ hsz
                  have HGo : Hid (goodc c (o.n.l.getD (cnt (cl k) i) 0) = (okB (szc c) (o.n.l.getD (cnt (cl k) i) 0) && (!(c == 112 && decide (128 < o.n.l.getD (cnt (cl k) i) 0)) && !((c == 122 || c == 113) && (o.n.l.getD (cnt (cl k) i) 0 != 0))))) := rfl
                  have HWS := hid (widTo_succ (nmb (prt k)) o.n.l (cnt (cl k) i))
                  have HWN := hid (widTo_no (nmb (prt k)) o.n.l (cnt (cl k) i) (by rw [HM.out]; exact hj))
                  have hjn : cnt (cl k) i < o.n.n := by have h1 := HLn.out; have h2 := HM.out; omega
                  have hjn' : ((cnt (cl k) i : Nat) : Int) < (o.n.n : Int) := by omega
                  have hwf := HW.out _ hjn
                  obtain ⟨nb, noff, hna, hnc⟩ := (O3.out.n.below hb.out).2.2.2.2 _ hjn
                  have b1 := ((R3.out.below hb.out).cell 1).trans o.at1
                  rw [hna] at b1
                  have HSZ := hid hsz
                  have HWf := hid hwf
                  generalize o.n.l.getD (cnt (cl k) i) 0 = z at *
                  have HP := hid hp
                  clear hp hj hgd hsz hwf a1
                  generalize cnt (cl k) i = n0 at *
                  go_wp2_with fail
                  refine (rsize_any c _).mono ?_
                  rintro e wr ⟨rfl, rfl⟩
                  go_wp2_with fail
                  refine (digits_any (szc c) z _ HSZ.out HWf.out).mono ?_
                  rintro e w7 ⟨da, dk, dc, rfl, hb7, _⟩
                  have B7 := hid (bthen hb.out hb7)
                  have B8 := hid (bthen B3.out B7.out)
                  clear hb7
                  generalize okB (szc c) z = okb at *
                  cases okb
                  · go_wp2_with fail
                    go_ret
                    exact ⟨ret_int (by rw [HC.out, if_neg (by simp), if_pos (HWN.out (by rw [← HG.out, HGo.out]; rfl))]), B8.out⟩
                  · by_cases q1 : c = 112
                    · have r1 : (c == 112) = true := by simp [q1]
                      have r2 : (c == 122) = false := by simp [q1]
                      have r3 : (c == 113) = false := by simp [q1]
                      clear q1
                      by_cases q4 : 128 < z
                      · have r4 : decide (128 < z) = true := decide_eq_true q4
                        go_wp2_with fail
                        go_ret
                        exact ⟨ret_int (by rw [HC.out, if_neg (by simp), if_pos (HWN.out (by rw [← HG.out, HGo.out, r1, r4]; rfl))]), B8.out⟩
                      · have r4 : decide (128 < z) = false := decide_eq_false q4
                        go_wp2_with fail
                        go_roundw
                        case rel =>
                          refine ⟨i + 1, by omega, by go_num, by rw [HS2.out]; go_num, ?_, B7.out⟩
                          rw [Hid, HS2.out, HWS.out, hw.out, ← HG.out, HGo.out, r1, r2, r3, r4]; rfl
                        case measure => simp [intOf]; omega
                    · have r1 : (c == 112) = false := by simp [q1]
                      clear q1
                      by_cases q2 : c = 122
                      · have r2 : (c == 122) = true := by simp [q2]
                        clear q2
                        cases r5 : (z != 0)
                        · go_wp2_with fail
                          go_roundw
                          case rel =>
                            refine ⟨i + 1, by omega, by go_num, by rw [HS2.out]; go_num, ?_, B7.out⟩
                            rw [Hid, HS2.out, HWS.out, hw.out, ← HG.out, HGo.out, r1, r2, r5]; rfl
                          case measure => simp [intOf]; omega
                        · go_wp2_with fail
                          go_ret
                          exact ⟨ret_int (by rw [HC.out, if_neg (by simp), if_pos (HWN.out (by rw [← HG.out, HGo.out, r1, r2, r5]; rfl))]), B8.out⟩
                      · have r2 : (c == 122) = false := by simp [q2]
                        clear q2
                        by_cases q3 : c = 113
                        · have r3 : (c == 113) = true := by simp [q3]
                          clear q3
                          cases r5 : (z != 0)
                          · go_wp2_with fail
                            go_roundw
                            case rel =>
                              refine ⟨i + 1, by omega, by go_num, by rw [HS2.out]; go_num, ?_, B7.out⟩
                              rw [Hid, HS2.out, HWS.out, hw.out, ← HG.out, HGo.out, r1, r2, r3, r5]; rfl
                            case measure => simp [intOf]; omega
                          · go_wp2_with fail
                            go_ret
                            exact ⟨ret_int (by rw [HC.out, if_neg (by simp), if_pos (HWN.out (by rw [← HG.out, HGo.out, r1, r2, r3, r5]; rfl))]), B8.out⟩
                        · have r3 : (c == 113) = false := by simp [q3]
                          clear q3
                          go_wp2_with fail
                          go_roundw
                          case rel =>
                            refine ⟨i + 1, by omega, by go_num, by rw [HS2.out]; go_num, ?_, B7.out⟩
                            rw [Hid, HS2.out, HWS.out, hw.out, ← HG.out, HGo.out, r1, r2, r3]; rfl
                          case measure => simp [intOf]; omega
                · have hp0 : (szc c == 0) = true := by
                    have : szc c = 0 := by have := szc_nn c; omega
                    simp [this]
                  have HS2 : Hid (cnt (cl k) (i + 1) = cnt (cl k) i) := by rw [Hid, HS.out, if_neg hp]; rfl
                  clear hp
                  go_wp2_with fail
                  go_roundw
                  case rel => exact ⟨i + 1, by omega, by go_num, by rw [HS2.out], by rw [Hid, HS2.out]; exact hw.out, hb.out⟩
                  case measure => simp [intOf]; omega
              · obtain rfl : i = (chs k).size := by omega
                have HWD : Hid (widB (nmb (prt k)) o.n.l = true) := by
                  have h1 := hw.out
                  rw [HCE.out, ← HM.out] at h1
                  exact h1
                have B9 := hid (bthen B3.out hb.out)
                have b18 := ((R3.out.below hb.out).cell 18).trans (Ov.at18 HA.out)
                generalize o.t.n = tl at *
                by_cases h64 : 64 < tl
                · have h64' : (64 : Int) < (tl : Int) := by omega
                  go_wp2_with fail
                  go_ret
                  exact ⟨ret_int (by rw [HC.out, HWD.out, if_neg (by simp), if_neg (by simp), if_pos h64]), B9.out⟩
                · have h64' : ¬ (64 : Int) < (tl : Int) := by omega
                  go_wp2_with fail
                  go_ret
                  exact ⟨ret_int (by rw [HC.out, HWD.out, if_neg (by simp), if_neg (by simp), if_neg h64]), B9.out⟩
end Go.Proofs.YtbfjkhafdkhhmaaDoor

namespace Go.Proofs.YtbfjkhafdkhhmaaDoor
open Go.ChangeShapes Go.WideShapes Go.ChangeAt Go.RowKit Go.Deep
set_option linter.unusedVariables false
set_option linter.unusedSimpArgs false

/-- Is a letter a number that is written digit by digit? -/
def isN (c : Int) : Bool := !(c == 97) && (!(c == 116) && !(c == 120))
def acnt (l : List Int) (i : Nat) : Nat := ((l.take i).filter isN).length
theorem acnt_succ (l : List Int) (i : Nat) (h : i < l.length) : acnt l (i + 1) = acnt l i + (if isN (l.getD i 0) = true then 1 else 0) := by
  unfold acnt
  rw [List.take_succ_eq_append_getElem h, List.filter_append, List.length_append]
  simp [h]
  split <;> simp_all
/-- The bytes of a letter. -/
def piece (l n ad t : List Int) (j : Nat) : List Int :=
  if (l.getD j 0 == 97) = true then ad else if (l.getD j 0 == 116) = true then t else if (l.getD j 0 == 120) = true then List.replicate (n.getD 0 0).toNat 0 else digs (szc (l.getD j 0)) (n.getD (acnt l j) 0)
def rBto (l n ad t : List Int) (i : Nat) : List Int := (List.range i).flatMap (piece l n ad t)
theorem rBto_succ (l n ad t : List Int) (i : Nat) : rBto l n ad t (i + 1) = rBto l n ad t i ++ piece l n ad t i := by
  unfold rBto; rw [List.range_succ, List.flatMap_append]; simp
theorem cl_x : ∀ k, k < 10 → ∀ i, i < (cl k).length → (cl k).getD i 0 = 120 → i = 0 ∧ k = 1 := by decide
theorem cl_n : ∀ k, k < 10 → ∀ i, i < (cl k).length → isN ((cl k).getD i 0) = true → acnt (cl k) i < (nmb (prt k)).length ∧ sizeB (szc ((cl k).getD i 0)) = true := by decide
theorem len_eq {n : List Int} {m : Nat} (h : n.length = m) : n = (List.range m).map (fun i => n.getD i 0) := by
  apply List.ext_getElem
  · simp [h]
  · intro i h1 h2
    simp [h1]
theorem con_nt (k : Nat) (ok : Int) (n ad : List Int) (hz : zer k = false) : conP k ⟨ok, n, ad, []⟩ = partsB (prt k) n ad := by rw [conP, hz]; simp
theorem rB_con (o : Po) (k : Nat) (hk : k < 10) (hok : o.k = k) (h : chkP o = 0) : rBto (cl k) o.n o.ad o.t (chs k).size = conP k o := by
  obtain ⟨h1, h2, h3, h4⟩ := chk0 h
  rw [hok, Int.toNat_natCast] at h2 h3
  have hn := frm_len h2
  have ht : txb k = false → o.t = [] := by
    intro e
    simp only [frmB, e, Bool.or_false, Bool.and_eq_true, beq_iff_eq] at h2
    exact List.eq_nil_of_length_eq_zero h2.2.2
  obtain ⟨ok, n, ad, t⟩ := o
  simp only at hn ht ⊢
  have e := len_eq hn
  match k, hk with
  | 0, _ => rw [ht rfl]; rfl
  | 1, _ => rw [ht rfl, show (chs 1).size = 1 from rfl]; simp [rBto, piece, conP, zer, List.range_succ, cl, chs, chsL]
  | 2, _ => rw [show (chs 2).size = 1 from rfl]; simp [rBto, piece, conP, zer, List.range_succ, cl, chs, chsL, prt, prts, partsB]
  | 3, _ => rw [ht rfl, e, con_nt _ _ _ _ rfl]; rfl
  | 4, _ => rw [ht rfl, e]; rfl
  | 5, _ => rw [ht rfl, e, con_nt _ _ _ _ rfl]; rfl
  | 6, _ => rw [ht rfl, e]; rfl
  | 7, _ => rw [ht rfl, e, con_nt _ _ _ _ rfl]; rfl
  | 8, _ => rw [ht rfl, e, con_nt _ _ _ _ rfl]; rfl
  | 9, _ => rw [ht rfl, e]; rfl
end Go.Proofs.YtbfjkhafdkhhmaaDoor

namespace Go.Proofs.YtbfjkhafdkhhmaaDoor
open Go.ChangeShapes Go.WideShapes Go.ChangeAt Go.RowKit Go.Deep
set_option linter.unusedVariables false
set_option linter.unusedSimpArgs false

theorem cl_nn : ∀ k, k < 10 → ∀ i, i < (cl k).length → isN ((cl k).getD i 0) = true → (nmb (prt k)).getD (acnt (cl k) i) (0, 0) = (szc ((cl k).getD i 0), lastc ((cl k).getD i 0)) := by decide
theorem okB_wf {s z : Int} (h : okB s z = true) : (Lit.int .i64 z).wf = true := by
  have h1 : 0 ≤ z ∧ z < top s := by simpa [okB] using h
  have h2 : top s ≤ 4294967296 := by unfold top; split; omega; split <;> omega
  simp [Lit.wf, IntKind.min, IntKind.max, IntKind.bits, IntKind.signed]; omega
theorem goodc_ok {c z : Int} (h : goodc c z = true) : okB (szc c) z = true := by
  simp only [goodc, Bool.and_eq_true] at h; exact h.1
theorem rB_len {o : Po} {k : Nat} (hk : k < 10) (hok : o.k = k) (h : chkP o = 0) (ha : o.ad.length = 16) (i : Nat) (hi : i ≤ (chs k).size) : (rBto (cl k) o.n o.ad o.t i).length ≤ 255 := by
  have h1 := rB_con o k hk hok h
  have h2 := conP_le hk hok h ha
  rw [← h1] at h2
  have h3 : (chs k).size = i + ((chs k).size - i) := by omega
  have h4 : rBto (cl k) o.n o.ad o.t (chs k).size = rBto (cl k) o.n o.ad o.t i ++ (List.range ((chs k).size - i)).flatMap (fun j => piece (cl k) o.n o.ad o.t (i + j)) := by
    rw [rBto, rBto, h3, List.range_add, List.flatMap_append]
    simp [List.flatMap_map]
  rw [h4, List.length_append] at h2
  omega
set_option maxRecDepth 1000000 in
set_option maxHeartbeats 3200000 in
theorem optRefEncode_any (o : Ov) (w : World) (ho : o.ok w) (hc : chkP o.p = 0) :
    Calls Tryd.prog 47 #[.agg o.cs] w fun e w' => ∃ v, e = .returned v ∧ w'.ownsRow w.heap.size 5 1 v (encP o.p).length (u8s (encP o.p)) ∧ Below w.heap.size w w' := by
  have HR0 := hid (Row.new w 57 o.cs)
  have B0 := hid (balloc (Below.refl w.heap.size w) (.cells o.cs 57))
  have O0 := hid (ho.below B0.out)
  have HA := hid ho.ad
  have HC := hid hc
  obtain ⟨k, hok, hk⟩ := knd_nat (chk0 hc).1
  have hok : o.k = k := hok
  clear ho hc
  by_cases hk0 : k = 0
  · have HE : Hid (encP o.p = [0]) := by rw [Hid, encP, if_pos (by rw [show o.p.k = o.k from rfl, hok, hk0]; rfl)]
    subst hk0
    go_enter Tryd.func47, Tryd.ntmps47
    go_upto_region 1 with fail
    generalize hw1 : w.alloc (.cells o.cs 57) = w1 at *
    have c0 := (HR0.out.cell 0).trans o.at0
    rw [hok] at c0
    have c0 : w1.cell? ⟨w.heap.size, 0, none⟩ = some (.int .i64 0) := c0
    have OW := hid (owns_lit (e := 5) (size := 1) (base := w.heap.size) w1 #[.int .u8 0] 1 B0.out.size (by decide) (by simp))
    have B1 := hid (balloc B0.out (.cells #[.int .u8 0] 5))
    clear hw1
    go_wp2_with fail
    go_ret
    refine ⟨_, rfl, ?_, B1.out⟩
    rw [HE.out]
    exact OW.out
  · have HE : Hid (encP o.p = (k : Int) :: ((conP k o.p).length : Int) :: conP k o.p) := by rw [Hid, encP, if_neg (by rw [show o.p.k = o.k from rfl, hok]; omega), show o.p.k = o.k from rfl, hok]; rfl
    have hle := conP_le hk (o := o.p) hok HC.out HA.out.1
    have HLe := hid (rB_len (o := o.p) hk hok HC.out HA.out.1)
    have HCon := hid (rB_con o.p k hk hok HC.out)
    have HK := hid hok
    obtain ⟨h1, h2, h3, h4⟩ := chk0 HC.out
    rw [show o.p.k = o.k from rfl, hok, Int.toNat_natCast] at h2 h3
    have hln : o.n.n = (nmb (prt k)).length := by rw [← O0.out.n.1]; exact frm_len h2
    have HLn := hid hln
    have HW : Hid (∀ j, j < (nmb (prt k)).length → inB ((nmb (prt k)).getD j (0, 0)) (o.n.l.getD j 0) = true) := by
      intro j hj
      have := h3
      rw [widB, List.all_eq_true] at this
      exact this j (by simpa using hj)
    have HP1 : Hid (k = 1 → ∃ m : Nat, o.n.l = [(m : Int)] ∧ m ≤ 255) := by
      intro e; subst e
      exact pads_num (frm_len h2) h3
    have hk0' : ((k : Int) == 0) = false := by simp; omega
    have hwk : IntKind.u8.wrap (k : Int) = (k : Int) := by rw [IntKind.wrap_u8]; omega
    have HLt : Hid (lets k = chs k) := by
      have := h1
      rw [show o.p.k = o.k from rfl, hok] at this
      rw [Hid, lets, this, if_pos rfl]; rfl
    have hcs := chs_small k hk
    have HCL := hid (cl_len k)
    have HCh := hid (fun i h => char_at k i h)
    have HAS := hid (fun i h => acnt_succ (cl k) i h)
    have HCX := hid (cl_x k hk)
    have HCN := hid (cl_n k hk)
    have HCNN := hid (cl_nn k hk)
    have HBS := hid (fun i => rBto_succ (cl k) o.n.l o.ad o.t.l i)
    have HLe : Hid (∀ i, i ≤ (chs k).size → (rBto (cl k) o.n.l o.ad o.t.l i).length ≤ 255) := HLe
    have HCon : Hid (rBto (cl k) o.n.l o.ad o.t.l (chs k).size = conP k o.p) := HCon
    clear hok h1 h2 h3 h4 hk0 hln
    go_enter Tryd.func47, Tryd.ntmps47
    go_upto_region 1 with fail
    generalize hw1 : w.alloc (.cells o.cs 57) = w1 at *
    have c0 := (HR0.out.cell 0).trans o.at0
    rw [HK.out] at c0
    clear hw1
    go_wp2_with fail
    refine (parts_any _ _).mono ?_
    rintro e w2 ⟨rfl, hb2⟩
    have B2 := hid (bthen B0.out hb2)
    have R2 := hid (HR0.out.below hb2)
    have O2 := hid (O0.out.below hb2)
    rw [HLt.out]
    generalize hg1 : w.heap.size = g1 at *
    clear hb2 c0 B0 HR0 O0
    go_wp2_with fail
    go_loopw [4, 5, 6] (fun v av iv wr => ∃ i : Nat, i ≤ (chs k).size ∧ iv = .int .i64 i ∧ av = .int .i64 (acnt (cl k) i) ∧ Hid (wr.ownsRow w2.heap.size 5 1 v (rBto (cl k) o.n.l o.ad o.t.l i).length (u8s (rBto (cl k) o.n.l o.ad o.t.l i))) ∧ Hid (Below w2.heap.size w2 wr)) (fun _ _ i _ => (chs k).size - (intOf i).toNat)
    case atStart => exact ⟨0, Nat.zero_le _, rfl, rfl, World.ownsRow_nil _ _ _ _, Below.refl _ _⟩
    case round =>
      obtain ⟨i, hi, rfl, rfl, hown, hb⟩ := hrel
      have hlei := HLe.out i hi
      by_cases hlt : i < (chs k).size
      · have hlt3 : (i : Int) < ((chs k).size : Int) := by omega
        have hil : i < (cl k).length := by rw [HCL.out]; exact hlt
        have hc := HCh.out i hlt
        have hcx := HCX.out i hil
        have hcn := HCN.out i hil
        have hcnn := HCNN.out i hil
        have has := HAS.out i hil
        have hbs := HBS.out i
        rw [piece] at hbs
        generalize (cl k).getD i 0 = c at *
        have X1 := hid hcx
        have X2 := hid hcn
        have X3 := hid hcnn
        have X4 := hid has
        have X5 := hid hbs
        have a1 := ((R2.out.below hb.out).cell 1).trans o.at1
        have a18 := ((R2.out.below hb.out).cell 18).trans (Ov.at18 HA.out)
        clear hcx hcn hcnn has hbs hil
        by_cases q1 : c = 97
        · have r1 : (c == 97) = true := by simp [q1]
          have HI : Hid (isN c = false) := by rw [Hid, q1]; rfl
          have LA := hid (part_lies HA.out ((R2.out.below hb.out).part.ovA HA.out))
          clear q1
          go_wp2_with (at_builtin; refine wpList_appB rfl _ _ rfl rfl rfl hown.out LA.out ?c1 ?c2 ?_)
          case c1 => exact hb.out.size
          case c2 => omega
          intro v4 w4 ho4 hb4
          have B5 := hid (hb.out.trans hb4)
          have O4 := hid ho4
          clear ho4 hb4
          go_wp2_with fail
          go_roundw
          case rel =>
            refine ⟨i + 1, by omega, by go_num, by rw [X4.out, HI.out]; simp, ?_, B5.out⟩
            rw [Hid, X5.out, r1, if_pos rfl, List.length_append, HA.out.1]; exact O4.out
          case measure => simp [intOf]; omega
        · have r1 : (c == 97) = false := by simp [q1]
          clear q1
          by_cases q2 : c = 116
          · have r2 : (c == 116) = true := by simp [q2]
            have HI : Hid (isN c = false) := by rw [Hid, q2]; rfl
            have LT := hid (O2.out.t.below hb.out)
            have HT := hid O2.out.t.1
            have ht64 : o.t.n ≤ 64 := by
              have := (chk0 HC.out).2.2.2
              rw [← HT.out]; exact this
            clear q2
            go_wp2_with (at_builtin; refine wpList_appB rfl _ _ rfl rfl rfl hown.out LT.out ?c3o ?c4 ?_)
            case c3o => exact hb.out.size
            case c4 => omega
            intro v4 w4 ho4 hb4
            have B5 := hid (hb.out.trans hb4)
            have O4 := hid ho4
            clear ho4 hb4
            go_wp2_with fail
            go_roundw
            case rel =>
              refine ⟨i + 1, by omega, by go_num, by rw [X4.out, HI.out]; simp, ?_, B5.out⟩
              rw [Hid, X5.out, r1, r2, if_neg (by simp), if_pos rfl, List.length_append, HT.out]; exact O4.out
            case measure => simp [intOf]; omega
          · have r2 : (c == 116) = false := by simp [q2]
            clear q2
            by_cases q3 : c = 120
            · have r3 : (c == 120) = true := by simp [q3]
              have HI : Hid (isN c = false) := by rw [Hid, q3]; rfl
              obtain ⟨hi0, hk1⟩ := X1.out q3
              obtain ⟨mm, hmm, hm255⟩ := HP1.out hk1
              have hnn : o.n.n = 1 := by rw [← O2.out.n.1, hmm]; rfl
              obtain ⟨nb, noff, hna, hnc⟩ := (O2.out.n.below hb.out).2.2.2.2 0 (by omega)
              rw [hmm] at hnc
              simp only [List.getD_cons_zero, Nat.add_zero] at hnc
              rw [hna, hnn] at a1
              obtain ⟨i0, hinf, hz0, hz1, hz2⟩ := info_parts info5
              have HInf := hid hinf
              have HI0 := hid hi0
              have HMM := hid hmm
              clear q3 hi0 hk1 hmm hinf hnn hna
              go_wp2_with (at_make; refine wpList_make_full _ rfl _ _ 33 rfl w2.heap.size 5 i0 (.int .u8 0) 1 Tryd.underlying33 HInf.out hz0 hz1 .i64 .i64 _ _ mm rfl rfl rfl rfl ?b1 ?b2 ?b3 ?_)
              case b1 => rw [hz2]; omega
              case b2 => unfold maxLen; omega
              case b3 => exact hb.out.size
              intro w4 hown4 hg4
              have B5 := hid (Below.grown hb.out hg4 hb.out.size (fun k hk => by cases hk))
              rw [made_u8] at hown4
              have O4 := hid hown4
              clear hown4 hg4
              go_wp2_with fail
              go_roundw
              case rel =>
                refine ⟨i + 1, by omega, by go_num, by rw [X4.out, HI.out]; simp, ?_, B5.out⟩
                rw [Hid, X5.out, r1, r2, r3, if_neg (by simp), if_neg (by simp), if_pos rfl, HI0.out, HMM.out]
                have e0 : rBto (cl k) [(mm : Int)] o.ad o.t.l 0 = [] := rfl
                rw [e0]
                simpa using O4.out
              case measure => simp [intOf]; omega
            · have r3 : (c == 120) = false := by simp [q3]
              have HI : Hid (isN c = true) := by rw [Hid, isN, r1, r2, r3]; rfl
              clear q3
              obtain ⟨haj, hsz⟩ := X2.out HI.out
              have hgd := X3.out HI.out
              have hin := HW.out _ haj
              rw [hgd] at hin
              have hgood : goodc c (o.n.l.getD (acnt (cl k) i) 0) = true := (goodc_in c _ hsz).trans hin
              have HOk := hid (goodc_ok hgood)
              have HWf := hid (okB_wf HOk.out)
              have HSZ := hid hsz
              have hajn : acnt (cl k) i < o.n.n := by rw [HLn.out]; exact haj
              have hajn' : ((acnt (cl k) i : Nat) : Int) < (o.n.n : Int) := by omega
              obtain ⟨nb, noff, hna, hnc⟩ := (O2.out.n.below hb.out).2.2.2.2 _ hajn
              have b1 := a1
              rw [hna] at b1
              have hn10 : o.n.n ≤ 10 := by rw [HLn.out]; exact Nat.le_trans (nmb_le _) (prt_small k hk).1
              generalize o.n.l.getD (acnt (cl k) i) 0 = z at *
              generalize hajq : acnt (cl k) i = aj at *
              clear hgd hin hgood hsz haj a1 hna hajq
              go_wp2_with fail
              refine wp_region_held_drew (S := fun w' => w'.cell? ⟨g1, 1, none⟩ = some (.slice (some ⟨nb, noff, none⟩) o.n.n o.n.cap) ∧ w'.cell? ⟨nb, noff + aj, none⟩ = some (.int .i64 z)) (by kernel_rfl) ?_ (fun hHeld => ?_)
              · exact ⟨b1, hnc⟩
              refine wpAnyH_take (i := 0) (oi := _) (v := ?va0) rfl (by kernel_rfl) (by kernel_rfl) (by kernel_rfl) (fun _ _ _ h => h) (Or.inl ⟨by rfl, ?hya0⟩) (by assumption) ?resta0
              case hya0 => (intro w hSw; (try dsimp only at hSw); go_split_ands; go_simp; try (with_reducible rfl))
              try simp only [List.getElem_toArray, List.getElem_cons_zero, List.getElem_cons_succ, Act.put, List.setIfInBounds_toArray, List.set_cons_zero, List.set_cons_succ]
              refine wpAnyH_take (i := 1) (oi := _) (v := ?va1) rfl (by kernel_rfl) (by kernel_rfl) (by kernel_rfl) (fun _ _ _ h => h) (Or.inl ⟨by rfl, ?hya1⟩) (by assumption) ?resta1
              case hya1 => (intro w hSw; (try dsimp only at hSw); go_split_ands; go_simp; try (with_reducible rfl))
              try simp only [List.getElem_toArray, List.getElem_cons_zero, List.getElem_cons_succ, Act.put, List.setIfInBounds_toArray, List.set_cons_zero, List.set_cons_succ]
              refine wpAnyH_take (i := 2) (oi := _) (v := ?va2) rfl (by kernel_rfl) (by kernel_rfl) (by kernel_rfl) (fun _ _ _ h => h) (Or.inl ⟨by rfl, ?hya2⟩) (by assumption) ?resta2
              case hya2 => (intro w hSw; (try dsimp only at hSw); go_split_ands; go_simp; try (with_reducible rfl))
              try simp only [List.getElem_toArray, List.getElem_cons_zero, List.getElem_cons_succ, Act.put, List.setIfInBounds_toArray, List.set_cons_zero, List.set_cons_succ]
              refine wpAnyH_take (i := 4) (oi := _) (v := ?va4) rfl (by kernel_rfl) (by kernel_rfl) (by kernel_rfl) (fun _ _ _ h => h) (Or.inl ⟨by rfl, ?hya4⟩) (by assumption) ?resta4
              case hya4 => (intro w hSw; (try dsimp only at hSw); go_split_ands; go_simp; try (with_reducible rfl))
              try simp only [List.getElem_toArray, List.getElem_cons_zero, List.getElem_cons_succ, Act.put, List.setIfInBounds_toArray, List.set_cons_zero, List.set_cons_succ]
              refine wpAnyH_take (i := 5) (oi := _) (v := ?va5) rfl (by kernel_rfl) (by kernel_rfl) (by kernel_rfl) (fun _ _ _ h => h) (Or.inl ⟨by rfl, ?hya5⟩) (by assumption) ?resta5
              case hya5 => (intro w hSw; (try dsimp only at hSw); go_split_ands; go_simp; try (with_reducible rfl))
              try simp only [List.getElem_toArray, List.getElem_cons_zero, List.getElem_cons_succ, Act.put, List.setIfInBounds_toArray, List.set_cons_zero, List.set_cons_succ]
              refine wpAnyH_take (i := 6) (oi := _) (v := ?va6) rfl (by kernel_rfl) (by kernel_rfl) (by kernel_rfl) (fun _ _ _ h => h) (Or.inl ⟨by rfl, ?hya6⟩) (by assumption) ?resta6
              case hya6 => (intro w hSw; (try dsimp only at hSw); go_split_ands; go_simp; try (with_reducible rfl))
              try simp only [List.getElem_toArray, List.getElem_cons_zero, List.getElem_cons_succ, Act.put, List.setIfInBounds_toArray, List.set_cons_zero, List.set_cons_succ]
              refine wpAnyH_take (i := 7) (oi := _) (v := ?va7) rfl (by kernel_rfl) (by kernel_rfl) (by kernel_rfl) (fun _ _ _ h => h) (Or.inl ⟨by rfl, ?hya7⟩) (by assumption) ?resta7
              case hya7 => (intro w hSw; (try dsimp only at hSw); go_split_ands; go_simp; try (with_reducible rfl))
              try simp only [List.getElem_toArray, List.getElem_cons_zero, List.getElem_cons_succ, Act.put, List.setIfInBounds_toArray, List.set_cons_zero, List.set_cons_succ]
              refine wpAnyH_take (i := 8) (oi := _) (v := ?va8) rfl (by kernel_rfl) (by kernel_rfl) (by kernel_rfl) (fun _ _ _ h => h) (Or.inl ⟨by rfl, ?hya8⟩) (by assumption) ?resta8
              case hya8 => (intro w hSw; (try dsimp only at hSw); go_split_ands; go_simp; try (with_reducible rfl))
              try simp only [List.getElem_toArray, List.getElem_cons_zero, List.getElem_cons_succ, Act.put, List.setIfInBounds_toArray, List.set_cons_zero, List.set_cons_succ]
              refine wpAnyH_ready (rs := [3]) (by kernel_rfl) (by simp) ?_
              refine AllReadyH.cons (o := _) rfl (fun K hK => ?_) AllReadyH.nil
              go_simp
              refine (rsize_any c _).mono ?_
              rintro e w6 ⟨rfl, rfl⟩
              go_wp2_with fail
              refine hK.out _ _ ⟨b1, hnc⟩ (fun hHeld => ?_)
              clear hK K
              try simp only [List.getElem_toArray, List.getElem_cons_zero, List.getElem_cons_succ, Act.put, List.setIfInBounds_toArray, List.set_cons_zero, List.set_cons_succ]
              refine wpAnyH_ready (rs := [9]) (by kernel_rfl) (by simp) ?_
              refine AllReadyH.cons (o := _) rfl (fun K hK => ?_) AllReadyH.nil
              go_simp
              refine (digits_any (szc c) z _ HSZ.out HWf.out).mono ?_
              rintro e w7 ⟨da, dk, dc, rfl, hb7, hdl⟩
              have hb7 : Below wr.heap.size wr w7 := ⟨hb7.os, hb7.tape, hb7.output, hb7.size, hb7.block⟩
              obtain ⟨hdk, hdL⟩ := hdl HOk.out
              have DL := hid hdL
              have HDK := hid hdk
              have B7 := hid (bthen hb.out hb7)
              have O7 := hid (own_below hown.out hb7)
              have d1 := (hb7.cell (p := ⟨g1, 1, none⟩) (World.block_lt_of_cell? wr _ b1)).trans b1
              have d2 := (hb7.cell (p := ⟨nb, noff + aj, none⟩) (World.block_lt_of_cell? wr _ hnc)).trans hnc
              rw [HOk.out]
              clear hdk hdL hdl hb7
              go_wp2_with fail
              refine hK.out _ _ ⟨d1, d2⟩ (fun hHeld => ?_)
              clear hK K
              try simp only [List.getElem_toArray, List.getElem_cons_zero, List.getElem_cons_succ, Act.put, List.setIfInBounds_toArray, List.set_cons_zero, List.set_cons_succ]
              refine wpAnyH_take (i := 10) (oi := _) (v := ?va10) rfl (by kernel_rfl) (by kernel_rfl) (by kernel_rfl) (fun _ _ _ h => h) (Or.inl ⟨by rfl, ?hya10⟩) (by assumption) ?resta10
              case hya10 => (intro w hSw; (try dsimp only at hSw); go_split_ands; go_simp; try (with_reducible rfl))
              try simp only [List.getElem_toArray, List.getElem_cons_zero, List.getElem_cons_succ, Act.put, List.setIfInBounds_toArray, List.set_cons_zero, List.set_cons_succ]
              refine wpAnyH_take (i := 11) (oi := _) (v := ?va11) rfl (by kernel_rfl) (by kernel_rfl) (by kernel_rfl) (fun _ _ _ h => h) (Or.inl ⟨by rfl, ?hya11⟩) (by assumption) ?resta11
              case hya11 => (intro w hSw; (try dsimp only at hSw); go_split_ands; go_simp; try (with_reducible rfl))
              try simp only [List.getElem_toArray, List.getElem_cons_zero, List.getElem_cons_succ, Act.put, List.setIfInBounds_toArray, List.set_cons_zero, List.set_cons_succ]
              refine wpAnyH_take (i := 12) (oi := _) (v := ?va12) rfl (by kernel_rfl) (by kernel_rfl) (by kernel_rfl) (fun _ _ _ h => h) (Or.inl ⟨by rfl, ?hya12⟩) (by assumption) ?resta12
              case hya12 => (intro w hSw; (try dsimp only at hSw); go_split_ands; go_simp; try (with_reducible rfl))
              try simp only [List.getElem_toArray, List.getElem_cons_zero, List.getElem_cons_succ, Act.put, List.setIfInBounds_toArray, List.set_cons_zero, List.set_cons_succ]
              refine wpAnyH_take (i := 13) (oi := _) (v := ?va13) rfl (by kernel_rfl) (by kernel_rfl) (by kernel_rfl) (fun _ _ _ h => h) (Or.inl ⟨by rfl, ?hya13⟩) (by assumption) ?resta13
              case hya13 => (intro w hSw; (try dsimp only at hSw); go_split_ands; go_simp; try (with_reducible rfl))
              try simp only [List.getElem_toArray, List.getElem_cons_zero, List.getElem_cons_succ, Act.put, List.setIfInBounds_toArray, List.set_cons_zero, List.set_cons_succ]
              refine wpAnyH_take (i := 14) (oi := _) (v := ?va14) rfl (by kernel_rfl) (by kernel_rfl) (by kernel_rfl) (fun _ _ _ h => h) (Or.inl ⟨by rfl, ?hya14⟩) (by assumption) ?resta14
              case hya14 => (intro w hSw; (try dsimp only at hSw); go_split_ands; go_simp; try (with_reducible rfl))
              try simp only [List.getElem_toArray, List.getElem_cons_zero, List.getElem_cons_succ, Act.put, List.setIfInBounds_toArray, List.set_cons_zero, List.set_cons_succ]
              refine wpAnyH_done (by kernel_rfl) ?_ _
              have hdl4 : dk ≤ 4 := by rw [HDK.out, digs_length _ _ HSZ.out]; rcases sizeB_cases HSZ.out with e | e | e <;> rw [e] <;> decide
              go_wp2_with (at_builtin; refine wpList_appB rfl _ _ rfl rfl rfl O7.out DL.out ?c5 ?c6 ?_)
              case c5 => exact B7.out.size
              case c6 => omega
              intro v8 w8 ho8 hb8
              have B9 := hid (B7.out.trans hb8)
              have O8 := hid ho8
              clear ho8 hb8
              go_wp2_with fail
              go_roundw
              case rel =>
                refine ⟨i + 1, by omega, by go_num, by rw [X4.out, HI.out, if_pos rfl]; go_num, ?_, B9.out⟩
                rw [Hid, X5.out, r1, r2, r3, if_neg (by simp), if_neg (by simp), if_neg (by simp), List.length_append, ← HDK.out]; exact O8.out
              case measure => simp [intOf]; omega
      · obtain rfl : i = (chs k).size := by omega
        rw [HCon.out] at hown
        obtain ⟨ba, bc, rfl, hbl, _⟩ := owns_lies hown.out
        have BL := hid hbl
        generalize hcl : (conP k o.p).length = cl' at *
        have HCl := hid hcl
        have hwl : IntKind.u8.wrap (cl' : Int) = (cl' : Int) := by rw [IntKind.wrap_u8]; omega
        have c0 := ((R2.out.below hb.out).cell 0).trans o.at0
        rw [HK.out] at c0
        clear hbl hcl
        have OW := hid (owns_lit (e := 5) (size := 1) (base := wr.heap.size) wr #[.int .u8 k, .int .u8 cl'] 2 (Nat.le_refl _) (by decide) (by simp))
        have BA := hid (balloc (Below.refl wr.heap.size wr) (.cells #[.int .u8 k, .int .u8 cl'] 5))
        have BL2 := hid (BL.out.below BA.out)
        go_wp2_with (at_builtin; refine wpList_appB (base := wr.heap.size) (n := 2) (xs := [(k : Int), (cl' : Int)]) rfl _ _ rfl rfl rfl OW.out BL2.out (by exact BA.out.size) ?c8 ?_)
        case c8 => omega
        intro v9 w9 ho9 hb9
        have O9 := hid ho9
        have B9 := hid (BA.out.trans hb9)
        clear ho9 hb9
        go_wp2_with fail
        go_ret
        refine ⟨_, rfl, ?_, by rw [hg1]; exact B2.out.trans ((bthen hb.out B9.out).mono (by have := B2.out.size; omega))⟩
        rw [HE.out, hg1]
        refine own_mono (b := wr.heap.size) ?_ (by have := hb.out.size; have := B2.out.size; omega)
        refine ownsRow_u8 O9.out ?_ rfl
        simp [HCl.out]; omega
end Go.Proofs.YtbfjkhafdkhhmaaDoor
