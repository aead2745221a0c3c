/- The document's answer: Check. · The reader: address, options. -/
import Derived.Test.YtbfjkhafdkhhmaaDoorM15
import Derived.Test.YtbfjkhafdkhhmaaDoorM12
namespace Go.Proofs.YtbfjkhafdkhhmaaDoor
open Go.ChangeShapes Go.WideShapes Go.ChangeAt Go.RowKit Go.Deep
set_option linter.unusedVariables false
set_option linter.unusedSimpArgs false

/-- A guard: the goal is a list of operations. -/
theorem wpl_id {P : Program} {ops : Array Oper} {Q : Exit → Act → World → Prop} {o : Oper} {rest : List Oper} {a : Act} {w : World} (h : wpList P ops Q (o :: rest) a w) : wpList P ops Q (o :: rest) a w := h
theorem szc_nn (c : Int) : 0 ≤ szc c := by unfold szc; split; omega; split; omega; split <;> omega
theorem getD_mem (l : List Int) (j : Nat) (h : j < l.length) : l.getD j 0 ∈ l := by simp [h]
theorem frmB_bits (k : Nat) (o : Ov) (w : World) (h : o.ok w) : frmB k o.p = ((o.n.n == (nmb (prt k)).length) && ((o.ad == zeros || hasA k) && (o.t.n == 0 || txb k))) := by rw [frmB, Ov.p, h.n.1, h.t.1]
set_option maxRecDepth 1000000 in
set_option maxHeartbeats 6400000 in
theorem optRefCheck_any (o : Ov) (w : World) (ho : o.ok w) (hwf : ∀ x ∈ o.n.l, (Lit.int .i64 x).wf = true) :
    Calls Tryd.prog 46 #[.agg o.cs] w fun e w' => e = .returned (.int .i64 (chkP o.p)) ∧ Below w.heap.size w w' := by
  have HR0 := hid (Row.new w 57 o.cs)
  have B0 := hid (balloc (Below.refl w.heap.size w) (.cells o.cs 57))
  have O0 := hid (ho.below B0.out)
  have HA := hid ho.ad
  have HFB := hid (fun k => frmB_bits k o w ho)
  have HWF := hid hwf
  have HT := hid ho.t.1
  have HN := hid ho.n.1
  have hnl : o.n.n ≤ maxLen := Nat.le_trans ho.n.2.1 ho.n.2.2.1
  have htl : o.t.n ≤ maxLen := Nat.le_trans ho.t.2.1 ho.t.2.2.1
  unfold maxLen at hnl htl
  have hq := eq36 o.ad zeros ho.ad.1 rfl
  clear ho hwf
  cases hkd : kndB o.k
  · have HC : Hid (chkP o.p = 6) := by rw [Hid, chkP, if_pos (by exact hkd)]
    have HL : Hid (lets o.k = ⟨#[63]⟩) := by simp [Hid, lets, hkd]
    go_enter Tryd.func46, Tryd.ntmps46
    go_upto_region 1 with fail
    generalize hw1 : w.alloc (.cells o.cs 57) = w1 at *
    have c0 := (HR0.out.cell 0).trans o.at0
    clear hw1
    go_wp2_with fail
    refine (parts_any _ _).mono ?_
    rintro e w2 ⟨rfl, hb2⟩
    have B2 := hid (bthen B0.out hb2)
    rw [HL.out]
    clear hb2
    go_wp2_with fail
    go_ret
    exact ⟨ret_int HC.out.symm, B2.out⟩
  · obtain ⟨k, hok, hk⟩ := knd_nat hkd
    have HK := hid hok
    have HLt : Hid (lets k = chs k) := by rw [Hid, lets, ← hok, hkd, if_pos rfl, hok]; rfl
    have HC : Hid (chkP o.p = if frmB k o.p = false then 3 else if widB (nmb (prt k)) o.n.l = false then 1 else if 64 < o.t.n then 2 else 0) := by
      rw [Hid, chkP, if_neg (by rw [show o.p.k = o.k from rfl, hkd]; simp), show o.p.k = o.k from rfl, hok, ← HT.out]; rfl
    have HF := hid (HFB.out k)
    clear hok
    have hne := chs_ne k hk
    have hcs := chs_small k hk
    have hclen := cl_len k
    have HCA := hid (cl_all k hk)
    have HCN := hid (cl_num k hk)
    have hm10 : (nmb (prt k)).length ≤ 10 := Nat.le_trans (nmb_le (prt k)) (prt_small k hk).1
    go_enter Tryd.func46, Tryd.ntmps46
    go_upto_region 1 with fail
    generalize hw1 : w.alloc (.cells o.cs 57) = w1 at *
    have c0 := (HR0.out.cell 0).trans o.at0
    rw [HK.out] at c0
    clear hw1
    go_wp2_with fail
    refine (parts_any _ _).mono ?_
    rintro e w2 ⟨rfl, hb2⟩
    have B2 := hid (bthen B0.out hb2)
    have R2 := hid (HR0.out.below hb2)
    have O2 := hid (O0.out.below hb2)
    rw [HLt.out]
    clear hb2 c0 B0 HR0 O0
    have HCh := hid (fun i h => char_at k i h)
    have HCS := hid (fun i h => cnt_succ (cl k) i h)
    have HH1 := hid (fun i h => hasC_succ 97 (cl k) i h)
    have HH2 := hid (fun i h => hasC_succ 116 (cl k) i h)
    have HCL := hid hclen
    rw [hclen] at HCA
    clear hclen
    go_wp2_with fail
    go_loop [4, 5, 6, 7] (fun cv av tv iv => ∃ i : Nat, i ≤ (chs k).size ∧ iv = .int .i64 i ∧ cv = .int .i64 (cnt (cl k) i) ∧ Hid (cnt (cl k) i ≤ i) ∧ av = .bool (hasC 97 (cl k) i) ∧ tv = .bool (hasC 116 (cl k) i)) (fun _ _ _ i => (chs k).size - (intOf i).toNat)
    case atStart => exact ⟨0, Nat.zero_le _, rfl, rfl, Nat.le_refl _, rfl, rfl⟩
    case round =>
      obtain ⟨i, hi, rfl, rfl, hci, rfl, rfl⟩ := hrel
      have hci' := hci.out
      by_cases hlt : i < (chs k).size
      · have hlt3 : (i : Int) < ((chs k).size : Int) := by omega
        have hc := HCh.out i hlt
        have hs := HCS.out i (by rw [HCL.out]; exact hlt)
        have h1 := HH1.out i (by rw [HCL.out]; exact hlt)
        have h2 := HH2.out i (by rw [HCL.out]; exact hlt)
        generalize (cl k).getD i 0 = c at *
        have HS := hid hs
        have H1 := hid h1
        have H2 := hid h2
        clear hs h1 h2
        generalize cnt (cl k) i = n0 at *
        generalize hasC 97 (cl k) i = ha at *
        generalize hasC 116 (cl k) i = ht at *
        go_wp2_with fail
        refine (rsize_any c _).mono ?_
        rintro e w2 ⟨rfl, rfl⟩
        by_cases hp : 0 < szc c
        · have HP := hid hp
          generalize szc c = sz at *
          cases ha <;> cases ht <;>
          ( go_wp2_with fail
            go_round
            case rel => exact ⟨i + 1, by omega, by go_num, by rw [HS.out, if_pos HP.out]; go_num, by rw [Hid, HS.out, if_pos HP.out]; omega, by rw [H1.out]; first | rfl | simp, by rw [H2.out]; first | rfl | simp⟩
            case measure => simp [intOf]; omega)
        · have HP := hid hp
          generalize szc c = sz at *
          cases ha <;> cases ht <;>
          ( go_wp2_with fail
            go_round
            case rel => exact ⟨i + 1, by omega, by go_num, by rw [HS.out, if_neg (by have := HP.out; omega)]; rfl, by rw [Hid, HS.out, if_neg (by have := HP.out; omega)]; omega, by rw [H1.out]; first | rfl | simp, by rw [H2.out]; first | rfl | simp⟩
            case measure => simp [intOf]; omega)
      · obtain rfl : i = (chs k).size := by omega
        rw [HCA.out.1, HCA.out.2.1, HCA.out.2.2]
        have HCE := hid HCA.out.1
        clear HH1 HH2 hci hci' hi hlt HCA
        have hz := zarr
        have Rz := hid (Row.new w2 22 (arr zeros))
        have BZ := hid (balloc (Below.refl w2.heap.size w2) (.cells (arr zeros) 22))
        go_upto_region 13 with fail
        generalize hw3 : w2.alloc (.cells (arr zeros) 22) = w3 at *
        have R3 := hid (R2.out.below BZ.out)
        have O3 := hid (O2.out.below BZ.out)
        have B3 := hid (bthen B2.out BZ.out)
        have a1 := (R3.out.cell 1).trans o.at1
        have a18 := (R3.out.cell 18).trans (Ov.at18 HA.out)
        have PA := hid (R3.out.part.ovA HA.out)
        have PZ := hid Rz.out.part
        generalize w2.heap.size = g3 at *
        clear hw3 hz Rz BZ R2 O2 B2
        have HF2 : Hid (frmB k o.p = ((o.n.n == (nmb (prt k)).length) && ((o.ad == zeros || hasA k) && (o.t.n == 0 || txb k)))) := HF
        have HFL : Hid (frmB k o.p = true → o.n.n = (nmb (prt k)).length) := fun h => by rw [← HN.out]; exact frm_len h
        have HW : Hid (∀ j, j < o.n.n → (Lit.int .i64 (o.n.l.getD j 0)).wf = true) := fun j hj => HWF.out _ (getD_mem _ _ (by rw [HN.out]; exact hj))
        clear HF HFB HWF
        generalize frmB k o.p = fb at *
        generalize hm : (nmb (prt k)).length = m at *
        have HM := hid hm
        clear hm
        generalize hasA k = ha at *
        generalize txb k = tb at *
        generalize (o.ad == zeros) = zb at *
        go_cut [70] from 46 to 70 (fun v wx => v = .bool (!fb) ∧ wx = w3)
        case first =>
          by_cases hlen : o.n.n = m
          · have e1 : ((o.n.n : Int) != (m : Int)) = false := by simp [hlen]
            have HLn := hid hlen
            clear hlen
            by_cases ht0 : o.t.n = 0
            · have HT0 := hid ht0
              have e3 : decide ((0 : Int) < (o.t.n : Int)) = false := decide_eq_false (by omega)
              have e4 : decide (0 < o.t.n) = false := decide_eq_false (by omega)
              clear ht0
              cases zb <;> cases ha <;>
              ( go_wp2_with (with_reducible refine wpl_id ?_; first | (refine ld36 _ rfl rfl _ _ rfl o.ad HA.out PA.out ?_) | (refine ld36 _ rfl rfl _ _ rfl zeros adr_zeros PZ.out ?_))
                go_meet
                case rel => exact ⟨by rw [HF2.out, HLn.out, HT0.out]; simp, rfl⟩)
            · have HT0 := hid ht0
              have e3 : (0 : Int) < (o.t.n : Int) := by omega
              have e4 : 0 < o.t.n := by omega
              clear ht0
              cases zb <;> cases ha <;> cases tb <;>
              ( go_wp2_with (with_reducible refine wpl_id ?_; first | (refine ld36 _ rfl rfl _ _ rfl o.ad HA.out PA.out ?_) | (refine ld36 _ rfl rfl _ _ rfl zeros adr_zeros PZ.out ?_))
                go_meet
                case rel => exact ⟨by rw [HF2.out, HLn.out]; simp [HT0.out], rfl⟩)
          · have e1 : ((o.n.n : Int) != (m : Int)) = true := by rw [bne_iff_ne]; omega
            have HLn := hid hlen
            clear hlen
            go_wp2_with (with_reducible refine wpl_id ?_; first | (refine ld36 _ rfl rfl _ _ rfl o.ad HA.out PA.out ?_) | (refine ld36 _ rfl rfl _ _ rfl zeros adr_zeros PZ.out ?_))
            go_meet
            case rel => exact ⟨by rw [HF2.out]; simp [HLn.out], rfl⟩
        case rest =>
          obtain ⟨rfl, hwc⟩ := hcut
          subst hwc
          cases fb
          · go_wp2_with fail
            go_ret
            exact ⟨ret_int (by rw [HC.out]; rfl), B3.out⟩
          · have HLn := hid (HFL.out rfl)
            have hnm := HLn.out
            clear PA PZ a18 hq HFL HF2
            go_wp2_with fail
            go_loopw [9, 10] (fun av iv wr => ∃ i : Nat, i ≤ (chs k).size ∧ iv = .int .i64 i ∧ av = .int .i64 (cnt (cl k) i) ∧ Hid (widTo (nmb (prt k)) o.n.l (cnt (cl k) i) = true) ∧ Hid (Below wc.heap.size wc wr)) (fun _ i _ => (chs k).size - (intOf i).toNat)
            case atStart => exact ⟨0, Nat.zero_le _, rfl, rfl, rfl, Below.refl _ _⟩
            case round =>
              obtain ⟨i, hi, rfl, rfl, hw, hb⟩ := hrel
              by_cases hlt : i < (chs k).size
              · have hlt3 : (i : Int) < ((chs k).size : Int) := by omega
                have hc := HCh.out i hlt
                have hs := HCS.out i (by rw [HCL.out]; exact hlt)
                have hcn := HCN.out i (by rw [HCL.out]; exact hlt)
                generalize (cl k).getD i 0 = c at *
                have HS := hid hs
                have HCN2 := hid hcn
                clear hs hcn
                go_wp2_with fail
                refine (rsize_any c _).mono ?_
                rintro e wr ⟨rfl, rfl⟩
                by_cases hp : 0 < szc c
                · obtain ⟨hj, hgd, hsz⟩ := HCN2.out hp
                  have hp0 : (szc c == 0) = false := by simp; omega
                  have HS2 : Hid (cnt (cl k) (i + 1) = cnt (cl k) i + 1) := by rw [Hid, HS.out, if_pos hp]
                  have HG : Hid (goodc c (o.n.l.getD (cnt (cl k) i) 0) = inB ((nmb (prt k)).getD (cnt (cl k) i) (0, 0)) (o.n.l.getD (cnt (cl k) i) 0)) := by rw [Hid, hgd]; exact goodc_in c _ hsz
                  have HGo : Hid (goodc c (o.n.l.getD (cnt (cl k) i) 0) = (okB (szc c) (o.n.l.getD (cnt (cl k) i) 0) && (!(c == 112 && decide (128 < o.n.l.getD (cnt (cl k) i) 0)) && !((c == 122 || c == 113) && (o.n.l.getD (cnt (cl k) i) 0 != 0))))) := rfl
                  have HWS := hid (widTo_succ (nmb (prt k)) o.n.l (cnt (cl k) i))
                  have HWN := hid (widTo_no (nmb (prt k)) o.n.l (cnt (cl k) i) (by rw [HM.out]; exact hj))
                  have hjn : cnt (cl k) i < o.n.n := by have h1 := HLn.out; have h2 := HM.out; omega
                  have hjn' : ((cnt (cl k) i : Nat) : Int) < (o.n.n : Int) := by omega
                  have hwf := HW.out _ hjn
                  obtain ⟨nb, noff, hna, hnc⟩ := (O3.out.n.below hb.out).2.2.2.2 _ hjn
                  have b1 := ((R3.out.below hb.out).cell 1).trans o.at1
                  rw [hna] at b1
                  have HSZ := hid hsz
                  have HWf := hid hwf
                  generalize o.n.l.getD (cnt (cl k) i) 0 = z at *
                  have HP := hid hp
                  clear hp hj hgd hsz hwf a1
                  generalize cnt (cl k) i = n0 at *
                  go_wp2_with fail
                  refine (rsize_any c _).mono ?_
                  rintro e wr ⟨rfl, rfl⟩
                  go_wp2_with fail
                  refine (digits_any (szc c) z _ HSZ.out HWf.out).mono ?_
                  rintro e w7 ⟨da, dk, dc, rfl, hb7, _⟩
                  have B7 := hid (bthen hb.out hb7)
                  have B8 := hid (bthen B3.out B7.out)
                  clear hb7
                  generalize okB (szc c) z = okb at *
                  cases okb
                  · go_wp2_with fail
                    go_ret
                    exact ⟨ret_int (by rw [HC.out, if_neg (by simp), if_pos (HWN.out (by rw [← HG.out, HGo.out]; rfl))]), B8.out⟩
                  · by_cases q1 : c = 112
                    · have r1 : (c == 112) = true := by simp [q1]
                      have r2 : (c == 122) = false := by simp [q1]
                      have r3 : (c == 113) = false := by simp [q1]
                      clear q1
                      by_cases q4 : 128 < z
                      · have r4 : decide (128 < z) = true := decide_eq_true q4
                        go_wp2_with fail
                        go_ret
                        exact ⟨ret_int (by rw [HC.out, if_neg (by simp), if_pos (HWN.out (by rw [← HG.out, HGo.out, r1, r4]; rfl))]), B8.out⟩
                      · have r4 : decide (128 < z) = false := decide_eq_false q4
                        go_wp2_with fail
                        go_roundw
                        case rel =>
                          refine ⟨i + 1, by omega, by go_num, by rw [HS2.out]; go_num, ?_, B7.out⟩
                          rw [Hid, HS2.out, HWS.out, hw.out, ← HG.out, HGo.out, r1, r2, r3, r4]; rfl
                        case measure => simp [intOf]; omega
                    · have r1 : (c == 112) = false := by simp [q1]
                      clear q1
                      by_cases q2 : c = 122
                      · have r2 : (c == 122) = true := by simp [q2]
                        clear q2
                        cases r5 : (z != 0)
                        · go_wp2_with fail
                          go_roundw
                          case rel =>
                            refine ⟨i + 1, by omega, by go_num, by rw [HS2.out]; go_num, ?_, B7.out⟩
                            rw [Hid, HS2.out, HWS.out, hw.out, ← HG.out, HGo.out, r1, r2, r5]; rfl
                          case measure => simp [intOf]; omega
                        · go_wp2_with fail
                          go_ret
                          exact ⟨ret_int (by rw [HC.out, if_neg (by simp), if_pos (HWN.out (by rw [← HG.out, HGo.out, r1, r2, r5]; rfl))]), B8.out⟩
                      · have r2 : (c == 122) = false := by simp [q2]
                        clear q2
                        by_cases q3 : c = 113
                        · have r3 : (c == 113) = true := by simp [q3]
                          clear q3
                          cases r5 : (z != 0)
                          · go_wp2_with fail
                            go_roundw
                            case rel =>
                              refine ⟨i + 1, by omega, by go_num, by rw [HS2.out]; go_num, ?_, B7.out⟩
                              rw [Hid, HS2.out, HWS.out, hw.out, ← HG.out, HGo.out, r1, r2, r3, r5]; rfl
                            case measure => simp [intOf]; omega
                          · go_wp2_with fail
                            go_ret
                            exact ⟨ret_int (by rw [HC.out, if_neg (by simp), if_pos (HWN.out (by rw [← HG.out, HGo.out, r1, r2, r3, r5]; rfl))]), B8.out⟩
                        · have r3 : (c == 113) = false := by simp [q3]
                          clear q3
                          go_wp2_with fail
                          go_roundw
                          case rel =>
                            refine ⟨i + 1, by omega, by go_num, by rw [HS2.out]; go_num, ?_, B7.out⟩
                            rw [Hid, HS2.out, HWS.out, hw.out, ← HG.out, HGo.out, r1, r2, r3]; rfl
                          case measure => simp [intOf]; omega
                · have hp0 : (szc c == 0) = true := by
                    have : szc c = 0 := by have := szc_nn c; omega
                    simp [this]
                  have HS2 : Hid (cnt (cl k) (i + 1) = cnt (cl k) i) := by rw [Hid, HS.out, if_neg hp]; rfl
                  clear hp
                  go_wp2_with fail
                  go_roundw
                  case rel => exact ⟨i + 1, by omega, by go_num, by rw [HS2.out], by rw [Hid, HS2.out]; exact hw.out, hb.out⟩
                  case measure => simp [intOf]; omega
              · obtain rfl : i = (chs k).size := by omega
                have HWD : Hid (widB (nmb (prt k)) o.n.l = true) := by
                  have h1 := hw.out
                  rw [HCE.out, ← HM.out] at h1
                  exact h1
                have B9 := hid (bthen B3.out hb.out)
                have b18 := ((R3.out.below hb.out).cell 18).trans (Ov.at18 HA.out)
                generalize o.t.n = tl at *
                by_cases h64 : 64 < tl
                · have h64' : (64 : Int) < (tl : Int) := by omega
                  go_wp2_with fail
                  go_ret
                  exact ⟨ret_int (by rw [HC.out, HWD.out, if_neg (by simp), if_neg (by simp), if_pos h64]), B9.out⟩
                · have h64' : ¬ (64 : Int) < (tl : Int) := by omega
                  go_wp2_with fail
                  go_ret
                  exact ⟨ret_int (by rw [HC.out, HWD.out, if_neg (by simp), if_neg (by simp), if_neg h64]), B9.out⟩
end Go.Proofs.YtbfjkhafdkhhmaaDoor

namespace Go.Proofs.YtbfjkhafdkhhmaaDoor
open Go.ChangeShapes Go.WideShapes Go.ChangeAt Go.RowKit Go.Deep
set_option linter.unusedVariables false
set_option linter.unusedSimpArgs false

theorem lit_own (w : World) (cs : Array Value) (e : TypeId) (n : Nat) (h : cs.size = n) (hm : n ≤ 100) : (w.alloc (.cells cs e)).ownsRow w.heap.size e 1 (.slice (some ⟨w.heap.size, 0, none⟩) n n) n cs.toList :=
  ⟨by simp [h], .inr ⟨w.heap.size, n, cs, rfl, Nat.le_refl _, heap_alloc_new w _, Nat.le_refl _, by unfold maxLen; omega, by simp [h], by rw [Nat.mul_one]; exact List.take_of_length_le (by simp [h])⟩⟩
/-- copy(a[:], ..) of a whole address, as one step of a region that draws its order. -/
theorem step_copy16 {ops : Array Oper} {op : Oper} {a : Act} {w : World} {K : Act → World → Prop} {Q : Exit → Act → World → Prop} {E : Prop} (hgd : op.guard = none) (d s : Operand)
    (hop : op.op = .call { callee := .builtin .copy, args := #[d, s], argTypes := #[33, 33] }) (g dCap sCap : Nat) (sp : Option Addr) (hd : a.eval d = .slice (some ⟨g, 0, none⟩) 16 dCap) (hs : a.eval s = .slice sp 16 sCap)
    {l0 : List Int} (hr : Row w g 26 (arr l0)) (F : List Int) (hl : Lies .u8 w sp 16 sCap F) (h0 : l0.length = 16)
    (h : K (a.put op.dst (goInt 16)) (w.setRow g (arr F))) :
    if Region.wanted op (yielded ops a.tmps) = true then Oper.wp Tryd.prog op a w K Q else E := by
  have hw : Region.wanted op (yielded ops a.tmps) = true := by simp [Region.wanted, hgd]
  rw [if_pos hw]
  have hF : F.length = 16 := hl.1
  have l2 : (u8s F).length = 16 := by rw [u8s_len, hF]
  obtain ⟨b, off, e, _⟩ := hl.2.2.2.2 0 (by omega)
  subst e
  have hrun := run_copy_row (P := Tryd.prog) w 33 33 op.type 5 g 0 16 dCap ⟨b, off, none⟩ 16 sCap (arr l0) 26 (u8s F) Tryd.underlying33 (by kernel_rfl) hr (by rw [l2]; rfl) (hl.cells _ rfl) (by rw [l2, arr_size, h0]; decide) (ints_oneCell8 F .u8)
  have e2 : ((arr l0).toList.take 0 ++ (u8s F ++ (arr l0).toList.drop (0 + (u8s F).length))).toArray = arr F := by
    rw [l2, List.take_zero, List.nil_append, List.drop_of_length_le (by rw [Array.length_toList, arr_size, h0]; decide), List.append_nil]; rfl
  first
    | rw [e2, l2] at hrun
    | (rw [List.append_assoc, e2, l2] at hrun)
  unfold Oper.wp
  simp [execOp, hop, resolve, invoke, builtin, hd, hs, hrun, Result.andThen]
  exact h
theorem step_copy0 {ops : Array Oper} {op : Oper} {a : Act} {w : World} {K : Act → World → Prop} {Q : Exit → Act → World → Prop} {E : Prop} (hgd : op.guard = none) (d s : Operand)
    (hop : op.op = .call { callee := .builtin .copy, args := #[d, s], argTypes := #[33, 33] }) (dp sp : Option Addr) (dLen dCap sCap : Nat) (hd : a.eval d = .slice dp dLen dCap) (hs : a.eval s = .slice sp 0 sCap)
    (h : K (a.put op.dst (goInt 0)) w) :
    if Region.wanted op (yielded ops a.tmps) = true then Oper.wp Tryd.prog op a w K Q else E := by
  have hw : Region.wanted op (yielded ops a.tmps) = true := by simp [Region.wanted, hgd]
  rw [if_pos hw]
  have hrun := run_copy_none (P := Tryd.prog) w 33 33 op.type 5 dp sp dLen dCap 0 sCap Tryd.underlying33 (by kernel_rfl) (by simp)
  unfold Oper.wp
  simp [execOp, hop, resolve, invoke, builtin, hd, hs, hrun, Result.andThen]
  exact h
theorem st26 {ops : Array Oper} {rest : List Oper} {o : Oper} {a : Act} {w : World} {Q : Exit → Act → World → Prop} (x y : Operand) (ho : o.op = .store 26 x y) (hgd : o.guard = none) (g : Nat) (l : List Int) (hl : l.length = 16) (hx : a.eval x = .pointer (some ⟨g, 0, none⟩)) (hy : a.eval y = .agg (arr l)) (t' : TypeId) (old : List Int) (hlo : old.length = 16) (hg : Row w g t' (arr old))
    (hn : wpList Tryd.prog ops Q rest (a.put o.dst undef) (w.setRow g (arr l))) : wpList Tryd.prog ops Q (o :: rest) a w :=
  wp_st 26 x y ho hgd g (arr l) hx hy (by rw [arr_size, hl]; exact size41) (arr_one _) t' (arr old) (by rw [arr_size, arr_size, hl, hlo]) hg hn
theorem res26 {fn : Func} {p : Tmp} (hf : fn.results = #[.cell p 26]) (tmps : Array Value) (w : World) (g : Nat) (t' : TypeId) (l : List Int) (hl : l.length = 16)
    (hp : tmps.getD p undef = .pointer (some ⟨g, 0, none⟩)) (hg : Row w g t' (arr l)) : (results fn tmps).run Tryd.prog w = .ok (.agg (arr l)) w :=
  results_cell_row hf tmps w g t' (arr l) (0, 0) _ hp hg Tryd.underlying26 rfl (by rw [arr_size, hl]; exact size41)
set_option maxRecDepth 100000 in
set_option maxHeartbeats 1600000 in
theorem address_yes (W w : World) (c : Nat) (a : Option Addr) (len cap : Nat) (l : List Int) (at_ : Nat) (er : Int) (h : DAt W w c a len cap l at_ er) (hE : rdE 1 16 (len - at_) er = 0) (F : List Int) (hF : F = (l.drop at_).take 16) (e2 : Int) (he2 : e2 = if F = zeros then spE 0 1 else 0) :
    Calls Tryd.prog 65 #[.agg #[.pointer (some ⟨c, 0, none⟩)]] w fun x w' => x = .returned (.agg (arr F)) ∧ Hid (DAt W w' c a len cap l (at_ + 16) e2) ∧ Hid (Oth c c w w') := by
  have hz := zarr
  have HE2 := hid he2
  clear he2
  have HF := hid hF
  have HN : Hid (rdN 1 16 (len - at_) er = 16) := by rw [Hid, rdN, if_pos hE]; rfl
  have HE : Hid (rdE 1 16 (len - at_) er = 0) := hE
  have HL16 : Hid (F.length = 16) := by
    rw [Hid, hF]
    have h1 := rdN_le 1 16 (len - at_) er
    have h2 := h.cur.lies.1
    rw [HN.out] at h1
    rw [List.length_take, List.length_drop]; omega
  have HAd : Hid (Adr F) := ⟨HL16.out, by rw [hF]; exact h.cur.oct.cut _ _⟩
  clear hE hF
  have hAd : Adr F := HAd.out
  have hq := eq41 F zeros hAd.1 adr_zeros.1
  have hcl : c < w.heap.size := h.cur.lt
  have hW : W.heap.size ≤ w.heap.size := h.below.size
  have R1 := hid (((Row.new w 83 #[.pointer (some ⟨c, 0, none⟩)]).alloc (.cells (arr zeros) 26)).alloc (.cells (arr zeros) 26))
  have Y1 := hid ((Row.new (w.alloc (.cells #[.pointer (some ⟨c, 0, none⟩)] 83)) 26 (arr zeros)).alloc (.cells (arr zeros) 26))
  have Z1 := hid (Row.new ((w.alloc (.cells #[.pointer (some ⟨c, 0, none⟩)] 83)).alloc (.cells (arr zeros) 26)) 26 (arr zeros))
  have B1 := hid (balloc (balloc (balloc (Below.refl w.heap.size w) (.cells #[.pointer (some ⟨c, 0, none⟩)] 83)) (.cells (arr zeros) 26)) (.cells (arr zeros) 26))
  have hs1 : (w.alloc (.cells #[.pointer (some ⟨c, 0, none⟩)] 83)).heap.size = w.heap.size + 1 := World.size_alloc ..
  have hs2 : ((w.alloc (.cells #[.pointer (some ⟨c, 0, none⟩)] 83)).alloc (.cells (arr zeros) 26)).heap.size = w.heap.size + 2 := by rw [World.size_alloc, hs1]
  rw [hs1] at Y1
  rw [hs2] at Z1
  have H1 := hid (h.on B1.out)
  have T1 : Hid (Oth c c w _) := hid (Oth.below B1.out)
  clear h
  go_enter Tryd.func65, Tryd.ntmps65
  go_upto_region 2 with fail
  generalize ((w.alloc (.cells #[.pointer (some ⟨c, 0, none⟩)] 83)).alloc (.cells (arr zeros) 26)).alloc (.cells (arr zeros) 26) = w1 at *
  have H1 : Hid (DAt W w1.drew c a len cap l at_ er) := hid (H1.out.on (bdrew (Below.refl _ _) 1))
  have T1 : Hid (Oth c c w w1.drew) := hid (T1.out.trans (Oth.below (bdrew (Below.refl _ _) 1)))
  have R1 : Hid (Row w1.drew w.heap.size 83 #[.pointer (some ⟨c, 0, none⟩)]) := R1
  have Y1 : Hid (Row w1.drew (w.heap.size + 1) 26 (arr zeros)) := Y1
  have Z1 : Hid (Row w1.drew (w.heap.size + 2) 26 (arr zeros)) := Z1
  generalize hg1 : w.heap.size = g1 at *
  clear hs1 hs2 hz B1
  refine wp_region_held_drew (S := fun w' => w'.cell? ⟨g1, 0, none⟩ = some (.pointer (some ⟨c, 0, none⟩)) ∧ Hid (Row w' g1 83 #[.pointer (some ⟨c, 0, none⟩)])) (by kernel_rfl) ?_ (fun hHeld => ?_)
  · exact ⟨(R1.out.cell 0).trans rfl, R1.out⟩
  refine wpAnyH_take (i := 0) (oi := _) (v := ?va0) rfl (by kernel_rfl) (by kernel_rfl) (by kernel_rfl) (fun _ _ _ h => h) (Or.inl ⟨by rfl, ?hya0⟩) (by assumption) ?resta0
  case hya0 => (intro w hSw; (try dsimp only at hSw); go_split_ands; go_simp; try (with_reducible rfl))
  try simp only [List.getElem_toArray, List.getElem_cons_zero, List.getElem_cons_succ, Act.put, List.setIfInBounds_toArray, List.set_cons_zero, List.set_cons_succ]
  refine wpAnyH_take (i := 1) (oi := _) (v := ?va1) rfl (by kernel_rfl) (by kernel_rfl) (by kernel_rfl) (fun _ _ _ h => h) (Or.inl ⟨by rfl, ?hya1⟩) (by assumption) ?resta1
  case hya1 => (intro w hSw; (try dsimp only at hSw); go_split_ands; go_simp; try (with_reducible rfl))
  try simp only [List.getElem_toArray, List.getElem_cons_zero, List.getElem_cons_succ, Act.put, List.setIfInBounds_toArray, List.set_cons_zero, List.set_cons_succ]
  refine wpAnyH_take (i := 2) (oi := _) (v := ?va2) rfl (by kernel_rfl) (by kernel_rfl) (by kernel_rfl) (fun _ _ _ h => h) (Or.inl ⟨by rfl, ?hya2⟩) (by assumption) ?resta2
  case hya2 => (intro w hSw; (try dsimp only at hSw); go_split_ands; go_simp; try (with_reducible rfl))
  try simp only [List.getElem_toArray, List.getElem_cons_zero, List.getElem_cons_succ, Act.put, List.setIfInBounds_toArray, List.set_cons_zero, List.set_cons_succ]
  refine wpAnyH_ready (rs := [3]) (by kernel_rfl) (by simp) ?_
  refine AllReadyH.cons (o := _) rfl (fun K hK => ?_) AllReadyH.nil
  go_simp
  refine (bytes_any _ c a len cap at_ l er 16 H1.out.cur).mono ?_
  rintro e w2 ⟨v2, rfl, hown2, hc2, hg2⟩
  have H2 := hid (H1.out.step hc2 hg2)
  have T2 := hid (T1.out.trans (Oth.grown hg2 (.inl rfl)))
  rw [HN.out, HE.out] at H2
  have R2 := hid (R1.out.kept hg2 (fun e => by have := Option.some.inj e; omega))
  have Y2 := hid (Y1.out.kept hg2 (fun e => by have := Option.some.inj e; omega))
  have Z2 := hid (Z1.out.kept hg2 (fun e => by have := Option.some.inj e; omega))
  rw [HN.out] at hown2
  obtain ⟨va, vc, rfl⟩ := owns_len hown2
  have O2 := hid hown2
  clear hc2 hg2 hown2 H1 R1 Y1 Z1
  go_wp2_with fail
  refine hK.out _ _ ⟨(R2.out.cell 0).trans rfl, R2.out⟩ (fun hHeld => ?_)
  clear hK K
  try simp only [List.getElem_toArray, List.getElem_cons_zero, List.getElem_cons_succ, Act.put, List.setIfInBounds_toArray, List.set_cons_zero, List.set_cons_succ]
  refine wpAnyH_ready (rs := [4]) (by kernel_rfl) (by simp) ?_
  refine AllReadyH.cons (o := _) rfl (fun K hK => ?_) AllReadyH.nil
  have T3 := hid (T2.out.new (grownBy_setRow w2 (g1 + 2) (arr F)) (by omega))
  have hL2 : Lies .u8 w2 va 16 vc F := lies_own HL16.out (by rw [HF.out]; exact O2.out)
  refine step_copy16 rfl _ _ rfl (g1 + 2) _ _ va rfl rfl Z2.out F hL2 rfl ?_
  have H3 : Hid (DAt W (w2.setRow (g1 + 2) (arr F)) c a len cap l (at_ + 16) 0) := hid (H2.out.other Z2.out (by decide) (by omega) (by omega) (grownBy_setRow ..))
  have R3 := hid (R2.out.rowOther (g1 + 2) (arr F) (by omega))
  have Y3 := hid (Y2.out.rowOther (g1 + 2) (arr F) (by omega))
  have Z3 := hid (Z2.out.setRow (arr F))
  generalize w2.setRow (g1 + 2) (arr F) = w3 at *
  refine hK.out _ _ ⟨(R3.out.cell 0).trans rfl, R3.out⟩ (fun hHeld => ?_)
  clear hK K
  try simp only [List.getElem_toArray, List.getElem_cons_zero, List.getElem_cons_succ, Act.put, List.setIfInBounds_toArray, List.set_cons_zero, List.set_cons_succ]
  refine wpAnyH_done (by kernel_rfl) ?_ _
  have r0 := (R3.out.cell 0).trans rfl
  have HZ3 := Z3
  by_cases hzz : F = zeros
  · subst hzz
    have e0 : (zeros == zeros) = true := by simp
    rw [e0] at hq
    clear e0
    go_wp2_with (first | (with_reducible refine wpl_id ?_; refine ld41 _ rfl rfl _ _ rfl zeros HAd.out HZ3.out.part ?_) | (with_reducible refine wpl_id ?_; refine bd41 rfl rfl ?_))
    refine (spoil_spE _ c a len cap _ l _ 1 H3.out.cur).mono ?_
    rintro e w4 ⟨rfl, hc4, hg4, _⟩
    have H4 := hid (H3.out.step hc4 hg4)
    have T4 := hid (T3.out.trans (Oth.grown hg4 (.inl rfl)))
    have Y4 := hid (Y3.out.kept hg4 (fun e => by have := Option.some.inj e; omega))
    have Z4 := hid (HZ3.out.kept hg4 (fun e => by have := Option.some.inj e; omega))
    clear hc4 hg4
    have H5 := hid (H4.out.other Y4.out (by decide) (by omega) (by omega) (grownBy_setRow w4 (g1 + 1) (arr zeros)))
    have Y5 := hid (Y4.out.setRow (arr zeros))
    have T5 := hid (T4.out.new (grownBy_setRow w4 (g1 + 1) (arr zeros)) (by omega))
    go_wp2_with (first | (with_reducible refine wpl_id ?_; refine ld41 _ rfl rfl _ _ rfl zeros HAd.out Z4.out.part ?_) | ((with_reducible refine wpl_id ?_); refine st26 _ _ rfl rfl (g1 + 1) zeros HAd.out.1 rfl rfl 26 zeros rfl Y4.out ?_))
    refine bodyPost_ret (res26 rfl _ _ (g1 + 1) 26 zeros HAd.out.1 rfl Y5.out) rfl ⟨rfl, ?_, T5⟩
    rw [HE2.out]; simp only [if_true]; exact H5
  · have HZ := hid hzz
    have e0 : (F == zeros) = false := by simp [hzz]
    rw [e0] at hq
    clear hzz e0
    have H5 := hid (H3.out.other Y3.out (by decide) (by omega) (by omega) (grownBy_setRow w3 (g1 + 1) (arr F)))
    have Y5 := hid (Y3.out.setRow (arr F))
    have T5 := hid (T3.out.new (grownBy_setRow w3 (g1 + 1) (arr F)) (by omega))
    go_wp2_with (first | (with_reducible refine wpl_id ?_; refine ld41 _ rfl rfl _ _ rfl F HAd.out HZ3.out.part ?_) | (with_reducible refine wpl_id ?_; refine bd41 rfl rfl ?_) | ((with_reducible refine wpl_id ?_); refine st26 _ _ rfl rfl (g1 + 1) F HAd.out.1 rfl rfl 26 zeros rfl Y3.out ?_))
    refine bodyPost_ret (res26 rfl _ _ (g1 + 1) 26 F HAd.out.1 rfl Y5.out) rfl ⟨rfl, ?_, T5⟩
    rw [HE2.out, if_neg HZ.out]; exact H5
set_option maxRecDepth 100000 in
set_option maxHeartbeats 1600000 in
theorem address_no (W w : World) (c : Nat) (a : Option Addr) (len cap : Nat) (l : List Int) (at_ : Nat) (er : Int) (h : DAt W w c a len cap l at_ er) (e1 : Int) (hE : rdE 1 16 (len - at_) er = e1) (he : e1 ≠ 0) (e2 : Int) (he2 : e2 = if zeros = zeros then spE e1 1 else e1) :
    Calls Tryd.prog 65 #[.agg #[.pointer (some ⟨c, 0, none⟩)]] w fun x w' => x = .returned (.agg (arr zeros)) ∧ Hid (DAt W w' c a len cap l (at_ + 0) e2) ∧ Hid (Oth c c w w') := by
  have hz := zarr
  have HE2 := hid he2
  clear he2
  have HN : Hid (rdN 1 16 (len - at_) er = 0) := by rw [Hid, rdN, hE, if_neg he]
  have HE : Hid (rdE 1 16 (len - at_) er = e1) := hE
  have HAd : Hid (Adr zeros) := adr_zeros
  clear hE he
  have hAd : Adr zeros := HAd.out
  have hq := eq41 zeros zeros hAd.1 adr_zeros.1
  have hcl : c < w.heap.size := h.cur.lt
  have hW : W.heap.size ≤ w.heap.size := h.below.size
  have R1 := hid (((Row.new w 83 #[.pointer (some ⟨c, 0, none⟩)]).alloc (.cells (arr zeros) 26)).alloc (.cells (arr zeros) 26))
  have Y1 := hid ((Row.new (w.alloc (.cells #[.pointer (some ⟨c, 0, none⟩)] 83)) 26 (arr zeros)).alloc (.cells (arr zeros) 26))
  have Z1 := hid (Row.new ((w.alloc (.cells #[.pointer (some ⟨c, 0, none⟩)] 83)).alloc (.cells (arr zeros) 26)) 26 (arr zeros))
  have B1 := hid (balloc (balloc (balloc (Below.refl w.heap.size w) (.cells #[.pointer (some ⟨c, 0, none⟩)] 83)) (.cells (arr zeros) 26)) (.cells (arr zeros) 26))
  have hs1 : (w.alloc (.cells #[.pointer (some ⟨c, 0, none⟩)] 83)).heap.size = w.heap.size + 1 := World.size_alloc ..
  have hs2 : ((w.alloc (.cells #[.pointer (some ⟨c, 0, none⟩)] 83)).alloc (.cells (arr zeros) 26)).heap.size = w.heap.size + 2 := by rw [World.size_alloc, hs1]
  rw [hs1] at Y1
  rw [hs2] at Z1
  have H1 := hid (h.on B1.out)
  have T1 : Hid (Oth c c w _) := hid (Oth.below B1.out)
  clear h
  go_enter Tryd.func65, Tryd.ntmps65
  go_upto_region 2 with fail
  generalize ((w.alloc (.cells #[.pointer (some ⟨c, 0, none⟩)] 83)).alloc (.cells (arr zeros) 26)).alloc (.cells (arr zeros) 26) = w1 at *
  have H1 : Hid (DAt W w1.drew c a len cap l at_ er) := hid (H1.out.on (bdrew (Below.refl _ _) 1))
  have T1 : Hid (Oth c c w w1.drew) := hid (T1.out.trans (Oth.below (bdrew (Below.refl _ _) 1)))
  have R1 : Hid (Row w1.drew w.heap.size 83 #[.pointer (some ⟨c, 0, none⟩)]) := R1
  have Y1 : Hid (Row w1.drew (w.heap.size + 1) 26 (arr zeros)) := Y1
  have Z1 : Hid (Row w1.drew (w.heap.size + 2) 26 (arr zeros)) := Z1
  generalize hg1 : w.heap.size = g1 at *
  clear hs1 hs2 hz B1
  refine wp_region_held_drew (S := fun w' => w'.cell? ⟨g1, 0, none⟩ = some (.pointer (some ⟨c, 0, none⟩)) ∧ Hid (Row w' g1 83 #[.pointer (some ⟨c, 0, none⟩)])) (by kernel_rfl) ?_ (fun hHeld => ?_)
  · exact ⟨(R1.out.cell 0).trans rfl, R1.out⟩
  refine wpAnyH_take (i := 0) (oi := _) (v := ?va0) rfl (by kernel_rfl) (by kernel_rfl) (by kernel_rfl) (fun _ _ _ h => h) (Or.inl ⟨by rfl, ?hya0⟩) (by assumption) ?resta0
  case hya0 => (intro w hSw; (try dsimp only at hSw); go_split_ands; go_simp; try (with_reducible rfl))
  try simp only [List.getElem_toArray, List.getElem_cons_zero, List.getElem_cons_succ, Act.put, List.setIfInBounds_toArray, List.set_cons_zero, List.set_cons_succ]
  refine wpAnyH_take (i := 1) (oi := _) (v := ?va1) rfl (by kernel_rfl) (by kernel_rfl) (by kernel_rfl) (fun _ _ _ h => h) (Or.inl ⟨by rfl, ?hya1⟩) (by assumption) ?resta1
  case hya1 => (intro w hSw; (try dsimp only at hSw); go_split_ands; go_simp; try (with_reducible rfl))
  try simp only [List.getElem_toArray, List.getElem_cons_zero, List.getElem_cons_succ, Act.put, List.setIfInBounds_toArray, List.set_cons_zero, List.set_cons_succ]
  refine wpAnyH_take (i := 2) (oi := _) (v := ?va2) rfl (by kernel_rfl) (by kernel_rfl) (by kernel_rfl) (fun _ _ _ h => h) (Or.inl ⟨by rfl, ?hya2⟩) (by assumption) ?resta2
  case hya2 => (intro w hSw; (try dsimp only at hSw); go_split_ands; go_simp; try (with_reducible rfl))
  try simp only [List.getElem_toArray, List.getElem_cons_zero, List.getElem_cons_succ, Act.put, List.setIfInBounds_toArray, List.set_cons_zero, List.set_cons_succ]
  refine wpAnyH_ready (rs := [3]) (by kernel_rfl) (by simp) ?_
  refine AllReadyH.cons (o := _) rfl (fun K hK => ?_) AllReadyH.nil
  go_simp
  refine (bytes_any _ c a len cap at_ l er 16 H1.out.cur).mono ?_
  rintro e w2 ⟨v2, rfl, hown2, hc2, hg2⟩
  have H2 := hid (H1.out.step hc2 hg2)
  have T2 := hid (T1.out.trans (Oth.grown hg2 (.inl rfl)))
  rw [HN.out, HE.out] at H2
  have R2 := hid (R1.out.kept hg2 (fun e => by have := Option.some.inj e; omega))
  have Y2 := hid (Y1.out.kept hg2 (fun e => by have := Option.some.inj e; omega))
  have Z2 := hid (Z1.out.kept hg2 (fun e => by have := Option.some.inj e; omega))
  rw [HN.out] at hown2
  obtain ⟨va, vc, rfl⟩ := owns_len hown2
  have O2 := hid hown2
  clear hc2 hg2 hown2 H1 R1 Y1 Z1
  go_wp2_with fail
  refine hK.out _ _ ⟨(R2.out.cell 0).trans rfl, R2.out⟩ (fun hHeld => ?_)
  clear hK K
  try simp only [List.getElem_toArray, List.getElem_cons_zero, List.getElem_cons_succ, Act.put, List.setIfInBounds_toArray, List.set_cons_zero, List.set_cons_succ]
  refine wpAnyH_ready (rs := [4]) (by kernel_rfl) (by simp) ?_
  refine AllReadyH.cons (o := _) rfl (fun K hK => ?_) AllReadyH.nil
  have T3 := T2
  refine step_copy0 rfl _ _ rfl _ _ _ _ _ rfl rfl ?_
  have H3 := H2
  have R3 := R2
  have Y3 := Y2
  have Z3 := Z2
  generalize w2 = w3 at *
  refine hK.out _ _ ⟨(R3.out.cell 0).trans rfl, R3.out⟩ (fun hHeld => ?_)
  clear hK K
  try simp only [List.getElem_toArray, List.getElem_cons_zero, List.getElem_cons_succ, Act.put, List.setIfInBounds_toArray, List.set_cons_zero, List.set_cons_succ]
  refine wpAnyH_done (by kernel_rfl) ?_ _
  have r0 := (R3.out.cell 0).trans rfl
  have HZ3 := Z3
  · have e0 : (zeros == zeros) = true := by simp
    rw [e0] at hq
    clear e0
    go_wp2_with (first | (with_reducible refine wpl_id ?_; refine ld41 _ rfl rfl _ _ rfl zeros HAd.out HZ3.out.part ?_) | (with_reducible refine wpl_id ?_; refine bd41 rfl rfl ?_))
    refine (spoil_spE _ c a len cap _ l _ 1 H3.out.cur).mono ?_
    rintro e w4 ⟨rfl, hc4, hg4, _⟩
    have H4 := hid (H3.out.step hc4 hg4)
    have T4 := hid (T3.out.trans (Oth.grown hg4 (.inl rfl)))
    have Y4 := hid (Y3.out.kept hg4 (fun e => by have := Option.some.inj e; omega))
    have Z4 := hid (HZ3.out.kept hg4 (fun e => by have := Option.some.inj e; omega))
    clear hc4 hg4
    have H5 := hid (H4.out.other Y4.out (by decide) (by omega) (by omega) (grownBy_setRow w4 (g1 + 1) (arr zeros)))
    have Y5 := hid (Y4.out.setRow (arr zeros))
    have T5 := hid (T4.out.new (grownBy_setRow w4 (g1 + 1) (arr zeros)) (by omega))
    go_wp2_with (first | (with_reducible refine wpl_id ?_; refine ld41 _ rfl rfl _ _ rfl zeros HAd.out Z4.out.part ?_) | ((with_reducible refine wpl_id ?_); refine st26 _ _ rfl rfl (g1 + 1) zeros HAd.out.1 rfl rfl 26 zeros rfl Y4.out ?_))
    refine bodyPost_ret (res26 rfl _ _ (g1 + 1) 26 zeros HAd.out.1 rfl Y5.out) rfl ⟨rfl, ?_, T5⟩
    rw [HE2.out]; simp only [if_true]; exact H5
end Go.Proofs.YtbfjkhafdkhhmaaDoor
