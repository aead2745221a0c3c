/- The reader: all that a message has. · control.Decode. · Reading what was written, and writing what was read: no program. -/
import Derived.Test.YtbfjkhafdkhhmaaDoorM26
import Derived.Test.YtbfjkhafdkhhmaaDoorM18
import Derived.Test.YtbfjkhafdkhhmaaDoorM24
import Derived.Test.YtbfjkhafdkhhmaaDoorM5
namespace Go.Proofs.YtbfjkhafdkhhmaaDoor
open Go.ChangeShapes Go.WideShapes Go.ChangeAt Go.RowKit Go.Deep
set_option linter.unusedVariables false
set_option linter.unusedSimpArgs false

set_option maxRecDepth 100000 in
set_option maxHeartbeats 6400000 in
theorem rmsg_any {B : Nat} (W w : World) (c : Nat) (a : Option Addr) (cap : Nat) (l : List Int) (k : Nat) (hk : k < 4) (h : DAt W w c a l.length cap l 0 0) (hV : CV B W) :
    Calls Tryd.prog 38 #[.agg #[.pointer (some ⟨c, 0, none⟩)], .int .i64 k] w fun x w' => ∃ m at3, x = .returned (.agg m.cs) ∧ Hid (MOwn w.heap.size w' m) ∧ Hid (m.p = dcM k l) ∧ Hid (DAt W w' c a l.length cap l at3 (dcE k l)) ∧ Hid (Oth c c w w') := by
  have hz := zmv
  have hz2 := zvl
  have HV := hid hV
  have hB := hid hV.le
  have HK4 := hid hk
  have hk4' : (k : Int) < 4 := by omega
  have hcl : c < w.heap.size := h.cur.lt
  have hW : W.heap.size ≤ w.heap.size := h.below.size
  have hL := hid (cpa_len k hk)
  have hFOK := hid (cpa_fok k hk)
  obtain ⟨pa, pn, pc, c1, hP0⟩ := hV.c.parts k hk
  have hpn : pn ≤ 6 := by rw [← hP0.len]; exact hL.out.1
  have hPL := hid hP0.len
  have C1 := hid c1
  have HP := hid hP0
  have C2 := hid (hV.c.root k hk)
  have hs1 : (w.alloc (.cells #[.pointer (some ⟨c, 0, none⟩)] 83)).heap.size = w.heap.size + 1 := World.size_alloc ..
  have hs2 : ((w.alloc (.cells #[.pointer (some ⟨c, 0, none⟩)] 83)).alloc (.cells Mv.zero.cs 29)).heap.size = w.heap.size + 2 := by rw [World.size_alloc, hs1]
  have R1 := hid (((Row.new w 83 #[.pointer (some ⟨c, 0, none⟩)]).alloc (.cells Mv.zero.cs 29)).alloc (.cells (nArr zer11) 74))
  have Z1 := hid ((Row.new (w.alloc (.cells #[.pointer (some ⟨c, 0, none⟩)] 83)) 29 Mv.zero.cs).alloc (.cells (nArr zer11) 74))
  have V1 := hid (Row.new ((w.alloc (.cells #[.pointer (some ⟨c, 0, none⟩)] 83)).alloc (.cells Mv.zero.cs 29)) 74 (nArr zer11))
  rw [hs1] at Z1
  rw [hs2] at V1
  have B1 := hid (balloc (balloc (balloc (Below.refl w.heap.size w) (.cells #[.pointer (some ⟨c, 0, none⟩)] 83)) (.cells Mv.zero.cs 29)) (.cells (nArr zer11) 74))
  have D1 := hid (h.on B1.out)
  have T1 : Hid (Oth c c w _) := hid (Oth.below B1.out)
  clear hV hk hP0 c1 h
  go_enter Tryd.func38, Tryd.ntmps38
  go_upto_region 2 with fail
  generalize ((w.alloc (.cells #[.pointer (some ⟨c, 0, none⟩)] 83)).alloc (.cells Mv.zero.cs 29)).alloc (.cells (nArr zer11) 74) = w1 at *
  generalize hg0 : w.heap.size = g0 at *
  have hg0 := hid hg0
  clear hs1 hs2 B1
  have P1 : Hid (PAt W w1 c a l.length cap l 0 0 (g0 + 2) zer11) := ⟨D1.out, V1.out, rfl, by omega, by omega⟩
  have c1 : w1.cell? ⟨0, k * 4 + 1, none⟩ = _ := (cells_below D1.out.below hB.out _ _ HV.out.c.pos).trans C1.out
  clear D1 V1
  go_wp2_with fail
  go_loopw [14] (fun i wr => ∃ j : Nat, j ≤ pn ∧ i = .int .i64 j ∧ Hid (PAt W wr c a l.length cap l (rdP l ((cpa k).take j)).1 (rdP l ((cpa k).take j)).2.1 (g0 + 2) (rdP l ((cpa k).take j)).2.2) ∧ Hid (Row wr g0 83 #[.pointer (some ⟨c, 0, none⟩)]) ∧ Hid (Row wr (g0 + 1) 29 Mv.zero.cs) ∧ Hid (Oth c c w wr)) (fun i _ => pn - (intOf i).toNat)
  case atStart => exact ⟨0, Nat.zero_le _, rfl, P1.out, R1.out, Z1.out, T1.out⟩
  case round =>
    obtain ⟨j, hj, rfl, HPt, HR, HZ, HT⟩ := hrel
    clear c1
    by_cases hlt : j < pn
    · have hlt' : (j : Int) < (pn : Int) := by omega
      obtain ⟨b, off, ha, hbB, hcz, fa, fn, fc, hcf, hF0⟩ := (HP.out.same (cells_below HPt.out.d.below hB.out)).cell j hlt
      have hjl : j < (cpa k).length := by rw [hPL.out]; exact hlt
      have HS2 := hid (rdP_succ l (cpa k) j hjl)
      have hLj := hid (hL.out.2 j hjl)
      have hFj := hid (hFOK.out _ (getDm (cpa k) Pa.none j hjl))
      generalize (cpa k).getD j Pa.none = p at *
      generalize rdP l ((cpa k).take j) = s at *
      have HF := hid (hF0.same (w' := W) (fun b o h => ((cells_below HPt.out.d.below hB.out) b o h).symm))
      obtain ⟨at1, e1, v1⟩ := s
      simp only at HPt HS2
      subst ha
      have BA := hid (balloc (Below.refl wr.heap.size wr) (.cells #[.int .i64 p.z, .slice fa fn fc] 108))
      have RP := hid (Row.new wr 108 #[.int .i64 p.z, .slice fa fn fc])
      have P5 := hid (HPt.out.on BA.out)
      have R5 := hid (HR.out.below BA.out)
      have Z5 := hid (HZ.out.below BA.out)
      have T5 := hid (HT.out.trans (Oth.below BA.out))
      have h3l : g0 + 2 < wr.heap.size := HPt.out.r3.lt
      clear hjl hF0
      go_upto_region 5 with fail
      generalize wr.alloc (.cells #[.int .i64 p.z, .slice fa fn fc] 108) = w5 at *
      generalize wr.heap.size = g5 at *
      clear hcz hcf BA HPt HR HZ HT
      have r0 := (R5.out.cell 0).trans rfl
      have q0 := (RP.out.cell 0).trans rfl
      have q1 := (RP.out.cell 1).trans rfl
      go_wp2_with fail
      refine (part_any W _ c a l.length cap l at1 e1 (g0 + 2) v1 p fa fn fc P5.out HF.out hB.out hFj.out.1 hFj.out.2 hLj.out.2 hLj.out.1).mono ?_
      rintro e w6 ⟨rfl, HP6, T6'⟩
      have T6 := hid (T5.out.news (by omega) T6'.out)
      have R6 := hid (T6'.out.row R5.out (by omega) (by omega))
      have Z6 := hid (T6'.out.row Z5.out (by omega) (by omega))
      clear r0 q0 q1 T6' P5 R5 Z5 T5 RP
      go_wp2_with fail
      go_roundw
      case rel => exact ⟨j + 1, by omega, by go_num, by rw [HS2.out]; exact HP6.out, R6.out, Z6.out, T6.out⟩
      case measure => simp [intOf]; omega
    · obtain rfl : j = pn := by omega
      rw [List.take_of_length_le (by rw [hPL.out]; exact Nat.le_refl _)] at HPt
      generalize hss : rdP l (cpa k) = s at *
      have HS := hid hss
      clear hss
      obtain ⟨at1, e1, v1⟩ := s
      simp only at HPt
      have HV11 := hid HPt.out.len11
      go_wp2_with (refine ld74 _ rfl rfl _ _ rfl v1 HV11.out HPt.out.r3.part ?_)
      refine (vmsg_any v1 HV11.out k _).mono ?_
      rintro e w2 ⟨rfl, hb2⟩
      have P2 := hid (HPt.out.on hb2)
      have R2 := hid (HR.out.below hb2)
      have Z2 := hid (HZ.out.below hb2)
      have T2 := hid (HT.out.trans (Oth.below hb2))
      clear hb2 HPt HR HZ HT
      have M3 := hid (layM_new w2 29 (vm v1 k))
      have B3 := hid (layM_below w2 29 (vm v1 k))
      have P3 := hid (P2.out.on B3.out)
      have R3 := hid (R2.out.below B3.out)
      have Z3 := hid (Z2.out.below B3.out)
      have T3 := hid (T2.out.trans (Oth.below B3.out))
      have h3l : g0 + 2 < w2.heap.size := P2.out.r3.lt
      go_upto_region 8 with (refine stM m29 _ _ rfl rfl w2.heap.size (vm v1 k) adr_zeros rfl rfl 29 Mv.zero adr_zeros (Row.new w2 29 _) ?_)
      generalize (w2.alloc (.cells Mv.zero.cs 29)).setRow w2.heap.size (vm v1 k).cs = w3 at *
      generalize w2.heap.size = g7 at *
      clear P2 R2 Z2 T2 B3 hz hz2
      have c2 : w3.cell? ⟨0, k * 4 + 2, none⟩ = _ := (cells_below P3.out.d.below hB.out _ _ HV.out.c.pos).trans C2.out
      have c10 := P3.out.cell 10 (by decide)
      have r0 := (R3.out.cell 0).trans rfl
      have HRB : Hid (rdB k (at1, e1, v1) = (crt k || v1.getD 10 0 == 1)) := rfl
      cases hcr : crt k
      · rw [hcr] at c2 HRB
        generalize v1.getD 10 0 = x10 at c10 HRB
        by_cases h10 : x10 = 1
        · rw [h10] at c10 HRB
          have HRB : Hid (rdB k (at1, e1, v1) = true) := HRB.out.trans rfl
          clear h10 hcr
          go_upto_region 9 with fail
          have HRT : Hid (rdT k l = (adA l at1 e1, adE l at1 e1, adR l at1 e1)) := by rw [Hid, rdT, HS.out, if_pos (by rw [HRB.out])]
          go_wp2_with fail
          refine (address_any W _ c a cap l at1 e1 P3.out.d).mono ?_
          rintro e w4 ⟨rfl, HA4, D4, T4'⟩
          have T4 := hid (T3.out.trans T4'.out)
          have R4 := hid (T4'.out.row R3.out (by omega) (by omega))
          have Z4 := hid (T4'.out.row Z3.out (by omega) (by omega))
          have M4 := hid (T4'.out.row M3.out (by omega) (by omega))
          clear T4' r0 c2 c10 R3 Z3 M3 T3 P3
          generalize adR l at1 e1 = ro2 at *
          generalize adE l at1 e1 = e2 at *
          generalize adA l at1 e1 = at2 at *
          have M5 := hid (Row.setCells (arr ro2).toList 11 _ _ M4.out)
          rw [putA_ro (vm v1 k) ro2 rfl HA4.out.1] at M5
          have G5 := hid (grownBy_setCells g7 (arr ro2).toList 11 w4)
          have D5 := hid (D4.out.other M4.out (by decide) (by omega) (by omega) G5.out)
          have T5 := hid (T4.out.new G5.out (by omega))
          have R5 := hid (R4.out.kept G5.out (fun e => by have := Option.some.inj e; omega))
          have Z5 := hid (Z4.out.kept G5.out (fun e => by have := Option.some.inj e; omega))
          go_upto_region 10 with ((with_reducible refine wpl_id ?_); refine stRo _ _ rfl rfl g7 (vm v1 k) ro2 adr_zeros HA4.out.1 rfl rfl 29 M4.out ?_)
          generalize w4.setCells g7 11 (arr ro2).toList = w5 at *
          clear G5 D4 T4 R4 Z4 M4
          have HMV : Hid (({ vm v1 k with ro := ro2 } : Mv) = { vm v1 k with ro := ro2 }) := rfl
          have r0 := (R5.out.cell 0).trans rfl
          have hs5 : w.heap.size ≤ w5.heap.size := T5.out.1
          go_wp2_with fail
          refine (options_any W _ c a l.length cap l at2 e2 k D5.out HV.out).mono ?_
          rintro e w6 ⟨v6, rfl, HO6, D6, T6'⟩
          obtain ⟨L, own6, own62, hp6, h166⟩ := HO6.out
          obtain ⟨oa, oc, rfl⟩ := owns_len own6
          have O6 := hid (own_mono own6 hs5)
          have X6 := hid (fun o ho => (own62 o ho).mono hs5)
          have HP6 := hid hp6
          have T6 := hid (T5.out.trans T6'.out)
          have R6 := hid (T6'.out.row R5.out (by omega) (by omega))
          have Z6 := hid (T6'.out.row Z5.out (by omega) (by omega))
          have M6 := hid (T6'.out.row M5.out (by omega) (by omega))
          clear own6 own62 hp6 HO6 T6' r0 R5 Z5 M5 T5 D5
          have c27 := (M6.out.cell 27).trans (Mv.at27 HA4.out)
          have f27 := M6.out.frozen 27
          have M7 := hid (M6.out.set 27 (.slice oa L.length oc))
          rw [put27 _ HA4.out.1 oa L.length oc L] at M7
          have D7 := hid (D6.out.other M6.out (by decide) (by omega) (by omega) (grownBy_setCell w6 g7 27 (.slice oa L.length oc)))
          have T7 := hid (T6.out.new (grownBy_setCell w6 g7 27 (.slice oa L.length oc)) (by omega))
          have Z7 := hid (Z6.out.kept (grownBy_setCell w6 g7 27 (.slice oa L.length oc)) (fun e => by have := Option.some.inj e; omega))
          have O7 := hid (O6.out.kept (grownBy_setCell w6 g7 27 (.slice oa L.length oc)) (.inr (own_row O6.out M6.out (by decide))))
          have X7 := hid (fun o ho => (X6.out o ho).row M6.out (by decide) (by decide) (grownBy_setCell w6 g7 27 (.slice oa L.length oc)))
          go_upto_region 11 with fail
          generalize w6.setCell ⟨g7, 27, none⟩ (.slice oa L.length oc) = w7 at *
          clear c27 f27 M6 D6 T6 R6 Z6 O6 X6
          have hmp : ({ vm v1 k with ro := ro2, oa := oa, on := L.length, oc := oc, L := L } : Mv).p = dcM k l := by
            rw [dcM, dcP, HS.out, HRT.out]
            show _ = ({ (vm v1 k).p with ro := ro2, o := opP l at2 e2 } : Pm)
            rw [← HP6.out]
            rfl
          have hme : dcE k l = opE k l at2 e2 := by rw [dcE, HRT.out]
          have HMP := hid hmp
          have HME := hid hme
          have HA7 : Hid (Adr ({ vm v1 k with ro := ro2, oa := oa, on := L.length, oc := oc, L := L } : Mv).ro) := HA4.out
          have HL7 : Hid (({ vm v1 k with ro := ro2, oa := oa, on := L.length, oc := oc, L := L } : Mv).L.length = ({ vm v1 k with ro := ro2, oa := oa, on := L.length, oc := oc, L := L } : Mv).on) := rfl
          have HO7 : Hid (({ vm v1 k with ro := ro2, oa := oa, on := L.length, oc := oc, L := L } : Mv).on ≤ 16) := h166
          have O7 : Hid (w7.ownsRow w.heap.size 54 19 (.slice ({ vm v1 k with ro := ro2, oa := oa, on := L.length, oc := oc, L := L } : Mv).oa ({ vm v1 k with ro := ro2, oa := oa, on := L.length, oc := oc, L := L } : Mv).on ({ vm v1 k with ro := ro2, oa := oa, on := L.length, oc := oc, L := L } : Mv).oc) ({ vm v1 k with ro := ro2, oa := oa, on := L.length, oc := oc, L := L } : Mv).on (ocs ({ vm v1 k with ro := ro2, oa := oa, on := L.length, oc := oc, L := L } : Mv).L)) := O7.out
          have X7 : Hid (∀ o ∈ ({ vm v1 k with ro := ro2, oa := oa, on := L.length, oc := oc, L := L } : Mv).L, Own2 w.heap.size w7 o) := X7.out
          clear hmp hme HRT HP6 h166 HA4
          generalize ({ vm v1 k with ro := ro2, oa := oa, on := L.length, oc := oc, L := L } : Mv) = m at *
          have G8 := hid (grownBy_setRow w7 (g0 + 1) m.cs)
          have D8 := hid (D7.out.other Z7.out (by decide) (by omega) (by omega) G8.out)
          have T8 := hid (T7.out.new G8.out (by omega))
          have O8 := hid (O7.out.kept G8.out (.inr (own_row O7.out Z7.out (by decide))))
          have X8 := hid (fun o ho => (X7.out o ho).row Z7.out (by decide) (by decide) G8.out)
          go_wp2_with (first | ((with_reducible refine wpl_id ?_); refine ldM m29 _ rfl rfl _ _ rfl m HA7.out M7.out.part ?_) | ((with_reducible refine wpl_id ?_); refine stM m29 _ _ rfl rfl (g0 + 1) m HA7.out rfl rfl 29 Mv.zero adr_zeros Z7.out ?_))
          exact bodyPost_ret (resM m29 rfl _ _ (g0 + 1) 29 m HA7.out rfl (Z7.out.setRow _)) rfl ⟨m, _, rfl, hid ⟨HA7.out, O8.out, X8.out, HL7.out, HO7.out⟩, HMP, by rw [HME.out]; exact D8, T8⟩
        · have e10 : (x10 == 1) = false := beq_eq_false_iff_ne.2 h10
          rw [e10] at HRB
          have HRB : Hid (rdB k (at1, e1, v1) = false) := HRB.out.trans rfl
          clear h10 hcr
          have HRT : Hid (rdT k l = (at1, e1, zeros)) := by rw [Hid, rdT, HS.out, if_neg (by rw [HRB.out]; decide)]
          have HA4 : Hid (Adr zeros) := adr_zeros
          have M5 : Hid (Row w3 g7 29 ({ vm v1 k with ro := zeros } : Mv).cs) := M3.out
          have D5 := hid P3.out.d
          have T5 := T3
          have R5 := R3
          have Z5 := Z3
          clear r0 P3
          go_upto_region 10 with fail
          clear M3 T3 R3 Z3 c2 c10
          generalize w3 = w5 at *
          have r0 := (R5.out.cell 0).trans rfl
          have hs5 : w.heap.size ≤ w5.heap.size := T5.out.1
          go_wp2_with fail
          refine (options_any W _ c a l.length cap l at1 e1 k D5.out HV.out).mono ?_
          rintro e w6 ⟨v6, rfl, HO6, D6, T6'⟩
          obtain ⟨L, own6, own62, hp6, h166⟩ := HO6.out
          obtain ⟨oa, oc, rfl⟩ := owns_len own6
          have O6 := hid (own_mono own6 hs5)
          have X6 := hid (fun o ho => (own62 o ho).mono hs5)
          have HP6 := hid hp6
          have T6 := hid (T5.out.trans T6'.out)
          have R6 := hid (T6'.out.row R5.out (by omega) (by omega))
          have Z6 := hid (T6'.out.row Z5.out (by omega) (by omega))
          have M6 := hid (T6'.out.row M5.out (by omega) (by omega))
          clear own6 own62 hp6 HO6 T6' r0 R5 Z5 M5 T5 D5
          have c27 := (M6.out.cell 27).trans (Mv.at27 HA4.out)
          have f27 := M6.out.frozen 27
          have M7 := hid (M6.out.set 27 (.slice oa L.length oc))
          rw [put27 _ HA4.out.1 oa L.length oc L] at M7
          have D7 := hid (D6.out.other M6.out (by decide) (by omega) (by omega) (grownBy_setCell w6 g7 27 (.slice oa L.length oc)))
          have T7 := hid (T6.out.new (grownBy_setCell w6 g7 27 (.slice oa L.length oc)) (by omega))
          have Z7 := hid (Z6.out.kept (grownBy_setCell w6 g7 27 (.slice oa L.length oc)) (fun e => by have := Option.some.inj e; omega))
          have O7 := hid (O6.out.kept (grownBy_setCell w6 g7 27 (.slice oa L.length oc)) (.inr (own_row O6.out M6.out (by decide))))
          have X7 := hid (fun o ho => (X6.out o ho).row M6.out (by decide) (by decide) (grownBy_setCell w6 g7 27 (.slice oa L.length oc)))
          go_upto_region 11 with fail
          generalize w6.setCell ⟨g7, 27, none⟩ (.slice oa L.length oc) = w7 at *
          clear c27 f27 M6 D6 T6 R6 Z6 O6 X6
          have hmp : ({ vm v1 k with ro := zeros, oa := oa, on := L.length, oc := oc, L := L } : Mv).p = dcM k l := by
            rw [dcM, dcP, HS.out, HRT.out]
            show _ = ({ (vm v1 k).p with ro := zeros, o := opP l at1 e1 } : Pm)
            rw [← HP6.out]
            rfl
          have hme : dcE k l = opE k l at1 e1 := by rw [dcE, HRT.out]
          have HMP := hid hmp
          have HME := hid hme
          have HA7 : Hid (Adr ({ vm v1 k with ro := zeros, oa := oa, on := L.length, oc := oc, L := L } : Mv).ro) := HA4.out
          have HL7 : Hid (({ vm v1 k with ro := zeros, oa := oa, on := L.length, oc := oc, L := L } : Mv).L.length = ({ vm v1 k with ro := zeros, oa := oa, on := L.length, oc := oc, L := L } : Mv).on) := rfl
          have HO7 : Hid (({ vm v1 k with ro := zeros, oa := oa, on := L.length, oc := oc, L := L } : Mv).on ≤ 16) := h166
          have O7 : Hid (w7.ownsRow w.heap.size 54 19 (.slice ({ vm v1 k with ro := zeros, oa := oa, on := L.length, oc := oc, L := L } : Mv).oa ({ vm v1 k with ro := zeros, oa := oa, on := L.length, oc := oc, L := L } : Mv).on ({ vm v1 k with ro := zeros, oa := oa, on := L.length, oc := oc, L := L } : Mv).oc) ({ vm v1 k with ro := zeros, oa := oa, on := L.length, oc := oc, L := L } : Mv).on (ocs ({ vm v1 k with ro := zeros, oa := oa, on := L.length, oc := oc, L := L } : Mv).L)) := O7.out
          have X7 : Hid (∀ o ∈ ({ vm v1 k with ro := zeros, oa := oa, on := L.length, oc := oc, L := L } : Mv).L, Own2 w.heap.size w7 o) := X7.out
          clear hmp hme HRT HP6 h166 HA4
          generalize ({ vm v1 k with ro := zeros, oa := oa, on := L.length, oc := oc, L := L } : Mv) = m at *
          have G8 := hid (grownBy_setRow w7 (g0 + 1) m.cs)
          have D8 := hid (D7.out.other Z7.out (by decide) (by omega) (by omega) G8.out)
          have T8 := hid (T7.out.new G8.out (by omega))
          have O8 := hid (O7.out.kept G8.out (.inr (own_row O7.out Z7.out (by decide))))
          have X8 := hid (fun o ho => (X7.out o ho).row Z7.out (by decide) (by decide) G8.out)
          go_wp2_with (first | ((with_reducible refine wpl_id ?_); refine ldM m29 _ rfl rfl _ _ rfl m HA7.out M7.out.part ?_) | ((with_reducible refine wpl_id ?_); refine stM m29 _ _ rfl rfl (g0 + 1) m HA7.out rfl rfl 29 Mv.zero adr_zeros Z7.out ?_))
          exact bodyPost_ret (resM m29 rfl _ _ (g0 + 1) 29 m HA7.out rfl (Z7.out.setRow _)) rfl ⟨m, _, rfl, hid ⟨HA7.out, O8.out, X8.out, HL7.out, HO7.out⟩, HMP, by rw [HME.out]; exact D8, T8⟩
      · rw [hcr] at c2 HRB
        have HRB : Hid (rdB k (at1, e1, v1) = true) := HRB.out.trans (by simp)
        clear hcr
        go_upto_region 9 with fail
        have HRT : Hid (rdT k l = (adA l at1 e1, adE l at1 e1, adR l at1 e1)) := by rw [Hid, rdT, HS.out, if_pos (by rw [HRB.out])]
        go_wp2_with fail
        refine (address_any W _ c a cap l at1 e1 P3.out.d).mono ?_
        rintro e w4 ⟨rfl, HA4, D4, T4'⟩
        have T4 := hid (T3.out.trans T4'.out)
        have R4 := hid (T4'.out.row R3.out (by omega) (by omega))
        have Z4 := hid (T4'.out.row Z3.out (by omega) (by omega))
        have M4 := hid (T4'.out.row M3.out (by omega) (by omega))
        clear T4' r0 c2 c10 R3 Z3 M3 T3 P3
        generalize adR l at1 e1 = ro2 at *
        generalize adE l at1 e1 = e2 at *
        generalize adA l at1 e1 = at2 at *
        have M5 := hid (Row.setCells (arr ro2).toList 11 _ _ M4.out)
        rw [putA_ro (vm v1 k) ro2 rfl HA4.out.1] at M5
        have G5 := hid (grownBy_setCells g7 (arr ro2).toList 11 w4)
        have D5 := hid (D4.out.other M4.out (by decide) (by omega) (by omega) G5.out)
        have T5 := hid (T4.out.new G5.out (by omega))
        have R5 := hid (R4.out.kept G5.out (fun e => by have := Option.some.inj e; omega))
        have Z5 := hid (Z4.out.kept G5.out (fun e => by have := Option.some.inj e; omega))
        go_upto_region 10 with ((with_reducible refine wpl_id ?_); refine stRo _ _ rfl rfl g7 (vm v1 k) ro2 adr_zeros HA4.out.1 rfl rfl 29 M4.out ?_)
        generalize w4.setCells g7 11 (arr ro2).toList = w5 at *
        clear G5 D4 T4 R4 Z4 M4
        have HMV : Hid (({ vm v1 k with ro := ro2 } : Mv) = { vm v1 k with ro := ro2 }) := rfl
        have r0 := (R5.out.cell 0).trans rfl
        have hs5 : w.heap.size ≤ w5.heap.size := T5.out.1
        go_wp2_with fail
        refine (options_any W _ c a l.length cap l at2 e2 k D5.out HV.out).mono ?_
        rintro e w6 ⟨v6, rfl, HO6, D6, T6'⟩
        obtain ⟨L, own6, own62, hp6, h166⟩ := HO6.out
        obtain ⟨oa, oc, rfl⟩ := owns_len own6
        have O6 := hid (own_mono own6 hs5)
        have X6 := hid (fun o ho => (own62 o ho).mono hs5)
        have HP6 := hid hp6
        have T6 := hid (T5.out.trans T6'.out)
        have R6 := hid (T6'.out.row R5.out (by omega) (by omega))
        have Z6 := hid (T6'.out.row Z5.out (by omega) (by omega))
        have M6 := hid (T6'.out.row M5.out (by omega) (by omega))
        clear own6 own62 hp6 HO6 T6' r0 R5 Z5 M5 T5 D5
        have c27 := (M6.out.cell 27).trans (Mv.at27 HA4.out)
        have f27 := M6.out.frozen 27
        have M7 := hid (M6.out.set 27 (.slice oa L.length oc))
        rw [put27 _ HA4.out.1 oa L.length oc L] at M7
        have D7 := hid (D6.out.other M6.out (by decide) (by omega) (by omega) (grownBy_setCell w6 g7 27 (.slice oa L.length oc)))
        have T7 := hid (T6.out.new (grownBy_setCell w6 g7 27 (.slice oa L.length oc)) (by omega))
        have Z7 := hid (Z6.out.kept (grownBy_setCell w6 g7 27 (.slice oa L.length oc)) (fun e => by have := Option.some.inj e; omega))
        have O7 := hid (O6.out.kept (grownBy_setCell w6 g7 27 (.slice oa L.length oc)) (.inr (own_row O6.out M6.out (by decide))))
        have X7 := hid (fun o ho => (X6.out o ho).row M6.out (by decide) (by decide) (grownBy_setCell w6 g7 27 (.slice oa L.length oc)))
        go_upto_region 11 with fail
        generalize w6.setCell ⟨g7, 27, none⟩ (.slice oa L.length oc) = w7 at *
        clear c27 f27 M6 D6 T6 R6 Z6 O6 X6
        have hmp : ({ vm v1 k with ro := ro2, oa := oa, on := L.length, oc := oc, L := L } : Mv).p = dcM k l := by
          rw [dcM, dcP, HS.out, HRT.out]
          show _ = ({ (vm v1 k).p with ro := ro2, o := opP l at2 e2 } : Pm)
          rw [← HP6.out]
          rfl
        have hme : dcE k l = opE k l at2 e2 := by rw [dcE, HRT.out]
        have HMP := hid hmp
        have HME := hid hme
        have HA7 : Hid (Adr ({ vm v1 k with ro := ro2, oa := oa, on := L.length, oc := oc, L := L } : Mv).ro) := HA4.out
        have HL7 : Hid (({ vm v1 k with ro := ro2, oa := oa, on := L.length, oc := oc, L := L } : Mv).L.length = ({ vm v1 k with ro := ro2, oa := oa, on := L.length, oc := oc, L := L } : Mv).on) := rfl
        have HO7 : Hid (({ vm v1 k with ro := ro2, oa := oa, on := L.length, oc := oc, L := L } : Mv).on ≤ 16) := h166
        have O7 : Hid (w7.ownsRow w.heap.size 54 19 (.slice ({ vm v1 k with ro := ro2, oa := oa, on := L.length, oc := oc, L := L } : Mv).oa ({ vm v1 k with ro := ro2, oa := oa, on := L.length, oc := oc, L := L } : Mv).on ({ vm v1 k with ro := ro2, oa := oa, on := L.length, oc := oc, L := L } : Mv).oc) ({ vm v1 k with ro := ro2, oa := oa, on := L.length, oc := oc, L := L } : Mv).on (ocs ({ vm v1 k with ro := ro2, oa := oa, on := L.length, oc := oc, L := L } : Mv).L)) := O7.out
        have X7 : Hid (∀ o ∈ ({ vm v1 k with ro := ro2, oa := oa, on := L.length, oc := oc, L := L } : Mv).L, Own2 w.heap.size w7 o) := X7.out
        clear hmp hme HRT HP6 h166 HA4
        generalize ({ vm v1 k with ro := ro2, oa := oa, on := L.length, oc := oc, L := L } : Mv) = m at *
        have G8 := hid (grownBy_setRow w7 (g0 + 1) m.cs)
        have D8 := hid (D7.out.other Z7.out (by decide) (by omega) (by omega) G8.out)
        have T8 := hid (T7.out.new G8.out (by omega))
        have O8 := hid (O7.out.kept G8.out (.inr (own_row O7.out Z7.out (by decide))))
        have X8 := hid (fun o ho => (X7.out o ho).row Z7.out (by decide) (by decide) G8.out)
        go_wp2_with (first | ((with_reducible refine wpl_id ?_); refine ldM m29 _ rfl rfl _ _ rfl m HA7.out M7.out.part ?_) | ((with_reducible refine wpl_id ?_); refine stM m29 _ _ rfl rfl (g0 + 1) m HA7.out rfl rfl 29 Mv.zero adr_zeros Z7.out ?_))
        exact bodyPost_ret (resM m29 rfl _ _ (g0 + 1) 29 m HA7.out rfl (Z7.out.setRow _)) rfl ⟨m, _, rfl, hid ⟨HA7.out, O8.out, X8.out, HL7.out, HO7.out⟩, HMP, by rw [HME.out]; exact D8, T8⟩
end Go.Proofs.YtbfjkhafdkhhmaaDoor

namespace Go.Proofs.YtbfjkhafdkhhmaaDoor
open Go.ChangeShapes Go.WideShapes Go.ChangeAt Go.RowKit Go.Deep
set_option linter.unusedVariables false
set_option linter.unusedSimpArgs false

/-- What Decode tells, and its message. -/
def dE (code : Int) (l : List Int) : Int := if codB code = true then dcE code.toNat l else 6
def dM (code : Int) (l : List Int) : Pm := if codB code = true then (if dcE code.toNat l = 0 then dcM code.toNat l else Pm.zero) else Pm.zero
theorem zero_own (base : Nat) (w : World) : MOwn base w Mv.zero := ⟨adr_zeros, World.ownsRow_nil _ _ _ _, fun o ho => (by cases ho), rfl, by decide⟩
set_option maxRecDepth 100000 in
set_option maxHeartbeats 3200000 in
theorem cDecode_any {B : Nat} (code : Int) (a : Option Addr) (len cap : Nat) (l : List Int) (w : World) (h : Lies .u8 w a len cap l) (ho : Oct l) (hl : len ≤ 100000) (hV : CV B w) :
    Calls Tryd.prog 16 #[.int .i64 code, .slice a len cap] w fun x w' => ∃ m, x = .returned (.tuple #[.agg m.cs, .int .i64 (dE code l)]) ∧ Hid (MOwn w.heap.size w' m) ∧ Hid (m.p = dM code l) ∧ Hid (Below w.heap.size w w') := by
  have hz := zmv
  obtain rfl := h.1
  have HO := hid ho
  have HV := hid hV
  have Z1 := hid (Row.new w 29 Mv.zero.cs)
  have B1 := hid (balloc (Below.refl w.heap.size w) (.cells Mv.zero.cs 29))
  have H1 := hid (h.below B1.out)
  have HEE : Hid (dE code l = if codB code = true then dcE code.toNat l else 6) := rfl
  have HMM : Hid (dM code l = if codB code = true then (if dcE code.toNat l = 0 then dcM code.toNat l else Pm.zero) else Pm.zero) := rfl
  cases hcb : codB code
  · have HC := hid hcb
    rw [hcb] at HEE HMM
    have HE : Hid (dE code l = 6) := HEE.out.trans rfl
    have HM : Hid (dM code l = Pm.zero) := HMM.out.trans rfl
    clear hcb HEE HMM h ho hV
    go_enter Tryd.func16, Tryd.ntmps16
    go_upto_region 1 with fail
    generalize w.alloc (.cells Mv.zero.cs 29) = w1 at *
    generalize hg0 : w.heap.size = g0 at *
    have HG0 := hid hg0
    clear hz hg0
    go_wp2_with fail
    refine (isCode_any code _).mono ?_
    rw [HC.out]
    rintro e w2 ⟨rfl, rfl⟩
    go_wp2_with (first | ((with_reducible refine wpl_id ?_); refine bdMz m29 rfl rfl ?_) | ((with_reducible refine wpl_id ?_); refine stM m29 _ _ rfl rfl g0 Mv.zero adr_zeros rfl rfl 29 Mv.zero adr_zeros Z1.out ?_))
    exact bodyPost_ret (resMe m29 rfl _ _ g0 29 Mv.zero adr_zeros (.int .i64 6) rfl rfl (Z1.out.setRow _)) rfl ⟨Mv.zero, by rw [HE.out], zero_own _ _, by rw [HM.out]; rfl, by rw [HG0.out]; exact below_setRow' B1.out (Nat.le_refl _) _⟩
  · have HC := hid hcb
    obtain ⟨k, e, hk4⟩ := cod_nat hcb
    rw [hcb, show code.toNat = k by omega] at HEE HMM
    have HE : Hid (dE code l = dcE k l) := HEE.out.trans rfl
    have HM : Hid (dM code l = if dcE k l = 0 then dcM k l else Pm.zero) := HMM.out.trans rfl
    have HK := hid e
    clear hcb HEE HMM h ho hV e
    go_enter Tryd.func16, Tryd.ntmps16
    go_upto_region 1 with fail
    generalize w.alloc (.cells Mv.zero.cs 29) = w1 at *
    generalize hg0 : w.heap.size = g0 at *
    have HG0 := hid hg0
    clear hg0
    go_wp2_with fail
    refine (isCode_any code _).mono ?_
    rw [HC.out]
    rintro e w2 ⟨rfl, rfl⟩
    go_wp2_with fail
    refine (over_own a l.length cap l w2 H1.out HO.out hl).mono ?_
    rintro e w3 ⟨c, a2, cap2, rfl, hc3, hb3, hc1, hc2, how3⟩
    have h12 : g0 < w2.heap.size := Z1.out.lt
    have D3 : Hid (DAt w w3 c a2 l.length cap2 l 0 0) := ⟨hc3, own_mono how3 (by rw [HG0.out]; omega), bthen (by rw [HG0.out]; exact B1.out) hb3, by rw [HG0.out]; omega⟩
    have Z3 := hid (Z1.out.below hb3)
    have h13 : w2.heap.size ≤ w3.heap.size := hb3.size
    clear hc3 hb3 how3 Z1 B1 H1
    have R4 := hid (Row.new w3 83 #[.pointer (some ⟨c, 0, none⟩)])
    have B4 := hid (balloc (Below.refl w3.heap.size w3) (.cells #[.pointer (some ⟨c, 0, none⟩)] 83))
    have D4 := hid (D3.out.on B4.out)
    have Z4 := hid (Z3.out.below B4.out)
    go_upto_region 4 with fail
    generalize w3.alloc (.cells #[.pointer (some ⟨c, 0, none⟩)] 83) = w4 at *
    generalize w3.heap.size = g4 at *
    clear B4 D3 Z3
    have r0 := (R4.out.cell 0).trans rfl
    have kk := HK.out
    have h14 : g4 < w4.heap.size := R4.out.lt
    go_wp2_with fail
    rw [HK.out]
    refine (rmsg_any w w4 c a2 cap2 l k hk4 D4.out HV.out).mono ?_
    rintro e w5 ⟨m, at3, rfl, HO5, HMP, D5, T5⟩
    have R5 := hid (T5.out.row R4.out (by omega) (by omega))
    have Z5 := hid (T5.out.row Z4.out (by omega) (by omega))
    have HO5 : Hid (MOwn g0 w5 m) := ⟨HO5.out.ro, own_mono HO5.out.own (by omega), fun o ho => (HO5.out.own2 o ho).mono (by omega), HO5.out.len, HO5.out.le⟩
    have HA := hid HO5.out.ro
    clear T5 R4 Z4 D4 r0 kk
    have M6 := hid (layM_new w5 29 m)
    have B6 := hid (layM_below w5 29 m)
    have R6 := hid (R5.out.below B6.out)
    have Z6 := hid (Z5.out.below B6.out)
    have D6 := hid (D5.out.on B6.out)
    have O6 := hid (own_below HO5.out.own B6.out)
    have X6 := hid (fun o ho => (HO5.out.own2 o ho).below B6.out)
    have h15 : g4 < w5.heap.size := R5.out.lt
    go_upto_region 5 with ((with_reducible refine wpl_id ?_); refine stM m29 _ _ rfl rfl w5.heap.size m HA.out rfl rfl 29 Mv.zero adr_zeros (Row.new w5 29 _) ?_)
    generalize (w5.alloc (.cells Mv.zero.cs 29)).setRow w5.heap.size m.cs = w6 at *
    generalize w5.heap.size = g5 at *
    clear B6 R5 Z5 D5 hz
    have r0 := (R6.out.cell 0).trans rfl
    go_wp2_with fail
    refine (err_any _ _ (dcE k l) D6.out.cur.cell2).mono ?_
    rintro e w7 ⟨rfl, rfl⟩
    by_cases he : dcE k l = 0
    · rw [he] at HE ⊢
      have HM : Hid (dM code l = dcM k l) := by rw [Hid, HM.out, if_pos he]
      clear he r0
      have G8 := hid (grownBy_setRow w7 g0 m.cs)
      have O8 := hid (O6.out.kept G8.out (.inr (own_row O6.out Z6.out (by decide))))
      have X8 := hid (fun o ho => (X6.out o ho).row Z6.out (by decide) (by decide) G8.out)
      have B8 := hid (bgrown D6.out.below G8.out (by rw [HG0.out]; exact Nat.le_refl _))
      go_wp2_with (first | ((with_reducible refine wpl_id ?_); refine ldM m29 _ rfl rfl _ _ rfl m HA.out M6.out.part ?_) | ((with_reducible refine wpl_id ?_); refine stM m29 _ _ rfl rfl g0 m HA.out rfl rfl 29 Mv.zero adr_zeros Z6.out ?_))
      exact bodyPost_ret (resMe m29 rfl _ _ g0 29 m HA.out (.int .i64 0) rfl rfl (Z6.out.setRow _)) rfl ⟨m, by rw [HE.out], by rw [HG0.out]; exact hid ⟨HA.out, O8.out, X8.out, HO5.out.len, HO5.out.le⟩, by rw [HM.out]; exact HMP, B8⟩
    · have HM2 : Hid (dM code l = Pm.zero) := by rw [Hid, HM.out, if_neg he]
      clear HM
      have he' : (dcE k l != 0) = true := by rw [bne_iff_ne]; exact he
      generalize dcE k l = er at *
      clear he r0
      have G8 := hid (grownBy_setRow w7 g0 Mv.zero.cs)
      have B8 := hid (bgrown D6.out.below G8.out (by rw [HG0.out]; exact Nat.le_refl _))
      go_wp2_with (first | ((with_reducible refine wpl_id ?_); refine bdMz m29 rfl rfl ?_) | ((with_reducible refine wpl_id ?_); refine stM m29 _ _ rfl rfl g0 Mv.zero adr_zeros rfl rfl 29 Mv.zero adr_zeros Z6.out ?_))
      exact bodyPost_ret (resMe m29 rfl _ _ g0 29 Mv.zero adr_zeros (.int .i64 er) rfl rfl (Z6.out.setRow _)) rfl ⟨Mv.zero, by rw [HE.out], zero_own _ _, by rw [HM2.out]; rfl, B8⟩
end Go.Proofs.YtbfjkhafdkhhmaaDoor

namespace Go.Proofs.YtbfjkhafdkhhmaaDoor
open Go.ChangeShapes Go.WideShapes Go.ChangeAt Go.RowKit Go.Deep
set_option linter.unusedVariables false
set_option linter.unusedSimpArgs false

theorem numOf_digs (size n : Int) (hz : sizeB size = true) (h : okB size n = true) : numOf (digs size n) = n := by
  rcases sizeB_cases hz with e | e | e <;> subst e <;> simp [okB, top] at h <;> simp [digs, numOf] <;> omega
theorem digs_numOf (size : Int) (l : List Int) (hz : sizeB size = true) (hl : l.length = size.toNat) (ho : Oct l) : digs size (numOf l) = l := by
  rcases sizeB_cases hz with e | e | e <;> subst e
  · match l, hl with
    | [a], _ => have h1 := ho a (by simp); simp [digs, numOf]; omega
  · match l, hl with
    | [a, b], _ => have h1 := ho a (by simp); have h2 := ho b (by simp); simp [digs, numOf]; omega
  · match l, hl with
    | [a, b, c, d], _ => have h1 := ho a (by simp); have h2 := ho b (by simp); have h3 := ho c (by simp); have h4 := ho d (by simp); simp [digs, numOf]; omega
theorem widB_cons (q : Int × Int) (P : List (Int × Int)) (x : Int) (n : List Int) : widB (q :: P) (x :: n) = (inB q x && widB P n) := by
  unfold widB
  rw [List.length_cons, List.range_succ_eq_map]
  simp [List.all_map, Function.comp_def]
/-- Reading what was written. -/
theorem fold_parts (P : List (Int × Int)) : (∀ p ∈ P, (p.1 == 16) = true ∨ (sizeB p.1 = true ∧ p.2 < top p.1)) → ∀ (pre n ad N A post : List Int), n.length = (nmb P).length → widB (nmb P) n = true → ad.length = 16 →
    P.foldl (stp (pre ++ (partsB P n ad ++ post))) (pre.length, N, A) = (pre.length + (partsB P n ad).length, N ++ n, if P.any (fun p => p.1 == 16) = true then ad else A) := by
  induction P with
  | nil =>
    intro _ pre n ad N A post hn _ _
    have : n = [] := List.eq_nil_of_length_eq_zero hn
    subst this
    simp [partsB]
  | cons q P ih =>
    intro hP pre n ad N A post hn hw ha
    have hP' : ∀ p ∈ P, (p.1 == 16) = true ∨ (sizeB p.1 = true ∧ p.2 < top p.1) := fun p hp => hP p (by simp [hp])
    by_cases h16 : (q.1 == 16) = true
    · have hnm : nmb (q :: P) = nmb P := by simp [nmb, h16]
      rw [hnm] at hn hw
      have hp : partsB (q :: P) n ad = ad ++ partsB P n ad := by rw [partsB, if_pos h16]
      have hs : stp (pre ++ (ad ++ partsB P n ad ++ post)) (pre.length, N, A) q = ((pre ++ ad).length, N, ad) := by
        rw [stp, if_pos h16]
        simp [ha]
      have he : pre ++ (ad ++ partsB P n ad ++ post) = (pre ++ ad) ++ (partsB P n ad ++ post) := by simp
      rw [hp, List.foldl_cons, hs, he, ih hP' (pre ++ ad) n ad N ad post hn hw ha]
      simp [h16, Nat.add_assoc]
    · have hnm : nmb (q :: P) = q :: nmb P := by simp [nmb, h16]
      rw [hnm] at hn hw
      match n, hn with
      | x :: n, hn =>
        rw [widB_cons, Bool.and_eq_true] at hw
        obtain ⟨hi, hw⟩ := hw
        obtain ⟨hz, ht⟩ : sizeB q.1 = true ∧ q.2 < top q.1 := (hP q (by simp)).resolve_left h16
        have hok : okB q.1 x = true := by simp [inB] at hi; simp [okB]; omega
        have hp : partsB (q :: P) (x :: n) ad = digs q.1 x ++ partsB P n ad := by rw [partsB, if_neg h16]; rfl
        have hdl := digs_length q.1 x hz
        have hs : stp (pre ++ (digs q.1 x ++ partsB P n ad ++ post)) (pre.length, N, A) q = ((pre ++ digs q.1 x).length, N ++ [x], A) := by
          rw [stp, if_neg h16]
          simp [hdl, List.take_left' hdl, numOf_digs q.1 x hz hok]
        have he : pre ++ (digs q.1 x ++ partsB P n ad ++ post) = (pre ++ digs q.1 x) ++ (partsB P n ad ++ post) := by simp
        rw [hp, List.foldl_cons, hs, he, ih hP' (pre ++ digs q.1 x) n ad (N ++ [x]) A post (by simpa using hn) hw ha]
        have h16' : (q.1 == 16) = false := by simpa using h16
        simp only [List.any_cons, h16', Bool.false_or, List.length_append, List.append_assoc, Nat.add_assoc, List.cons_append, List.nil_append]
theorem keepA (l : List Int) (P : List (Int × Int)) (h : ∀ p ∈ P, (p.1 == 16) = false) : ∀ s : Nat × List Int × List Int, (P.foldl (stp l) s).2.2 = s.2.2 := by
  induction P with
  | nil => intro s; rfl
  | cons q P ih =>
    intro s
    rw [List.foldl_cons, ih (fun p hp => h p (by simp [hp])), stp, if_neg (by rw [h q (by simp)]; simp)]
theorem sumP_cons (q : Int × Int) (P : List (Int × Int)) : sumP (q :: P) = q.1 + sumP P := by simp [sumP]
/-- Writing what was read. -/
theorem fold_back (l : List Int) (ho : Oct l) (P : List (Int × Int)) : (∀ p ∈ P, (p.1 == 16) = true ∨ sizeB p.1 = true) → (P.filter (fun p => p.1 == 16)).length ≤ 1 → ∀ (s : Nat) (N A : List Int), (s : Int) + sumP P ≤ l.length →
    0 ≤ sumP P ∧ ∃ n', (P.foldl (stp l) (s, N, A)).2.1 = N ++ n' ∧ n'.length = (nmb P).length ∧ partsB P n' (P.foldl (stp l) (s, N, A)).2.2 = (l.drop s).take (sumP P).toNat := by
  induction P with
  | nil => intro _ _ s N A _; exact ⟨by simp [sumP], [], by simp, by simp [nmb], by simp [partsB, sumP]⟩
  | cons q P ih =>
    intro hP h1 s N A hs
    have hP' : ∀ p ∈ P, (p.1 == 16) = true ∨ sizeB p.1 = true := fun p hp => hP p (by simp [hp])
    rw [sumP_cons] at hs
    by_cases h16 : (q.1 == 16) = true
    · have hq : q.1 = 16 := by simpa using h16
      rw [List.filter_cons, if_pos h16, List.length_cons] at h1
      have hno : ∀ p ∈ P, (p.1 == 16) = false := by
        intro p hp
        cases hx : (p.1 == 16)
        · rfl
        · have := List.length_pos_of_mem (List.mem_filter (p := fun p : Int × Int => p.1 == 16).2 ⟨hp, hx⟩); omega
      have hst : stp l (s, N, A) q = (s + 16, N, (l.drop s).take 16) := by rw [stp, if_pos h16]
      obtain ⟨h0, n', e1, e2, e3⟩ := ih hP' (by omega) (s + 16) N ((l.drop s).take 16) (by omega)
      refine ⟨by rw [sumP_cons]; omega, n', by rw [List.foldl_cons, hst, e1], by rw [e2]; simp [nmb, h16], ?_⟩
      rw [List.foldl_cons, hst, partsB, if_pos h16, e3, keepA l P hno, sumP_cons]
      have e4 : (q.1 + sumP P).toNat = 16 + (sumP P).toNat := by omega
      rw [e4, List.take_add, List.drop_drop]
    · have hz : sizeB q.1 = true := (hP q (by simp)).resolve_left h16
      have hq : 0 ≤ q.1 := by rcases sizeB_cases hz with e | e | e <;> omega
      rw [List.filter_cons, if_neg h16] at h1
      have hst : stp l (s, N, A) q = (s + q.1.toNat, N ++ [numOf ((l.drop s).take q.1.toNat)], A) := by rw [stp, if_neg h16]
      have h0' : 0 ≤ sumP P := by
        have : ∀ P : List (Int × Int), (∀ p ∈ P, (p.1 == 16) = true ∨ sizeB p.1 = true) → 0 ≤ sumP P := by
          intro P
          induction P with
          | nil => intro _; simp [sumP]
          | cons r R ihR =>
            intro h
            rw [sumP_cons]
            have := ihR (fun p hp => h p (by simp [hp]))
            rcases h r (by simp) with e | e
            · have : r.1 = 16 := by simpa using e
              omega
            · rcases sizeB_cases e with e | e | e <;> omega
        exact this P hP'
      obtain ⟨h0, n', e1, e2, e3⟩ := ih hP' h1 (s + q.1.toNat) (N ++ [numOf ((l.drop s).take q.1.toNat)]) A (by omega)
      refine ⟨by rw [sumP_cons]; omega, numOf ((l.drop s).take q.1.toNat) :: n', by rw [List.foldl_cons, hst, e1]; simp, by simp [nmb, h16]; exact e2, ?_⟩
      have hd : digs q.1 (numOf ((l.drop s).take q.1.toNat)) = (l.drop s).take q.1.toNat := digs_numOf q.1 _ hz (by rw [List.length_take, List.length_drop]; omega) (ho.cut _ _)
      rw [List.foldl_cons, hst, partsB, if_neg h16, List.headD_cons, List.tail_cons, e3, hd, sumP_cons]
      have e4 : (q.1 + sumP P).toNat = q.1.toNat + (sumP P).toNat := by omega
      rw [e4, List.take_add, List.drop_drop]
/-- What the first bytes say. -/
theorem nx_pad (t : List Int) : nxK (0 :: t) = 0 ∧ nxP (0 :: t) = ⟨0, [], zeros, []⟩ ∧ nxN (0 :: t) = 1 := by
  have h : nxK (0 :: t) = 0 := by simp [nxK, numOf]
  exact ⟨h, by rw [nxP, if_pos h], by rw [nxN, if_pos h]⟩
theorem chk_pad : chkP ⟨0, [], zeros, []⟩ = 0 := by decide
theorem nxE_pad (n : Nat) (t : List Int) (hn : n ≠ 16) : nxE n (0 :: t) = 0 := by
  obtain ⟨h1, h2, _⟩ := nx_pad t
  rw [nxE, if_neg hn, h1, if_neg (by decide), if_pos rfl, h2, chk_pad]
theorem nxK_cons (x : Int) (t : List Int) : nxK (x :: t) = x := by simp [nxK, numOf]
theorem rd1 (n : Nat) : rdE 1 1 (n + 1) 0 = 0 ∧ rdN 1 1 (n + 1) 0 = 1 := by
  have h : rdE 1 1 (n + 1) 0 = 0 := by
    unfold rdE
    have hz : sizeB 1 = true := by decide
    rw [if_pos rfl, if_neg (by rw [hz]; simp), if_neg (by omega)]
  exact ⟨h, by rw [rdN, if_pos h]; rfl⟩
theorem nx_two (x y : Int) (t : List Int) : nxL (x :: y :: t) = y ∧ nxE1 (x :: y :: t) = 0 ∧ rdN 1 1 ((x :: y :: t).length - 1) 0 = 1 := by
  have e : (x :: y :: t).length - 1 = t.length + 1 := by simp
  obtain ⟨h1, h2⟩ := rd1 t.length
  refine ⟨?_, by rw [nxE1, e, h1], by rw [e, h2]⟩
  rw [nxL, takeV, e, h2]; simp [numOf]
theorem nx_long (x y : Int) (t : List Int) (hy : 0 ≤ y) (h : y ≤ t.length) : nxE2 (x :: y :: t) = 0 ∧ nxN2 (x :: y :: t) = y.toNat ∧ nxC (x :: y :: t) = t.take y.toNat ∧ nxN' (x :: y :: t) = 2 + y.toNat := by
  obtain ⟨h1, h2, h3⟩ := nx_two x y t
  have e : (x :: y :: t).length - (1 + 1) = t.length := by simp
  have hz : sizeB 1 = true := by decide
  have hE : rdE 1 y t.length 0 = 0 := by rw [rdE, if_pos rfl, if_neg (by rw [hz]; simp; omega), if_neg (by omega)]
  have hN : rdN 1 y t.length 0 = y.toNat := by rw [rdN, if_pos hE]; simp
  refine ⟨by rw [nxE2, h3, h1, h2, e, hE], by rw [nxN2, h3, h1, h2, e, hN], ?_, ?_⟩
  · rw [nxC, nxN2, h3, h1, h2, e, hN]; rfl
  · rw [nxN', nxN2, h3, h1, h2, e, hN]
theorem nx_cut (x y : Int) (t : List Int) (hy : 0 ≤ y) (h : (t.length : Int) < y) : nxE2 (x :: y :: t) = 4 := by
  obtain ⟨h1, h2, h3⟩ := nx_two x y t
  have e : (x :: y :: t).length - (1 + 1) = t.length := by simp
  have hz : sizeB 1 = true := by decide
  rw [nxE2, h3, h1, h2, e, rdE, if_pos rfl, if_neg (by rw [hz]; simp; omega), if_pos (by omega)]
theorem nx_none (x : Int) : nxE2 [x] = 4 := by
  have : nxE1 [x] = 4 := (by decide : rdE 1 1 0 0 = 4)
  rw [nxE2, this, rdE, if_neg (by decide)]
theorem spE_0 (e : Int) : spE 0 e = e := by simp [spE]
theorem spE_4 (e : Int) : spE 4 e = 4 := by simp [spE]
theorem nxE_long (n : Nat) (k : Nat) (y : Int) (t : List Int) (hn : n ≠ 16) (hk : k < 10) (hk0 : k ≠ 0) (hy : 0 ≤ y) (h : y ≤ t.length) :
    nxE n ((k : Int) :: y :: t) = spE (filE k (t.take y.toNat) 0) (chkP (filP k (t.take y.toNat) 0)) ∧ nxP ((k : Int) :: y :: t) = filP k (t.take y.toNat) 0 ∧ nxN ((k : Int) :: y :: t) = 2 + y.toNat := by
  obtain ⟨h1, h2, h3, h4⟩ := nx_long k y t hy h
  have hb : kndB (k : Int) = true := by simp [kndB]; omega
  have hne : ¬ ((k : Int) = 0) := by omega
  have hP : nxP ((k : Int) :: y :: t) = filP k (t.take y.toNat) 0 := by rw [nxP, nxK_cons, if_neg hne, h3, h1, Int.toNat_natCast]
  refine ⟨?_, hP, by rw [nxN, nxK_cons, if_neg hne, ← nxN', h4]⟩
  rw [nxE, if_neg hn, nxK_cons, hb, if_neg (by decide), if_neg hne, hP, h3, h1, Int.toNat_natCast, spE_0]
theorem nxE_cut (n : Nat) (k : Nat) (m : List Int) (hn : n ≠ 16) (hk : k < 10) (hk0 : k ≠ 0) (hm : nxK m = k) (h : nxE2 m = 4) : nxE n m = 4 := by
  have hb : kndB (k : Int) = true := by simp [kndB]; omega
  have hne : ¬ ((k : Int) = 0) := by omega
  rw [nxE, if_neg hn, hm, hb, if_neg (by decide), if_neg hne, h, spE_4, spE_4]
theorem nxE_kind (n : Nat) (m : List Int) (hn : n ≠ 16) (h : kndB (nxK m) = false) : nxE n m = 6 := by rw [nxE, if_neg hn, if_pos h]
theorem nxE_full (m : List Int) : nxE 16 m = 2 := by rw [nxE, if_pos rfl]
end Go.Proofs.YtbfjkhafdkhhmaaDoor
