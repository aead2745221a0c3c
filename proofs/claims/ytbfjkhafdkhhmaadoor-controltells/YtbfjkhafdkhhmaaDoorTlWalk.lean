/- ControlTells' walk. -/
import Derived.Test.YtbfjkhafdkhhmaaDoorM16
import Derived.Test.YtbfjkhafdkhhmaaDoorOpSam3
import Derived.Test.YtbfjkhafdkhhmaaDoorM13
namespace Go.Proofs.YtbfjkhafdkhhmaaDoor
open Go.ChangeShapes Go.WideShapes Go.ChangeAt Go.RowKit Go.Deep
set_option linter.unusedVariables false
set_option linter.unusedSimpArgs false

theorem tgts_get (P : List Po) (j : Nat) (h : j < P.length) (hh : hitB [5] (P.getD j Po.none).k = true) : (tgts (P.take j)).length < (tgts P).length ∧ (tgts P).getD (tgts (P.take j)).length Po.none = P.getD j Po.none := by
  have e : tgts P = tgts (P.take j) ++ ([P.getD j Po.none] ++ tgts (P.drop (j + 1))) := by
    rw [← List.append_assoc, ← tgts_yes P j h hh, tgts, tgts, tgts, ← List.filter_append, List.take_append_drop]
  rw [e]
  simp
theorem tgts_take_le (P : List Po) (j : Nat) : (tgts (P.take j)).length ≤ j := by
  have := List.length_filter_le (fun p : Po => hitB [5] p.k) (P.take j)
  simp at this ⊢
  unfold tgts
  omega
theorem step_ldO {ops : Array Oper} {o : Oper} {a : Act} {w : World} {K : Act → World → Prop} {Q : Exit → Act → World → Prop} {E : Prop} {t : TypeId} (ht : OTo t) (x : Operand) (ho : o.op = .load t x) (hw : Region.wanted o (yielded ops a.tmps) = true) (g off : Nat) (hx : a.eval x = .pointer (some ⟨g, off, none⟩)) (h : Ov) (hl : Adr h.ad) (hg : Part w g off h.cs)
    (hn : K (a.put o.dst (.agg h.cs)) w) : if Region.wanted o (yielded ops a.tmps) = true then Oper.wp Tryd.prog o a w K Q else E := by
  obtain ⟨fs, h1⟩ := ht.desc
  rw [if_pos hw]
  unfold Oper.wp execOp
  simp only [ho, hx, Instr.loadAt, Instr.sureAddr, Sem.run_bind, Sem.run_pure, Result.andThen_ok, run_loadVar_part w g off t h.cs _ hg h1 rfl (by rw [Ov.size hl]; exact ht.info)]
  exact hn
theorem cwd_at (k : Nat) (hk : k < 4) : (#[Value.string ⟨#[100, 105, 115]⟩, .string ⟨#[100, 105, 111]⟩, .string ⟨#[100, 97, 111]⟩, .string ⟨#[97, 99, 107]⟩] : Array Value)[k]? = some (.string (cwd k)) :=
  match k, hk with
  | 0, _ => rfl
  | 1, _ => rfl
  | 2, _ => rfl
  | 3, _ => rfl
set_option maxRecDepth 1000000 in
set_option maxHeartbeats 6400000 in
theorem tells_in (m : Mv) (code kind : Int) (w : World) (hm : m.ok w ∧ Wfo m.L) (hV : CV w.heap.size w) (h0 : 0 ≤ code) (h1 : code < 4) :
    Calls Tryd.prog 5 #[.agg m.cs, .int .i64 code, .int .i64 kind] w fun e w' => e = .returned (.bool true) ∧ Below w.heap.size w w' := by
  have HM := hid hm.1
  have HWf := hid hm.2
  have RM := hid ((Row.new w 25 m.cs).alloc (.cells #[Value.string ⟨#[100, 105, 115]⟩, .string ⟨#[100, 105, 111]⟩, .string ⟨#[100, 97, 111]⟩, .string ⟨#[97, 99, 107]⟩] 49))
  have RW : Hid (Row ((w.alloc (.cells m.cs 25)).alloc (.cells #[Value.string ⟨#[100, 105, 115]⟩, .string ⟨#[100, 105, 111]⟩, .string ⟨#[100, 97, 111]⟩, .string ⟨#[97, 99, 107]⟩] 49)) (w.heap.size + 1) 49 #[Value.string ⟨#[100, 105, 115]⟩, .string ⟨#[100, 105, 111]⟩, .string ⟨#[100, 97, 111]⟩, .string ⟨#[97, 99, 107]⟩]) := by
    have := Row.new (w.alloc (.cells m.cs 25)) 49 #[Value.string ⟨#[100, 105, 115]⟩, .string ⟨#[100, 105, 111]⟩, .string ⟨#[100, 97, 111]⟩, .string ⟨#[97, 99, 107]⟩]
    rwa [World.size_alloc] at this
  have B1 := hid (balloc (balloc (Below.refl w.heap.size w) (.cells m.cs 25)) (.cells #[Value.string ⟨#[100, 105, 115]⟩, .string ⟨#[100, 105, 111]⟩, .string ⟨#[100, 97, 111]⟩, .string ⟨#[97, 99, 107]⟩] 49))
  have M1 := hid (hm.1.below B1.out)
  have V1 := hid (hV.below B1.out)
  clear hm hV
  have e0 : decide (0 ≤ code) = true := decide_eq_true h0
  have e1 : decide (code < 4) = true := decide_eq_true h1
  obtain ⟨k, rfl⟩ : ∃ k : Nat, code = k := ⟨code.toNat, by omega⟩
  have hk4 : k < 4 := by omega
  have HW0 : Hid (cwOf k = cwd k) := by rw [Hid, cwOf, codB_nat hk4]; rfl
  go_enter Tryd.func5, Tryd.ntmps5
  go_upto_region 3 with fail
  generalize (w.alloc (.cells m.cs 25)).alloc (.cells #[Value.string ⟨#[100, 105, 115]⟩, .string ⟨#[100, 105, 111]⟩, .string ⟨#[100, 97, 111]⟩, .string ⟨#[97, 99, 107]⟩] 49) = w1 at *
  generalize w.heap.size + 1 = gw at *
  have ck := (RW.out.cell k).trans (cwd_at k hk4)
  go_upto_region 5 with fail
  clear ck
  generalize cwd k = ws at *
  generalize hcode : (k : Int) = code at *
  have HW := HW0
  clear HW0 RW e0 e1 h0 h1 hcode hk4
  go_wp2_with (refine ldM m25 _ rfl rfl _ _ rfl m HM.out.ro RM.out.part ?_)
  refine (cTo_any m _ M1.out HWf.out).mono ?_
  rintro e w2 ⟨⟨x, rfl, hx20, hxok, hxwf, hxs, _⟩, hb2⟩
  have X2 := hid hxok.out
  have XS := hid hxs.out
  have HA := hid hxok.out.ro
  have B2 := hid (bthen B1.out hb2)
  have V2 := hid (V1.out.below hb2)
  clear hb2 hxok hxwf hxs M1 V1 RM
  have hz := zmv
  have RZ := hid (layM_new w2 29 x)
  have BZ := hid (layM_below w2 29 x)
  go_upto_region 6 with (refine stM m29 _ _ rfl rfl w2.heap.size x HA.out rfl rfl 29 Mv.zero adr_zeros (Row.new w2 29 _) ?_)
  have X3 := hid (X2.out.below BZ.out)
  have B3 := hid (bthen B2.out BZ.out)
  have V3 := hid (V2.out.below BZ.out)
  generalize (w2.alloc (.cells Mv.zero.cs 29)).setRow w2.heap.size x.cs = w3 at *
  generalize w2.heap.size = gx at *
  clear hz BZ X2 V2 B2
  go_wp2_with (refine ldM m29 _ rfl rfl _ _ rfl x HA.out RZ.out.part ?_)
  refine (targets_any x _ X3.out XS.out (by omega)).mono ?_
  rintro e w4 ⟨ta, tn, tc, TL, rfl, hT, hTp, hTn, hb4⟩
  have hxl := X3.out.o.len
  have R4 := hid (RZ.out.below hb4)
  have X4 := hid (X3.out.below hb4)
  have B4 := hid (bthen B3.out hb4)
  have V4 := hid (V3.out.below hb4)
  have T4 := hid hT.out
  have HTp := hid hTp.out
  have htn : tn ≤ 20 := by omega
  clear hb4 hT hTp X3 B3 V3 RZ
  go_wp2_with fail
  refine (optOf_any ta tn tc TL _ T4.out (by omega)).mono ?_
  rintro e w5 ⟨la, lc, rfl, hL, hb5⟩
  have R5 := hid (R4.out.below hb5)
  have X5 := hid (X4.out.below hb5)
  have B5 := hid (bthen B4.out hb5)
  have V5 := hid (V4.out.below hb5)
  have L5 := hid hL
  have HTl := hid hL.len
  clear hb5 hL X4 B4 V4 R4 T4
  obtain ⟨xa, xn, xc, xL, e1, e2, e3, e4⟩ : ∃ xa xn xc xL, x.oa = xa ∧ x.on = xn ∧ x.oc = xc ∧ x.L = xL := ⟨_, _, _, _, rfl, rfl, rfl, rfl⟩
  have XO5 : Hid (Opts w5 xa xn xc xL) := by rw [← e1, ← e2, ← e3, ← e4]; exact X5.out.o
  have hxn : xn ≤ 20 := by omega
  have hxcl := XO5.out.le
  have hxcm := XO5.out.max
  unfold maxLen at hxcm
  rw [e4] at HTp hTn hxl
  rw [e2] at hxl
  have HXL := hid hxl
  have E1 := hid e1
  have E2 := hid e2
  have E3 := hid e3
  clear e1 e2 e3 e4 hx20 hxl hTn XS
  have c27 := (R5.out.cell 27).trans (Mv.at27 HA.out)
  rw [E1.out, E2.out, E3.out] at c27
  go_wp2_with fail
  go_loopw [11, 12] (fun nv iv wr => ∃ i : Nat, i ≤ xn ∧ iv = .int .i64 i ∧ nv = .int .i64 ((tgts ((pos xL).take i)).length : Nat) ∧ Hid (Below w5.heap.size w5 wr)) (fun _ iv _ => xn - (intOf iv).toNat)
  case atStart => exact ⟨0, Nat.zero_le _, rfl, rfl, Below.refl _ _⟩
  case round =>
    obtain ⟨i, hi, rfl, rfl, HB⟩ := hrel
    clear c27
    have RX := hid (R5.out.below HB.out)
    have c27 := (RX.out.cell 27).trans (Mv.at27 HA.out)
    rw [E1.out, E2.out, E3.out] at c27
    by_cases hlt : i < xn
    · have hlt' : (i : Int) < (xn : Int) := by omega
      have hi1 : (i : Int) + 1 ≤ (xc : Int) := by omega
      obtain ⟨xb, xoff, rfl, hp⟩ := (XO5.out.below HB.out).cell i hlt
      have hone := (XO5.out.below HB.out).one i hlt
      have hok := (XO5.out.below HB.out).at i hlt
      have hil : i < xL.length := by rw [HXL.out]; exact hlt
      have HY := hid (tgts_yes (pos xL) i (by rw [pos_len]; exact hil))
      have HN := hid (tgts_no (pos xL) i (by rw [pos_len]; exact hil))
      have HG := hid (tgts_get (pos xL) i (by rw [pos_len]; exact hil))
      have hle := tgts_take_le (pos xL) i
      rw [pos_at xL i hil] at HY HN HG
      generalize xL.getD i Ov.zero = o at *
      have XO := hid hone
      have OK := hid hok
      have OA := hid hok.ad
      have k0 := hp 0 _ o.at0
      rw [Nat.add_zero] at k0
      have HK5 : Hid (hitB [5] o.p.k = (o.k == 5)) := by
        rw [Hid, hitB, Bool.eq_iff_iff]; simp [Ov.p]
      clear hp hone hok hil
      generalize hnn : (tgts ((pos xL).take i)).length = nn at *
      have HNN := hid hnn
      clear hnn
      by_cases h5 : o.k = 5
      · have e5 : (o.k != 5) = false := by simp [h5]
        have hh : hitB [5] o.p.k = true := by rw [HK5.out]; simp [h5]
        obtain ⟨g1, g2⟩ := HG.out hh
        rw [← HTp.out] at g1 g2
        rw [pos_len, HTl.out] at g1
        have hnt : (nn : Int) < (tn : Int) := by omega
        have hge : decide ((tn : Int) ≤ (nn : Int)) = false := decide_eq_false (by omega)
        have hge2 : decide (tn ≤ nn) = false := decide_eq_false (by omega)
        obtain ⟨tb, toff, ha, htp⟩ := (L5.out.below HB.out).cell nn g1
        have htok := (L5.out.below HB.out).at nn g1
        rw [pos_at TL nn (by rw [HTl.out]; exact g1)] at g2
        generalize TL.getD nn Ov.zero = tv at *
        have HEq : Hid (tv.p.eqB o.p = true) := by rw [Hid, g2]; exact Po.eqB_self _
        have TP := hid htp
        have TV := hid htok
        have TA := hid htok.ad
        have HYY := hid (HY.out hh)
        subst ha
        clear g2 htp htok hh h5 HG HY HN
        obtain ⟨i1, hi1e⟩ : ∃ i1, i1 = i + 1 := ⟨_, rfl⟩
        have hw1 : IntKind.i64.wrap ((i : Int) + 1) = (i1 : Int) := by rw [w64 _ (by omega) (by omega)]; omega
        have hb0 : (0 : Int) ≤ (i1 : Int) := by omega
        have hb1 : (i1 : Int) ≤ (xc : Int) := by omega
        have hb2 : i ≤ i1 := by omega
        have hb3 : i1 - i = 1 := by omega
        have hb4 : ¬ xc = i := by omega
        clear hi1e
        go_wp2_with fail
        refine wp_region_held_drew (S := fun w' => w'.cell? ⟨gx, 27, none⟩ = some (.slice (some ⟨xb, xoff, none⟩) xn xc) ∧ Hid (Part w' tb (toff + nn * 19) tv.cs)) (by kernel_rfl) ?_ (fun hHeld => ?_)
        · exact ⟨c27, TP.out⟩
        refine wpAnyH_take (i := 0) (oi := _) (v := ?va0) rfl (by kernel_rfl) (by kernel_rfl) (by kernel_rfl) (fun _ _ _ h => h) (Or.inl ⟨by rfl, ?hya0⟩) (by assumption) ?resta0
        case hya0 => (intro w hSw; (try dsimp only at hSw); go_split_ands; go_simp; try (with_reducible rfl))
        try simp only [List.getElem_toArray, List.getElem_cons_zero, List.getElem_cons_succ, Act.put, List.setIfInBounds_toArray, List.set_cons_zero, List.set_cons_succ]
        refine wpAnyH_take (i := 1) (oi := _) (v := ?va1) rfl (by kernel_rfl) (by kernel_rfl) (by kernel_rfl) (fun _ _ _ h => h) (Or.inl ⟨by rfl, ?hya1⟩) (by assumption) ?resta1
        case hya1 => (intro w hSw; (try dsimp only at hSw); go_split_ands; go_simp; try (with_reducible rfl))
        try simp only [List.getElem_toArray, List.getElem_cons_zero, List.getElem_cons_succ, Act.put, List.setIfInBounds_toArray, List.set_cons_zero, List.set_cons_succ]
        refine wpAnyH_take (i := 2) (oi := _) (v := ?va2) rfl (by kernel_rfl) (by kernel_rfl) (by kernel_rfl) (fun _ _ _ h => h) (Or.inl ⟨by rfl, ?hya2⟩) (by assumption) ?resta2
        case hya2 => (intro w hSw; (try dsimp only at hSw); go_split_ands; go_simp; try (with_reducible rfl))
        try simp only [List.getElem_toArray, List.getElem_cons_zero, List.getElem_cons_succ, Act.put, List.setIfInBounds_toArray, List.set_cons_zero, List.set_cons_succ]
        refine wpAnyH_take (i := 3) (oi := _) (v := ?va3) rfl (by kernel_rfl) (by kernel_rfl) (by kernel_rfl) (fun _ _ _ h => h) (Or.inl ⟨by rfl, ?hya3⟩) (by assumption) ?resta3
        case hya3 => (intro w hSw; (try dsimp only at hSw); go_split_ands; go_simp; try (with_reducible rfl))
        try simp only [List.getElem_toArray, List.getElem_cons_zero, List.getElem_cons_succ, Act.put, List.setIfInBounds_toArray, List.set_cons_zero, List.set_cons_succ]
        refine wpAnyH_take (i := 4) (oi := _) (v := ?va4) rfl (by kernel_rfl) (by kernel_rfl) (by kernel_rfl) (fun _ _ _ h => h) (Or.inl ⟨by rfl, ?hya4⟩) (by assumption) ?resta4
        case hya4 => (intro w hSw; (try dsimp only at hSw); go_split_ands; go_simp; try (with_reducible rfl))
        try simp only [List.getElem_toArray, List.getElem_cons_zero, List.getElem_cons_succ, Act.put, List.setIfInBounds_toArray, List.set_cons_zero, List.set_cons_succ]
        refine wpAnyH_take (i := 5) (oi := _) (v := ?va5) rfl (by kernel_rfl) (by kernel_rfl) (by kernel_rfl) (fun _ _ _ h => h) (Or.inl ⟨by rfl, ?hya5⟩) (by assumption) ?resta5
        case hya5 => (intro w hSw; (try dsimp only at hSw); go_split_ands; go_simp; try (with_reducible rfl))
        try simp only [List.getElem_toArray, List.getElem_cons_zero, List.getElem_cons_succ, Act.put, List.setIfInBounds_toArray, List.set_cons_zero, List.set_cons_succ]
        refine wpAnyH_take (i := 6) (oi := _) (v := ?va6) rfl (by kernel_rfl) (by kernel_rfl) (by kernel_rfl) (fun _ _ _ h => h) (Or.inl ⟨by rfl, ?hya6⟩) (by assumption) ?resta6
        case hya6 => (intro w hSw; (try dsimp only at hSw); go_split_ands; go_simp; try (with_reducible rfl))
        try simp only [List.getElem_toArray, List.getElem_cons_zero, List.getElem_cons_succ, Act.put, List.setIfInBounds_toArray, List.set_cons_zero, List.set_cons_succ]
        refine wpAnyH_take (i := 7) (oi := _) (v := ?va7) rfl (by kernel_rfl) (by kernel_rfl) (by kernel_rfl) (fun _ _ _ h => h) (Or.inl ⟨by rfl, ?hya7⟩) (by assumption) ?resta7
        case hya7 => (intro w hSw; (try dsimp only at hSw); go_split_ands; go_simp; try (with_reducible rfl))
        try simp only [List.getElem_toArray, List.getElem_cons_zero, List.getElem_cons_succ, Act.put, List.setIfInBounds_toArray, List.set_cons_zero, List.set_cons_succ]
        refine wpAnyH_take (i := 8) (oi := _) (v := .agg tv.cs) rfl (by kernel_rfl) (by kernel_rfl) (by kernel_rfl) (fun _ _ _ h => h) (yldOo o38 (by rfl) _ rfl tb (toff + nn * 19) rfl tv TA.out (fun w h => h.2.out)) (by assumption) ?_
        try simp only [List.getElem_toArray, List.getElem_cons_zero, List.getElem_cons_succ, Act.put, List.setIfInBounds_toArray, List.set_cons_zero, List.set_cons_succ]
        refine wpAnyH_take (i := 9) (oi := _) (v := ?va9) rfl (by kernel_rfl) (by kernel_rfl) (by kernel_rfl) (fun _ _ _ h => h) (Or.inl ⟨by rfl, ?hya9⟩) (by assumption) ?resta9
        case hya9 => (intro w hSw; (try dsimp only at hSw); go_split_ands; go_simp; try (with_reducible rfl))
        try simp only [List.getElem_toArray, List.getElem_cons_zero, List.getElem_cons_succ, Act.put, List.setIfInBounds_toArray, List.set_cons_zero, List.set_cons_succ]
        refine wpAnyH_take (i := 10) (oi := _) (v := ?va10) rfl (by kernel_rfl) (by kernel_rfl) (by kernel_rfl) (fun _ _ _ h => h) (Or.inl ⟨by rfl, ?hya10⟩) (by assumption) ?resta10
        case hya10 => (intro w hSw; (try dsimp only at hSw); go_split_ands; go_simp; try (with_reducible rfl))
        try simp only [List.getElem_toArray, List.getElem_cons_zero, List.getElem_cons_succ, Act.put, List.setIfInBounds_toArray, List.set_cons_zero, List.set_cons_succ]
        refine wpAnyH_take (i := 11) (oi := _) (v := ?va11) rfl (by kernel_rfl) (by kernel_rfl) (by kernel_rfl) (fun _ _ _ h => h) (Or.inl ⟨by rfl, ?hya11⟩) (by assumption) ?resta11
        case hya11 => (intro w hSw; (try dsimp only at hSw); go_split_ands; go_simp; try (with_reducible rfl))
        try simp only [List.getElem_toArray, List.getElem_cons_zero, List.getElem_cons_succ, Act.put, List.setIfInBounds_toArray, List.set_cons_zero, List.set_cons_succ]
        refine wpAnyH_take (i := 12) (oi := _) (v := ?va12) rfl (by kernel_rfl) (by kernel_rfl) (by kernel_rfl) (fun _ _ _ h => h) (Or.inl ⟨by rfl, ?hya12⟩) (by assumption) ?resta12
        case hya12 => (intro w hSw; (try dsimp only at hSw); go_split_ands; go_simp; try (with_reducible rfl))
        try simp only [List.getElem_toArray, List.getElem_cons_zero, List.getElem_cons_succ, Act.put, List.setIfInBounds_toArray, List.set_cons_zero, List.set_cons_succ]
        refine wpAnyH_take (i := 13) (oi := _) (v := ?va13) rfl (by kernel_rfl) (by kernel_rfl) (by kernel_rfl) (fun _ _ _ h => h) (Or.inl ⟨by rfl, ?hya13⟩) (by assumption) ?resta13
        case hya13 => (intro w hSw; (try dsimp only at hSw); go_split_ands; go_simp; try (with_reducible rfl))
        try simp only [List.getElem_toArray, List.getElem_cons_zero, List.getElem_cons_succ, Act.put, List.setIfInBounds_toArray, List.set_cons_zero, List.set_cons_succ]
        refine wpAnyH_take (i := 14) (oi := _) (v := ?va14) rfl (by kernel_rfl) (by kernel_rfl) (by kernel_rfl) (fun _ _ _ h => h) (Or.inl ⟨by rfl, ?hya14⟩) (by assumption) ?resta14
        case hya14 => (intro w hSw; (try dsimp only at hSw); go_split_ands; go_simp; try (with_reducible rfl))
        try simp only [List.getElem_toArray, List.getElem_cons_zero, List.getElem_cons_succ, Act.put, List.setIfInBounds_toArray, List.set_cons_zero, List.set_cons_succ]
        refine wpAnyH_ready (rs := [15]) (by kernel_rfl) (by simp) ?_
        refine AllReadyH.cons (o := _) rfl (fun K hK => ?_) AllReadyH.nil
        go_simp
        refine (optOf_any (some ⟨xb, xoff + i * 19, none⟩) 1 (xc - i) [o] _ (XO.out.below (bdrew (Below.refl _ _) 1)) (by decide)).mono ?_
        rintro e w7 ⟨ya, yc, rfl, hY, hb7⟩
        have bb7 : Below wr.heap.size wr w7 := bthen (bdrew (Below.refl _ _) 1) hb7
        have R7 := hid (RX.out.below bb7)
        have c7 := (R7.out.cell 27).trans (Mv.at27 HA.out)
        rw [E1.out, E2.out, E3.out] at c7
        have TP7 := hid (TP.out.below bb7)
        have TV7 := hid (TV.out.below bb7)
        have B7 := hid (bthen HB.out bb7)
        have Y7 := hid hY
        obtain ⟨yb, yoff, rfl, hyp⟩ := Y7.out.cell 0 (by decide)
        have YP := hid hyp
        rw [show ([o] : List Ov).getD 0 Ov.zero = o from rfl] at YP
        clear hb7 hY hyp
        go_wp2_with fail
        refine hK.out _ _ ⟨c7, TP7.out⟩ (fun hHeld => ?_)
        clear hK K
        try simp only [List.getElem_toArray, List.getElem_cons_zero, List.getElem_cons_succ, Act.put, List.setIfInBounds_toArray, List.set_cons_zero, List.set_cons_succ]
        refine wpAnyH_take (i := 16) (oi := _) (v := ?va16) rfl (by kernel_rfl) (by kernel_rfl) (by kernel_rfl) (fun _ _ _ h => h) (Or.inl ⟨by rfl, ?hya16⟩) (by assumption) ?resta16
        case hya16 => (intro w hSw; (try dsimp only at hSw); go_split_ands; go_simp; try (with_reducible rfl))
        try simp only [List.getElem_toArray, List.getElem_cons_zero, List.getElem_cons_succ, Act.put, List.setIfInBounds_toArray, List.set_cons_zero, List.set_cons_succ]
        refine wpAnyH_ready (rs := [17]) (by kernel_rfl) (by simp) ?_
        refine AllReadyH.cons (o := _) rfl (fun K hK => ?_) AllReadyH.nil
        refine step_ldO o38 _ rfl (by rfl) yb yoff rfl o OA.out (by simpa using YP.out) ?_
        refine hK.out _ _ ⟨c7, TP7.out⟩ (fun hHeld => ?_)
        clear hK K
        try simp only [List.getElem_toArray, List.getElem_cons_zero, List.getElem_cons_succ, Act.put, List.setIfInBounds_toArray, List.set_cons_zero, List.set_cons_succ]
        refine wpAnyH_ready (rs := [18]) (by kernel_rfl) (by simp) ?_
        refine AllReadyH.cons (o := _) rfl (fun K hK => ?_) AllReadyH.nil
        go_simp
        refine (optRefSame_any tv o _ TV7.out (Y7.out.ok o (by simp))).mono ?_
        rintro e w8 ⟨rfl, hb8⟩
        have R8 := hid (R7.out.below hb8)
        have c8 := (R8.out.cell 27).trans (Mv.at27 HA.out)
        rw [E1.out, E2.out, E3.out] at c8
        have TP8 := hid (TP7.out.below hb8)
        have B8 := hid (bthen B7.out hb8)
        clear hb8
        rw [HEq.out]
        go_wp2_with fail
        refine hK.out _ _ ⟨c8, TP8.out⟩ (fun hHeld => ?_)
        clear hK K
        try simp only [List.getElem_toArray, List.getElem_cons_zero, List.getElem_cons_succ, Act.put, List.setIfInBounds_toArray, List.set_cons_zero, List.set_cons_succ]
        refine wpAnyH_take (i := 19) (oi := _) (v := ?va19) rfl (by kernel_rfl) (by kernel_rfl) (by kernel_rfl) (fun _ _ _ h => h) (Or.inl ⟨by rfl, ?hya19⟩) (by assumption) ?resta19
        case hya19 => (intro w hSw; (try dsimp only at hSw); go_split_ands; go_simp; try (with_reducible rfl))
        try simp only [List.getElem_toArray, List.getElem_cons_zero, List.getElem_cons_succ, Act.put, List.setIfInBounds_toArray, List.set_cons_zero, List.set_cons_succ]
        refine wpAnyH_take (i := 20) (oi := _) (v := ?va20) rfl (by kernel_rfl) (by kernel_rfl) (by kernel_rfl) (fun _ _ _ h => h) (Or.inl ⟨by rfl, ?hya20⟩) (by assumption) ?resta20
        case hya20 => (intro w hSw; (try dsimp only at hSw); go_split_ands; go_simp; try (with_reducible rfl))
        try simp only [List.getElem_toArray, List.getElem_cons_zero, List.getElem_cons_succ, Act.put, List.setIfInBounds_toArray, List.set_cons_zero, List.set_cons_succ]
        refine wpAnyH_done (by kernel_rfl) ?_ _
        clear hw1 hb0 hb1 hb2 hb3 hb4
        go_wp2_with fail
        go_roundw
        case rel => exact ⟨i + 1, by omega, by go_num, by rw [HYY.out, List.length_append, HNN.out]; go_num, B8.out⟩
        case measure => simp [intOf]; omega
      · have e5 : (o.k != 5) = true := by rw [bne_iff_ne]; exact h5
        have hh : hitB [5] o.p.k = false := by rw [HK5.out]; simp [h5]
        have HNo := hid (HN.out hh)
        clear hh h5 HG HY HN
        go_wp2_with fail
        go_roundw
        case rel => exact ⟨i + 1, by omega, by go_num, by rw [HNo.out, HNN.out], HB.out⟩
        case measure => simp [intOf]; omega
    · obtain rfl : i = xn := by omega
      have V6 := hid (V5.out.below HB.out)
      have B6 := hid (bthen B5.out HB.out)
      rw [List.take_of_length_le (by rw [pos_len, HXL.out]; exact Nat.le_refl _), ← HTp.out, pos_len, HTl.out]
      clear X5 V5 XO5 L5 B5
      go_wp2_with fail
      refine (cLawKnown_any _ V6.out).mono ?_
      rintro e w6 ⟨rfl, hb6⟩
      have V7 := hid (V6.out.below hb6)
      have B7 := hid (bthen B6.out hb6)
      clear hb6 V6 B6
      go_wp2_with fail
      refine (cword_any code _ V7.out).mono ?_
      rintro e w7 ⟨rfl, rfl⟩
      rw [HW.out]
      go_wp2_with fail
      refine (may_any code kind _ V7.out).mono ?_
      rintro e w7 ⟨rfl, rfl⟩
      go_wp2_with fail
      refine (refMay_any code kind _).mono ?_
      rintro e w8 ⟨rfl, hb8⟩
      have B8 := hid (bthen B7.out hb8)
      clear hb8
      go_wp2_with fail
      go_ret
      exact ⟨rfl, B8.out⟩
set_option maxRecDepth 1000000 in
set_option maxHeartbeats 6400000 in
theorem tells_neg (m : Mv) (code kind : Int) (w : World) (hm : m.ok w ∧ Wfo m.L) (hV : CV w.heap.size w) (h0 : code < 0) :
    Calls Tryd.prog 5 #[.agg m.cs, .int .i64 code, .int .i64 kind] w fun e w' => e = .returned (.bool true) ∧ Below w.heap.size w w' := by
  have HM := hid hm.1
  have HWf := hid hm.2
  have RM := hid ((Row.new w 25 m.cs).alloc (.cells #[Value.string ⟨#[100, 105, 115]⟩, .string ⟨#[100, 105, 111]⟩, .string ⟨#[100, 97, 111]⟩, .string ⟨#[97, 99, 107]⟩] 49))
  have RW : Hid (Row ((w.alloc (.cells m.cs 25)).alloc (.cells #[Value.string ⟨#[100, 105, 115]⟩, .string ⟨#[100, 105, 111]⟩, .string ⟨#[100, 97, 111]⟩, .string ⟨#[97, 99, 107]⟩] 49)) (w.heap.size + 1) 49 #[Value.string ⟨#[100, 105, 115]⟩, .string ⟨#[100, 105, 111]⟩, .string ⟨#[100, 97, 111]⟩, .string ⟨#[97, 99, 107]⟩]) := by
    have := Row.new (w.alloc (.cells m.cs 25)) 49 #[Value.string ⟨#[100, 105, 115]⟩, .string ⟨#[100, 105, 111]⟩, .string ⟨#[100, 97, 111]⟩, .string ⟨#[97, 99, 107]⟩]
    rwa [World.size_alloc] at this
  have B1 := hid (balloc (balloc (Below.refl w.heap.size w) (.cells m.cs 25)) (.cells #[Value.string ⟨#[100, 105, 115]⟩, .string ⟨#[100, 105, 111]⟩, .string ⟨#[100, 97, 111]⟩, .string ⟨#[97, 99, 107]⟩] 49))
  have M1 := hid (hm.1.below B1.out)
  have V1 := hid (hV.below B1.out)
  clear hm hV
  have e0 : decide (0 ≤ code) = false := decide_eq_false (by omega)
  have HW : Hid (cwOf code = ⟨#[]⟩) := by
    have : codB code = false := by simp [codB]; omega
    rw [Hid, cwOf, this]; rfl
  clear h0 RW
  go_enter Tryd.func5, Tryd.ntmps5
  go_upto_region 3 with fail
  generalize (w.alloc (.cells m.cs 25)).alloc (.cells #[Value.string ⟨#[100, 105, 115]⟩, .string ⟨#[100, 105, 111]⟩, .string ⟨#[100, 97, 111]⟩, .string ⟨#[97, 99, 107]⟩] 49) = w1 at *
  generalize w.heap.size + 1 = gw at *
  go_upto_region 5 with fail
  clear e0
  go_wp2_with (refine ldM m25 _ rfl rfl _ _ rfl m HM.out.ro RM.out.part ?_)
  refine (cTo_any m _ M1.out HWf.out).mono ?_
  rintro e w2 ⟨⟨x, rfl, hx20, hxok, hxwf, hxs, _⟩, hb2⟩
  have X2 := hid hxok.out
  have XS := hid hxs.out
  have HA := hid hxok.out.ro
  have B2 := hid (bthen B1.out hb2)
  have V2 := hid (V1.out.below hb2)
  clear hb2 hxok hxwf hxs M1 V1 RM
  have hz := zmv
  have RZ := hid (layM_new w2 29 x)
  have BZ := hid (layM_below w2 29 x)
  go_upto_region 6 with (refine stM m29 _ _ rfl rfl w2.heap.size x HA.out rfl rfl 29 Mv.zero adr_zeros (Row.new w2 29 _) ?_)
  have X3 := hid (X2.out.below BZ.out)
  have B3 := hid (bthen B2.out BZ.out)
  have V3 := hid (V2.out.below BZ.out)
  generalize (w2.alloc (.cells Mv.zero.cs 29)).setRow w2.heap.size x.cs = w3 at *
  generalize w2.heap.size = gx at *
  clear hz BZ X2 V2 B2
  go_wp2_with (refine ldM m29 _ rfl rfl _ _ rfl x HA.out RZ.out.part ?_)
  refine (targets_any x _ X3.out XS.out (by omega)).mono ?_
  rintro e w4 ⟨ta, tn, tc, TL, rfl, hT, hTp, hTn, hb4⟩
  have hxl := X3.out.o.len
  have R4 := hid (RZ.out.below hb4)
  have X4 := hid (X3.out.below hb4)
  have B4 := hid (bthen B3.out hb4)
  have V4 := hid (V3.out.below hb4)
  have T4 := hid hT.out
  have HTp := hid hTp.out
  have htn : tn ≤ 20 := by omega
  clear hb4 hT hTp X3 B3 V3 RZ
  go_wp2_with fail
  refine (optOf_any ta tn tc TL _ T4.out (by omega)).mono ?_
  rintro e w5 ⟨la, lc, rfl, hL, hb5⟩
  have R5 := hid (R4.out.below hb5)
  have X5 := hid (X4.out.below hb5)
  have B5 := hid (bthen B4.out hb5)
  have V5 := hid (V4.out.below hb5)
  have L5 := hid hL
  have HTl := hid hL.len
  clear hb5 hL X4 B4 V4 R4 T4
  obtain ⟨xa, xn, xc, xL, e1, e2, e3, e4⟩ : ∃ xa xn xc xL, x.oa = xa ∧ x.on = xn ∧ x.oc = xc ∧ x.L = xL := ⟨_, _, _, _, rfl, rfl, rfl, rfl⟩
  have XO5 : Hid (Opts w5 xa xn xc xL) := by rw [← e1, ← e2, ← e3, ← e4]; exact X5.out.o
  have hxn : xn ≤ 20 := by omega
  have hxcl := XO5.out.le
  have hxcm := XO5.out.max
  unfold maxLen at hxcm
  rw [e4] at HTp hTn hxl
  rw [e2] at hxl
  have HXL := hid hxl
  have E1 := hid e1
  have E2 := hid e2
  have E3 := hid e3
  clear e1 e2 e3 e4 hx20 hxl hTn XS
  have c27 := (R5.out.cell 27).trans (Mv.at27 HA.out)
  rw [E1.out, E2.out, E3.out] at c27
  go_wp2_with fail
  go_loopw [11, 12] (fun nv iv wr => ∃ i : Nat, i ≤ xn ∧ iv = .int .i64 i ∧ nv = .int .i64 ((tgts ((pos xL).take i)).length : Nat) ∧ Hid (Below w5.heap.size w5 wr)) (fun _ iv _ => xn - (intOf iv).toNat)
  case atStart => exact ⟨0, Nat.zero_le _, rfl, rfl, Below.refl _ _⟩
  case round =>
    obtain ⟨i, hi, rfl, rfl, HB⟩ := hrel
    clear c27
    have RX := hid (R5.out.below HB.out)
    have c27 := (RX.out.cell 27).trans (Mv.at27 HA.out)
    rw [E1.out, E2.out, E3.out] at c27
    by_cases hlt : i < xn
    · have hlt' : (i : Int) < (xn : Int) := by omega
      have hi1 : (i : Int) + 1 ≤ (xc : Int) := by omega
      obtain ⟨xb, xoff, rfl, hp⟩ := (XO5.out.below HB.out).cell i hlt
      have hone := (XO5.out.below HB.out).one i hlt
      have hok := (XO5.out.below HB.out).at i hlt
      have hil : i < xL.length := by rw [HXL.out]; exact hlt
      have HY := hid (tgts_yes (pos xL) i (by rw [pos_len]; exact hil))
      have HN := hid (tgts_no (pos xL) i (by rw [pos_len]; exact hil))
      have HG := hid (tgts_get (pos xL) i (by rw [pos_len]; exact hil))
      have hle := tgts_take_le (pos xL) i
      rw [pos_at xL i hil] at HY HN HG
      generalize xL.getD i Ov.zero = o at *
      have XO := hid hone
      have OK := hid hok
      have OA := hid hok.ad
      have k0 := hp 0 _ o.at0
      rw [Nat.add_zero] at k0
      have HK5 : Hid (hitB [5] o.p.k = (o.k == 5)) := by
        rw [Hid, hitB, Bool.eq_iff_iff]; simp [Ov.p]
      clear hp hone hok hil
      generalize hnn : (tgts ((pos xL).take i)).length = nn at *
      have HNN := hid hnn
      clear hnn
      by_cases h5 : o.k = 5
      · have e5 : (o.k != 5) = false := by simp [h5]
        have hh : hitB [5] o.p.k = true := by rw [HK5.out]; simp [h5]
        obtain ⟨g1, g2⟩ := HG.out hh
        rw [← HTp.out] at g1 g2
        rw [pos_len, HTl.out] at g1
        have hnt : (nn : Int) < (tn : Int) := by omega
        have hge : decide ((tn : Int) ≤ (nn : Int)) = false := decide_eq_false (by omega)
        have hge2 : decide (tn ≤ nn) = false := decide_eq_false (by omega)
        obtain ⟨tb, toff, ha, htp⟩ := (L5.out.below HB.out).cell nn g1
        have htok := (L5.out.below HB.out).at nn g1
        rw [pos_at TL nn (by rw [HTl.out]; exact g1)] at g2
        generalize TL.getD nn Ov.zero = tv at *
        have HEq : Hid (tv.p.eqB o.p = true) := by rw [Hid, g2]; exact Po.eqB_self _
        have TP := hid htp
        have TV := hid htok
        have TA := hid htok.ad
        have HYY := hid (HY.out hh)
        subst ha
        clear g2 htp htok hh h5 HG HY HN
        obtain ⟨i1, hi1e⟩ : ∃ i1, i1 = i + 1 := ⟨_, rfl⟩
        have hw1 : IntKind.i64.wrap ((i : Int) + 1) = (i1 : Int) := by rw [w64 _ (by omega) (by omega)]; omega
        have hb0 : (0 : Int) ≤ (i1 : Int) := by omega
        have hb1 : (i1 : Int) ≤ (xc : Int) := by omega
        have hb2 : i ≤ i1 := by omega
        have hb3 : i1 - i = 1 := by omega
        have hb4 : ¬ xc = i := by omega
        clear hi1e
        go_wp2_with fail
        refine wp_region_held_drew (S := fun w' => w'.cell? ⟨gx, 27, none⟩ = some (.slice (some ⟨xb, xoff, none⟩) xn xc) ∧ Hid (Part w' tb (toff + nn * 19) tv.cs)) (by kernel_rfl) ?_ (fun hHeld => ?_)
        · exact ⟨c27, TP.out⟩
        refine wpAnyH_take (i := 0) (oi := _) (v := ?va0) rfl (by kernel_rfl) (by kernel_rfl) (by kernel_rfl) (fun _ _ _ h => h) (Or.inl ⟨by rfl, ?hya0⟩) (by assumption) ?resta0
        case hya0 => (intro w hSw; (try dsimp only at hSw); go_split_ands; go_simp; try (with_reducible rfl))
        try simp only [List.getElem_toArray, List.getElem_cons_zero, List.getElem_cons_succ, Act.put, List.setIfInBounds_toArray, List.set_cons_zero, List.set_cons_succ]
        refine wpAnyH_take (i := 1) (oi := _) (v := ?va1) rfl (by kernel_rfl) (by kernel_rfl) (by kernel_rfl) (fun _ _ _ h => h) (Or.inl ⟨by rfl, ?hya1⟩) (by assumption) ?resta1
        case hya1 => (intro w hSw; (try dsimp only at hSw); go_split_ands; go_simp; try (with_reducible rfl))
        try simp only [List.getElem_toArray, List.getElem_cons_zero, List.getElem_cons_succ, Act.put, List.setIfInBounds_toArray, List.set_cons_zero, List.set_cons_succ]
        refine wpAnyH_take (i := 2) (oi := _) (v := ?va2) rfl (by kernel_rfl) (by kernel_rfl) (by kernel_rfl) (fun _ _ _ h => h) (Or.inl ⟨by rfl, ?hya2⟩) (by assumption) ?resta2
        case hya2 => (intro w hSw; (try dsimp only at hSw); go_split_ands; go_simp; try (with_reducible rfl))
        try simp only [List.getElem_toArray, List.getElem_cons_zero, List.getElem_cons_succ, Act.put, List.setIfInBounds_toArray, List.set_cons_zero, List.set_cons_succ]
        refine wpAnyH_take (i := 3) (oi := _) (v := ?va3) rfl (by kernel_rfl) (by kernel_rfl) (by kernel_rfl) (fun _ _ _ h => h) (Or.inl ⟨by rfl, ?hya3⟩) (by assumption) ?resta3
        case hya3 => (intro w hSw; (try dsimp only at hSw); go_split_ands; go_simp; try (with_reducible rfl))
        try simp only [List.getElem_toArray, List.getElem_cons_zero, List.getElem_cons_succ, Act.put, List.setIfInBounds_toArray, List.set_cons_zero, List.set_cons_succ]
        refine wpAnyH_take (i := 4) (oi := _) (v := ?va4) rfl (by kernel_rfl) (by kernel_rfl) (by kernel_rfl) (fun _ _ _ h => h) (Or.inl ⟨by rfl, ?hya4⟩) (by assumption) ?resta4
        case hya4 => (intro w hSw; (try dsimp only at hSw); go_split_ands; go_simp; try (with_reducible rfl))
        try simp only [List.getElem_toArray, List.getElem_cons_zero, List.getElem_cons_succ, Act.put, List.setIfInBounds_toArray, List.set_cons_zero, List.set_cons_succ]
        refine wpAnyH_take (i := 5) (oi := _) (v := ?va5) rfl (by kernel_rfl) (by kernel_rfl) (by kernel_rfl) (fun _ _ _ h => h) (Or.inl ⟨by rfl, ?hya5⟩) (by assumption) ?resta5
        case hya5 => (intro w hSw; (try dsimp only at hSw); go_split_ands; go_simp; try (with_reducible rfl))
        try simp only [List.getElem_toArray, List.getElem_cons_zero, List.getElem_cons_succ, Act.put, List.setIfInBounds_toArray, List.set_cons_zero, List.set_cons_succ]
        refine wpAnyH_take (i := 6) (oi := _) (v := ?va6) rfl (by kernel_rfl) (by kernel_rfl) (by kernel_rfl) (fun _ _ _ h => h) (Or.inl ⟨by rfl, ?hya6⟩) (by assumption) ?resta6
        case hya6 => (intro w hSw; (try dsimp only at hSw); go_split_ands; go_simp; try (with_reducible rfl))
        try simp only [List.getElem_toArray, List.getElem_cons_zero, List.getElem_cons_succ, Act.put, List.setIfInBounds_toArray, List.set_cons_zero, List.set_cons_succ]
        refine wpAnyH_take (i := 7) (oi := _) (v := ?va7) rfl (by kernel_rfl) (by kernel_rfl) (by kernel_rfl) (fun _ _ _ h => h) (Or.inl ⟨by rfl, ?hya7⟩) (by assumption) ?resta7
        case hya7 => (intro w hSw; (try dsimp only at hSw); go_split_ands; go_simp; try (with_reducible rfl))
        try simp only [List.getElem_toArray, List.getElem_cons_zero, List.getElem_cons_succ, Act.put, List.setIfInBounds_toArray, List.set_cons_zero, List.set_cons_succ]
        refine wpAnyH_take (i := 8) (oi := _) (v := .agg tv.cs) rfl (by kernel_rfl) (by kernel_rfl) (by kernel_rfl) (fun _ _ _ h => h) (yldOo o38 (by rfl) _ rfl tb (toff + nn * 19) rfl tv TA.out (fun w h => h.2.out)) (by assumption) ?_
        try simp only [List.getElem_toArray, List.getElem_cons_zero, List.getElem_cons_succ, Act.put, List.setIfInBounds_toArray, List.set_cons_zero, List.set_cons_succ]
        refine wpAnyH_take (i := 9) (oi := _) (v := ?va9) rfl (by kernel_rfl) (by kernel_rfl) (by kernel_rfl) (fun _ _ _ h => h) (Or.inl ⟨by rfl, ?hya9⟩) (by assumption) ?resta9
        case hya9 => (intro w hSw; (try dsimp only at hSw); go_split_ands; go_simp; try (with_reducible rfl))
        try simp only [List.getElem_toArray, List.getElem_cons_zero, List.getElem_cons_succ, Act.put, List.setIfInBounds_toArray, List.set_cons_zero, List.set_cons_succ]
        refine wpAnyH_take (i := 10) (oi := _) (v := ?va10) rfl (by kernel_rfl) (by kernel_rfl) (by kernel_rfl) (fun _ _ _ h => h) (Or.inl ⟨by rfl, ?hya10⟩) (by assumption) ?resta10
        case hya10 => (intro w hSw; (try dsimp only at hSw); go_split_ands; go_simp; try (with_reducible rfl))
        try simp only [List.getElem_toArray, List.getElem_cons_zero, List.getElem_cons_succ, Act.put, List.setIfInBounds_toArray, List.set_cons_zero, List.set_cons_succ]
        refine wpAnyH_take (i := 11) (oi := _) (v := ?va11) rfl (by kernel_rfl) (by kernel_rfl) (by kernel_rfl) (fun _ _ _ h => h) (Or.inl ⟨by rfl, ?hya11⟩) (by assumption) ?resta11
        case hya11 => (intro w hSw; (try dsimp only at hSw); go_split_ands; go_simp; try (with_reducible rfl))
        try simp only [List.getElem_toArray, List.getElem_cons_zero, List.getElem_cons_succ, Act.put, List.setIfInBounds_toArray, List.set_cons_zero, List.set_cons_succ]
        refine wpAnyH_take (i := 12) (oi := _) (v := ?va12) rfl (by kernel_rfl) (by kernel_rfl) (by kernel_rfl) (fun _ _ _ h => h) (Or.inl ⟨by rfl, ?hya12⟩) (by assumption) ?resta12
        case hya12 => (intro w hSw; (try dsimp only at hSw); go_split_ands; go_simp; try (with_reducible rfl))
        try simp only [List.getElem_toArray, List.getElem_cons_zero, List.getElem_cons_succ, Act.put, List.setIfInBounds_toArray, List.set_cons_zero, List.set_cons_succ]
        refine wpAnyH_take (i := 13) (oi := _) (v := ?va13) rfl (by kernel_rfl) (by kernel_rfl) (by kernel_rfl) (fun _ _ _ h => h) (Or.inl ⟨by rfl, ?hya13⟩) (by assumption) ?resta13
        case hya13 => (intro w hSw; (try dsimp only at hSw); go_split_ands; go_simp; try (with_reducible rfl))
        try simp only [List.getElem_toArray, List.getElem_cons_zero, List.getElem_cons_succ, Act.put, List.setIfInBounds_toArray, List.set_cons_zero, List.set_cons_succ]
        refine wpAnyH_take (i := 14) (oi := _) (v := ?va14) rfl (by kernel_rfl) (by kernel_rfl) (by kernel_rfl) (fun _ _ _ h => h) (Or.inl ⟨by rfl, ?hya14⟩) (by assumption) ?resta14
        case hya14 => (intro w hSw; (try dsimp only at hSw); go_split_ands; go_simp; try (with_reducible rfl))
        try simp only [List.getElem_toArray, List.getElem_cons_zero, List.getElem_cons_succ, Act.put, List.setIfInBounds_toArray, List.set_cons_zero, List.set_cons_succ]
        refine wpAnyH_ready (rs := [15]) (by kernel_rfl) (by simp) ?_
        refine AllReadyH.cons (o := _) rfl (fun K hK => ?_) AllReadyH.nil
        go_simp
        refine (optOf_any (some ⟨xb, xoff + i * 19, none⟩) 1 (xc - i) [o] _ (XO.out.below (bdrew (Below.refl _ _) 1)) (by decide)).mono ?_
        rintro e w7 ⟨ya, yc, rfl, hY, hb7⟩
        have bb7 : Below wr.heap.size wr w7 := bthen (bdrew (Below.refl _ _) 1) hb7
        have R7 := hid (RX.out.below bb7)
        have c7 := (R7.out.cell 27).trans (Mv.at27 HA.out)
        rw [E1.out, E2.out, E3.out] at c7
        have TP7 := hid (TP.out.below bb7)
        have TV7 := hid (TV.out.below bb7)
        have B7 := hid (bthen HB.out bb7)
        have Y7 := hid hY
        obtain ⟨yb, yoff, rfl, hyp⟩ := Y7.out.cell 0 (by decide)
        have YP := hid hyp
        rw [show ([o] : List Ov).getD 0 Ov.zero = o from rfl] at YP
        clear hb7 hY hyp
        go_wp2_with fail
        refine hK.out _ _ ⟨c7, TP7.out⟩ (fun hHeld => ?_)
        clear hK K
        try simp only [List.getElem_toArray, List.getElem_cons_zero, List.getElem_cons_succ, Act.put, List.setIfInBounds_toArray, List.set_cons_zero, List.set_cons_succ]
        refine wpAnyH_take (i := 16) (oi := _) (v := ?va16) rfl (by kernel_rfl) (by kernel_rfl) (by kernel_rfl) (fun _ _ _ h => h) (Or.inl ⟨by rfl, ?hya16⟩) (by assumption) ?resta16
        case hya16 => (intro w hSw; (try dsimp only at hSw); go_split_ands; go_simp; try (with_reducible rfl))
        try simp only [List.getElem_toArray, List.getElem_cons_zero, List.getElem_cons_succ, Act.put, List.setIfInBounds_toArray, List.set_cons_zero, List.set_cons_succ]
        refine wpAnyH_ready (rs := [17]) (by kernel_rfl) (by simp) ?_
        refine AllReadyH.cons (o := _) rfl (fun K hK => ?_) AllReadyH.nil
        refine step_ldO o38 _ rfl (by rfl) yb yoff rfl o OA.out (by simpa using YP.out) ?_
        refine hK.out _ _ ⟨c7, TP7.out⟩ (fun hHeld => ?_)
        clear hK K
        try simp only [List.getElem_toArray, List.getElem_cons_zero, List.getElem_cons_succ, Act.put, List.setIfInBounds_toArray, List.set_cons_zero, List.set_cons_succ]
        refine wpAnyH_ready (rs := [18]) (by kernel_rfl) (by simp) ?_
        refine AllReadyH.cons (o := _) rfl (fun K hK => ?_) AllReadyH.nil
        go_simp
        refine (optRefSame_any tv o _ TV7.out (Y7.out.ok o (by simp))).mono ?_
        rintro e w8 ⟨rfl, hb8⟩
        have R8 := hid (R7.out.below hb8)
        have c8 := (R8.out.cell 27).trans (Mv.at27 HA.out)
        rw [E1.out, E2.out, E3.out] at c8
        have TP8 := hid (TP7.out.below hb8)
        have B8 := hid (bthen B7.out hb8)
        clear hb8
        rw [HEq.out]
        go_wp2_with fail
        refine hK.out _ _ ⟨c8, TP8.out⟩ (fun hHeld => ?_)
        clear hK K
        try simp only [List.getElem_toArray, List.getElem_cons_zero, List.getElem_cons_succ, Act.put, List.setIfInBounds_toArray, List.set_cons_zero, List.set_cons_succ]
        refine wpAnyH_take (i := 19) (oi := _) (v := ?va19) rfl (by kernel_rfl) (by kernel_rfl) (by kernel_rfl) (fun _ _ _ h => h) (Or.inl ⟨by rfl, ?hya19⟩) (by assumption) ?resta19
        case hya19 => (intro w hSw; (try dsimp only at hSw); go_split_ands; go_simp; try (with_reducible rfl))
        try simp only [List.getElem_toArray, List.getElem_cons_zero, List.getElem_cons_succ, Act.put, List.setIfInBounds_toArray, List.set_cons_zero, List.set_cons_succ]
        refine wpAnyH_take (i := 20) (oi := _) (v := ?va20) rfl (by kernel_rfl) (by kernel_rfl) (by kernel_rfl) (fun _ _ _ h => h) (Or.inl ⟨by rfl, ?hya20⟩) (by assumption) ?resta20
        case hya20 => (intro w hSw; (try dsimp only at hSw); go_split_ands; go_simp; try (with_reducible rfl))
        try simp only [List.getElem_toArray, List.getElem_cons_zero, List.getElem_cons_succ, Act.put, List.setIfInBounds_toArray, List.set_cons_zero, List.set_cons_succ]
        refine wpAnyH_done (by kernel_rfl) ?_ _
        clear hw1 hb0 hb1 hb2 hb3 hb4
        go_wp2_with fail
        go_roundw
        case rel => exact ⟨i + 1, by omega, by go_num, by rw [HYY.out, List.length_append, HNN.out]; go_num, B8.out⟩
        case measure => simp [intOf]; omega
      · have e5 : (o.k != 5) = true := by rw [bne_iff_ne]; exact h5
        have hh : hitB [5] o.p.k = false := by rw [HK5.out]; simp [h5]
        have HNo := hid (HN.out hh)
        clear hh h5 HG HY HN
        go_wp2_with fail
        go_roundw
        case rel => exact ⟨i + 1, by omega, by go_num, by rw [HNo.out, HNN.out], HB.out⟩
        case measure => simp [intOf]; omega
    · obtain rfl : i = xn := by omega
      have V6 := hid (V5.out.below HB.out)
      have B6 := hid (bthen B5.out HB.out)
      rw [List.take_of_length_le (by rw [pos_len, HXL.out]; exact Nat.le_refl _), ← HTp.out, pos_len, HTl.out]
      clear X5 V5 XO5 L5 B5
      go_wp2_with fail
      refine (cLawKnown_any _ V6.out).mono ?_
      rintro e w6 ⟨rfl, hb6⟩
      have V7 := hid (V6.out.below hb6)
      have B7 := hid (bthen B6.out hb6)
      clear hb6 V6 B6
      go_wp2_with fail
      refine (cword_any code _ V7.out).mono ?_
      rintro e w7 ⟨rfl, rfl⟩
      rw [HW.out]
      go_wp2_with fail
      refine (may_any code kind _ V7.out).mono ?_
      rintro e w7 ⟨rfl, rfl⟩
      go_wp2_with fail
      refine (refMay_any code kind _).mono ?_
      rintro e w8 ⟨rfl, hb8⟩
      have B8 := hid (bthen B7.out hb8)
      clear hb8
      go_wp2_with fail
      go_ret
      exact ⟨rfl, B8.out⟩
set_option maxRecDepth 1000000 in
set_option maxHeartbeats 6400000 in
theorem tells_big (m : Mv) (code kind : Int) (w : World) (hm : m.ok w ∧ Wfo m.L) (hV : CV w.heap.size w) (h0 : 4 ≤ code) :
    Calls Tryd.prog 5 #[.agg m.cs, .int .i64 code, .int .i64 kind] w fun e w' => e = .returned (.bool true) ∧ Below w.heap.size w w' := by
  have HM := hid hm.1
  have HWf := hid hm.2
  have RM := hid ((Row.new w 25 m.cs).alloc (.cells #[Value.string ⟨#[100, 105, 115]⟩, .string ⟨#[100, 105, 111]⟩, .string ⟨#[100, 97, 111]⟩, .string ⟨#[97, 99, 107]⟩] 49))
  have RW : Hid (Row ((w.alloc (.cells m.cs 25)).alloc (.cells #[Value.string ⟨#[100, 105, 115]⟩, .string ⟨#[100, 105, 111]⟩, .string ⟨#[100, 97, 111]⟩, .string ⟨#[97, 99, 107]⟩] 49)) (w.heap.size + 1) 49 #[Value.string ⟨#[100, 105, 115]⟩, .string ⟨#[100, 105, 111]⟩, .string ⟨#[100, 97, 111]⟩, .string ⟨#[97, 99, 107]⟩]) := by
    have := Row.new (w.alloc (.cells m.cs 25)) 49 #[Value.string ⟨#[100, 105, 115]⟩, .string ⟨#[100, 105, 111]⟩, .string ⟨#[100, 97, 111]⟩, .string ⟨#[97, 99, 107]⟩]
    rwa [World.size_alloc] at this
  have B1 := hid (balloc (balloc (Below.refl w.heap.size w) (.cells m.cs 25)) (.cells #[Value.string ⟨#[100, 105, 115]⟩, .string ⟨#[100, 105, 111]⟩, .string ⟨#[100, 97, 111]⟩, .string ⟨#[97, 99, 107]⟩] 49))
  have M1 := hid (hm.1.below B1.out)
  have V1 := hid (hV.below B1.out)
  clear hm hV
  have e0 : decide (0 ≤ code) = true := decide_eq_true (by omega)
  have e1 : decide (code < 4) = false := decide_eq_false (by omega)
  have HW : Hid (cwOf code = ⟨#[]⟩) := by
    have : codB code = false := by simp [codB]; omega
    rw [Hid, cwOf, this]; rfl
  clear h0 RW
  go_enter Tryd.func5, Tryd.ntmps5
  go_upto_region 3 with fail
  generalize (w.alloc (.cells m.cs 25)).alloc (.cells #[Value.string ⟨#[100, 105, 115]⟩, .string ⟨#[100, 105, 111]⟩, .string ⟨#[100, 97, 111]⟩, .string ⟨#[97, 99, 107]⟩] 49) = w1 at *
  generalize w.heap.size + 1 = gw at *
  go_upto_region 5 with fail
  clear e0 e1
  go_wp2_with (refine ldM m25 _ rfl rfl _ _ rfl m HM.out.ro RM.out.part ?_)
  refine (cTo_any m _ M1.out HWf.out).mono ?_
  rintro e w2 ⟨⟨x, rfl, hx20, hxok, hxwf, hxs, _⟩, hb2⟩
  have X2 := hid hxok.out
  have XS := hid hxs.out
  have HA := hid hxok.out.ro
  have B2 := hid (bthen B1.out hb2)
  have V2 := hid (V1.out.below hb2)
  clear hb2 hxok hxwf hxs M1 V1 RM
  have hz := zmv
  have RZ := hid (layM_new w2 29 x)
  have BZ := hid (layM_below w2 29 x)
  go_upto_region 6 with (refine stM m29 _ _ rfl rfl w2.heap.size x HA.out rfl rfl 29 Mv.zero adr_zeros (Row.new w2 29 _) ?_)
  have X3 := hid (X2.out.below BZ.out)
  have B3 := hid (bthen B2.out BZ.out)
  have V3 := hid (V2.out.below BZ.out)
  generalize (w2.alloc (.cells Mv.zero.cs 29)).setRow w2.heap.size x.cs = w3 at *
  generalize w2.heap.size = gx at *
  clear hz BZ X2 V2 B2
  go_wp2_with (refine ldM m29 _ rfl rfl _ _ rfl x HA.out RZ.out.part ?_)
  refine (targets_any x _ X3.out XS.out (by omega)).mono ?_
  rintro e w4 ⟨ta, tn, tc, TL, rfl, hT, hTp, hTn, hb4⟩
  have hxl := X3.out.o.len
  have R4 := hid (RZ.out.below hb4)
  have X4 := hid (X3.out.below hb4)
  have B4 := hid (bthen B3.out hb4)
  have V4 := hid (V3.out.below hb4)
  have T4 := hid hT.out
  have HTp := hid hTp.out
  have htn : tn ≤ 20 := by omega
  clear hb4 hT hTp X3 B3 V3 RZ
  go_wp2_with fail
  refine (optOf_any ta tn tc TL _ T4.out (by omega)).mono ?_
  rintro e w5 ⟨la, lc, rfl, hL, hb5⟩
  have R5 := hid (R4.out.below hb5)
  have X5 := hid (X4.out.below hb5)
  have B5 := hid (bthen B4.out hb5)
  have V5 := hid (V4.out.below hb5)
  have L5 := hid hL
  have HTl := hid hL.len
  clear hb5 hL X4 B4 V4 R4 T4
  obtain ⟨xa, xn, xc, xL, e1, e2, e3, e4⟩ : ∃ xa xn xc xL, x.oa = xa ∧ x.on = xn ∧ x.oc = xc ∧ x.L = xL := ⟨_, _, _, _, rfl, rfl, rfl, rfl⟩
  have XO5 : Hid (Opts w5 xa xn xc xL) := by rw [← e1, ← e2, ← e3, ← e4]; exact X5.out.o
  have hxn : xn ≤ 20 := by omega
  have hxcl := XO5.out.le
  have hxcm := XO5.out.max
  unfold maxLen at hxcm
  rw [e4] at HTp hTn hxl
  rw [e2] at hxl
  have HXL := hid hxl
  have E1 := hid e1
  have E2 := hid e2
  have E3 := hid e3
  clear e1 e2 e3 e4 hx20 hxl hTn XS
  have c27 := (R5.out.cell 27).trans (Mv.at27 HA.out)
  rw [E1.out, E2.out, E3.out] at c27
  go_wp2_with fail
  go_loopw [11, 12] (fun nv iv wr => ∃ i : Nat, i ≤ xn ∧ iv = .int .i64 i ∧ nv = .int .i64 ((tgts ((pos xL).take i)).length : Nat) ∧ Hid (Below w5.heap.size w5 wr)) (fun _ iv _ => xn - (intOf iv).toNat)
  case atStart => exact ⟨0, Nat.zero_le _, rfl, rfl, Below.refl _ _⟩
  case round =>
    obtain ⟨i, hi, rfl, rfl, HB⟩ := hrel
    clear c27
    have RX := hid (R5.out.below HB.out)
    have c27 := (RX.out.cell 27).trans (Mv.at27 HA.out)
    rw [E1.out, E2.out, E3.out] at c27
    by_cases hlt : i < xn
    · have hlt' : (i : Int) < (xn : Int) := by omega
      have hi1 : (i : Int) + 1 ≤ (xc : Int) := by omega
      obtain ⟨xb, xoff, rfl, hp⟩ := (XO5.out.below HB.out).cell i hlt
      have hone := (XO5.out.below HB.out).one i hlt
      have hok := (XO5.out.below HB.out).at i hlt
      have hil : i < xL.length := by rw [HXL.out]; exact hlt
      have HY := hid (tgts_yes (pos xL) i (by rw [pos_len]; exact hil))
      have HN := hid (tgts_no (pos xL) i (by rw [pos_len]; exact hil))
      have HG := hid (tgts_get (pos xL) i (by rw [pos_len]; exact hil))
      have hle := tgts_take_le (pos xL) i
      rw [pos_at xL i hil] at HY HN HG
      generalize xL.getD i Ov.zero = o at *
      have XO := hid hone
      have OK := hid hok
      have OA := hid hok.ad
      have k0 := hp 0 _ o.at0
      rw [Nat.add_zero] at k0
      have HK5 : Hid (hitB [5] o.p.k = (o.k == 5)) := by
        rw [Hid, hitB, Bool.eq_iff_iff]; simp [Ov.p]
      clear hp hone hok hil
      generalize hnn : (tgts ((pos xL).take i)).length = nn at *
      have HNN := hid hnn
      clear hnn
      by_cases h5 : o.k = 5
      · have e5 : (o.k != 5) = false := by simp [h5]
        have hh : hitB [5] o.p.k = true := by rw [HK5.out]; simp [h5]
        obtain ⟨g1, g2⟩ := HG.out hh
        rw [← HTp.out] at g1 g2
        rw [pos_len, HTl.out] at g1
        have hnt : (nn : Int) < (tn : Int) := by omega
        have hge : decide ((tn : Int) ≤ (nn : Int)) = false := decide_eq_false (by omega)
        have hge2 : decide (tn ≤ nn) = false := decide_eq_false (by omega)
        obtain ⟨tb, toff, ha, htp⟩ := (L5.out.below HB.out).cell nn g1
        have htok := (L5.out.below HB.out).at nn g1
        rw [pos_at TL nn (by rw [HTl.out]; exact g1)] at g2
        generalize TL.getD nn Ov.zero = tv at *
        have HEq : Hid (tv.p.eqB o.p = true) := by rw [Hid, g2]; exact Po.eqB_self _
        have TP := hid htp
        have TV := hid htok
        have TA := hid htok.ad
        have HYY := hid (HY.out hh)
        subst ha
        clear g2 htp htok hh h5 HG HY HN
        obtain ⟨i1, hi1e⟩ : ∃ i1, i1 = i + 1 := ⟨_, rfl⟩
        have hw1 : IntKind.i64.wrap ((i : Int) + 1) = (i1 : Int) := by rw [w64 _ (by omega) (by omega)]; omega
        have hb0 : (0 : Int) ≤ (i1 : Int) := by omega
        have hb1 : (i1 : Int) ≤ (xc : Int) := by omega
        have hb2 : i ≤ i1 := by omega
        have hb3 : i1 - i = 1 := by omega
        have hb4 : ¬ xc = i := by omega
        clear hi1e
        go_wp2_with fail
        refine wp_region_held_drew (S := fun w' => w'.cell? ⟨gx, 27, none⟩ = some (.slice (some ⟨xb, xoff, none⟩) xn xc) ∧ Hid (Part w' tb (toff + nn * 19) tv.cs)) (by kernel_rfl) ?_ (fun hHeld => ?_)
        · exact ⟨c27, TP.out⟩
        refine wpAnyH_take (i := 0) (oi := _) (v := ?va0) rfl (by kernel_rfl) (by kernel_rfl) (by kernel_rfl) (fun _ _ _ h => h) (Or.inl ⟨by rfl, ?hya0⟩) (by assumption) ?resta0
        case hya0 => (intro w hSw; (try dsimp only at hSw); go_split_ands; go_simp; try (with_reducible rfl))
        try simp only [List.getElem_toArray, List.getElem_cons_zero, List.getElem_cons_succ, Act.put, List.setIfInBounds_toArray, List.set_cons_zero, List.set_cons_succ]
        refine wpAnyH_take (i := 1) (oi := _) (v := ?va1) rfl (by kernel_rfl) (by kernel_rfl) (by kernel_rfl) (fun _ _ _ h => h) (Or.inl ⟨by rfl, ?hya1⟩) (by assumption) ?resta1
        case hya1 => (intro w hSw; (try dsimp only at hSw); go_split_ands; go_simp; try (with_reducible rfl))
        try simp only [List.getElem_toArray, List.getElem_cons_zero, List.getElem_cons_succ, Act.put, List.setIfInBounds_toArray, List.set_cons_zero, List.set_cons_succ]
        refine wpAnyH_take (i := 2) (oi := _) (v := ?va2) rfl (by kernel_rfl) (by kernel_rfl) (by kernel_rfl) (fun _ _ _ h => h) (Or.inl ⟨by rfl, ?hya2⟩) (by assumption) ?resta2
        case hya2 => (intro w hSw; (try dsimp only at hSw); go_split_ands; go_simp; try (with_reducible rfl))
        try simp only [List.getElem_toArray, List.getElem_cons_zero, List.getElem_cons_succ, Act.put, List.setIfInBounds_toArray, List.set_cons_zero, List.set_cons_succ]
        refine wpAnyH_take (i := 3) (oi := _) (v := ?va3) rfl (by kernel_rfl) (by kernel_rfl) (by kernel_rfl) (fun _ _ _ h => h) (Or.inl ⟨by rfl, ?hya3⟩) (by assumption) ?resta3
        case hya3 => (intro w hSw; (try dsimp only at hSw); go_split_ands; go_simp; try (with_reducible rfl))
        try simp only [List.getElem_toArray, List.getElem_cons_zero, List.getElem_cons_succ, Act.put, List.setIfInBounds_toArray, List.set_cons_zero, List.set_cons_succ]
        refine wpAnyH_take (i := 4) (oi := _) (v := ?va4) rfl (by kernel_rfl) (by kernel_rfl) (by kernel_rfl) (fun _ _ _ h => h) (Or.inl ⟨by rfl, ?hya4⟩) (by assumption) ?resta4
        case hya4 => (intro w hSw; (try dsimp only at hSw); go_split_ands; go_simp; try (with_reducible rfl))
        try simp only [List.getElem_toArray, List.getElem_cons_zero, List.getElem_cons_succ, Act.put, List.setIfInBounds_toArray, List.set_cons_zero, List.set_cons_succ]
        refine wpAnyH_take (i := 5) (oi := _) (v := ?va5) rfl (by kernel_rfl) (by kernel_rfl) (by kernel_rfl) (fun _ _ _ h => h) (Or.inl ⟨by rfl, ?hya5⟩) (by assumption) ?resta5
        case hya5 => (intro w hSw; (try dsimp only at hSw); go_split_ands; go_simp; try (with_reducible rfl))
        try simp only [List.getElem_toArray, List.getElem_cons_zero, List.getElem_cons_succ, Act.put, List.setIfInBounds_toArray, List.set_cons_zero, List.set_cons_succ]
        refine wpAnyH_take (i := 6) (oi := _) (v := ?va6) rfl (by kernel_rfl) (by kernel_rfl) (by kernel_rfl) (fun _ _ _ h => h) (Or.inl ⟨by rfl, ?hya6⟩) (by assumption) ?resta6
        case hya6 => (intro w hSw; (try dsimp only at hSw); go_split_ands; go_simp; try (with_reducible rfl))
        try simp only [List.getElem_toArray, List.getElem_cons_zero, List.getElem_cons_succ, Act.put, List.setIfInBounds_toArray, List.set_cons_zero, List.set_cons_succ]
        refine wpAnyH_take (i := 7) (oi := _) (v := ?va7) rfl (by kernel_rfl) (by kernel_rfl) (by kernel_rfl) (fun _ _ _ h => h) (Or.inl ⟨by rfl, ?hya7⟩) (by assumption) ?resta7
        case hya7 => (intro w hSw; (try dsimp only at hSw); go_split_ands; go_simp; try (with_reducible rfl))
        try simp only [List.getElem_toArray, List.getElem_cons_zero, List.getElem_cons_succ, Act.put, List.setIfInBounds_toArray, List.set_cons_zero, List.set_cons_succ]
        refine wpAnyH_take (i := 8) (oi := _) (v := .agg tv.cs) rfl (by kernel_rfl) (by kernel_rfl) (by kernel_rfl) (fun _ _ _ h => h) (yldOo o38 (by rfl) _ rfl tb (toff + nn * 19) rfl tv TA.out (fun w h => h.2.out)) (by assumption) ?_
        try simp only [List.getElem_toArray, List.getElem_cons_zero, List.getElem_cons_succ, Act.put, List.setIfInBounds_toArray, List.set_cons_zero, List.set_cons_succ]
        refine wpAnyH_take (i := 9) (oi := _) (v := ?va9) rfl (by kernel_rfl) (by kernel_rfl) (by kernel_rfl) (fun _ _ _ h => h) (Or.inl ⟨by rfl, ?hya9⟩) (by assumption) ?resta9
        case hya9 => (intro w hSw; (try dsimp only at hSw); go_split_ands; go_simp; try (with_reducible rfl))
        try simp only [List.getElem_toArray, List.getElem_cons_zero, List.getElem_cons_succ, Act.put, List.setIfInBounds_toArray, List.set_cons_zero, List.set_cons_succ]
        refine wpAnyH_take (i := 10) (oi := _) (v := ?va10) rfl (by kernel_rfl) (by kernel_rfl) (by kernel_rfl) (fun _ _ _ h => h) (Or.inl ⟨by rfl, ?hya10⟩) (by assumption) ?resta10
        case hya10 => (intro w hSw; (try dsimp only at hSw); go_split_ands; go_simp; try (with_reducible rfl))
        try simp only [List.getElem_toArray, List.getElem_cons_zero, List.getElem_cons_succ, Act.put, List.setIfInBounds_toArray, List.set_cons_zero, List.set_cons_succ]
        refine wpAnyH_take (i := 11) (oi := _) (v := ?va11) rfl (by kernel_rfl) (by kernel_rfl) (by kernel_rfl) (fun _ _ _ h => h) (Or.inl ⟨by rfl, ?hya11⟩) (by assumption) ?resta11
        case hya11 => (intro w hSw; (try dsimp only at hSw); go_split_ands; go_simp; try (with_reducible rfl))
        try simp only [List.getElem_toArray, List.getElem_cons_zero, List.getElem_cons_succ, Act.put, List.setIfInBounds_toArray, List.set_cons_zero, List.set_cons_succ]
        refine wpAnyH_take (i := 12) (oi := _) (v := ?va12) rfl (by kernel_rfl) (by kernel_rfl) (by kernel_rfl) (fun _ _ _ h => h) (Or.inl ⟨by rfl, ?hya12⟩) (by assumption) ?resta12
        case hya12 => (intro w hSw; (try dsimp only at hSw); go_split_ands; go_simp; try (with_reducible rfl))
        try simp only [List.getElem_toArray, List.getElem_cons_zero, List.getElem_cons_succ, Act.put, List.setIfInBounds_toArray, List.set_cons_zero, List.set_cons_succ]
        refine wpAnyH_take (i := 13) (oi := _) (v := ?va13) rfl (by kernel_rfl) (by kernel_rfl) (by kernel_rfl) (fun _ _ _ h => h) (Or.inl ⟨by rfl, ?hya13⟩) (by assumption) ?resta13
        case hya13 => (intro w hSw; (try dsimp only at hSw); go_split_ands; go_simp; try (with_reducible rfl))
        try simp only [List.getElem_toArray, List.getElem_cons_zero, List.getElem_cons_succ, Act.put, List.setIfInBounds_toArray, List.set_cons_zero, List.set_cons_succ]
        refine wpAnyH_take (i := 14) (oi := _) (v := ?va14) rfl (by kernel_rfl) (by kernel_rfl) (by kernel_rfl) (fun _ _ _ h => h) (Or.inl ⟨by rfl, ?hya14⟩) (by assumption) ?resta14
        case hya14 => (intro w hSw; (try dsimp only at hSw); go_split_ands; go_simp; try (with_reducible rfl))
        try simp only [List.getElem_toArray, List.getElem_cons_zero, List.getElem_cons_succ, Act.put, List.setIfInBounds_toArray, List.set_cons_zero, List.set_cons_succ]
        refine wpAnyH_ready (rs := [15]) (by kernel_rfl) (by simp) ?_
        refine AllReadyH.cons (o := _) rfl (fun K hK => ?_) AllReadyH.nil
        go_simp
        refine (optOf_any (some ⟨xb, xoff + i * 19, none⟩) 1 (xc - i) [o] _ (XO.out.below (bdrew (Below.refl _ _) 1)) (by decide)).mono ?_
        rintro e w7 ⟨ya, yc, rfl, hY, hb7⟩
        have bb7 : Below wr.heap.size wr w7 := bthen (bdrew (Below.refl _ _) 1) hb7
        have R7 := hid (RX.out.below bb7)
        have c7 := (R7.out.cell 27).trans (Mv.at27 HA.out)
        rw [E1.out, E2.out, E3.out] at c7
        have TP7 := hid (TP.out.below bb7)
        have TV7 := hid (TV.out.below bb7)
        have B7 := hid (bthen HB.out bb7)
        have Y7 := hid hY
        obtain ⟨yb, yoff, rfl, hyp⟩ := Y7.out.cell 0 (by decide)
        have YP := hid hyp
        rw [show ([o] : List Ov).getD 0 Ov.zero = o from rfl] at YP
        clear hb7 hY hyp
        go_wp2_with fail
        refine hK.out _ _ ⟨c7, TP7.out⟩ (fun hHeld => ?_)
        clear hK K
        try simp only [List.getElem_toArray, List.getElem_cons_zero, List.getElem_cons_succ, Act.put, List.setIfInBounds_toArray, List.set_cons_zero, List.set_cons_succ]
        refine wpAnyH_take (i := 16) (oi := _) (v := ?va16) rfl (by kernel_rfl) (by kernel_rfl) (by kernel_rfl) (fun _ _ _ h => h) (Or.inl ⟨by rfl, ?hya16⟩) (by assumption) ?resta16
        case hya16 => (intro w hSw; (try dsimp only at hSw); go_split_ands; go_simp; try (with_reducible rfl))
        try simp only [List.getElem_toArray, List.getElem_cons_zero, List.getElem_cons_succ, Act.put, List.setIfInBounds_toArray, List.set_cons_zero, List.set_cons_succ]
        refine wpAnyH_ready (rs := [17]) (by kernel_rfl) (by simp) ?_
        refine AllReadyH.cons (o := _) rfl (fun K hK => ?_) AllReadyH.nil
        refine step_ldO o38 _ rfl (by rfl) yb yoff rfl o OA.out (by simpa using YP.out) ?_
        refine hK.out _ _ ⟨c7, TP7.out⟩ (fun hHeld => ?_)
        clear hK K
        try simp only [List.getElem_toArray, List.getElem_cons_zero, List.getElem_cons_succ, Act.put, List.setIfInBounds_toArray, List.set_cons_zero, List.set_cons_succ]
        refine wpAnyH_ready (rs := [18]) (by kernel_rfl) (by simp) ?_
        refine AllReadyH.cons (o := _) rfl (fun K hK => ?_) AllReadyH.nil
        go_simp
        refine (optRefSame_any tv o _ TV7.out (Y7.out.ok o (by simp))).mono ?_
        rintro e w8 ⟨rfl, hb8⟩
        have R8 := hid (R7.out.below hb8)
        have c8 := (R8.out.cell 27).trans (Mv.at27 HA.out)
        rw [E1.out, E2.out, E3.out] at c8
        have TP8 := hid (TP7.out.below hb8)
        have B8 := hid (bthen B7.out hb8)
        clear hb8
        rw [HEq.out]
        go_wp2_with fail
        refine hK.out _ _ ⟨c8, TP8.out⟩ (fun hHeld => ?_)
        clear hK K
        try simp only [List.getElem_toArray, List.getElem_cons_zero, List.getElem_cons_succ, Act.put, List.setIfInBounds_toArray, List.set_cons_zero, List.set_cons_succ]
        refine wpAnyH_take (i := 19) (oi := _) (v := ?va19) rfl (by kernel_rfl) (by kernel_rfl) (by kernel_rfl) (fun _ _ _ h => h) (Or.inl ⟨by rfl, ?hya19⟩) (by assumption) ?resta19
        case hya19 => (intro w hSw; (try dsimp only at hSw); go_split_ands; go_simp; try (with_reducible rfl))
        try simp only [List.getElem_toArray, List.getElem_cons_zero, List.getElem_cons_succ, Act.put, List.setIfInBounds_toArray, List.set_cons_zero, List.set_cons_succ]
        refine wpAnyH_take (i := 20) (oi := _) (v := ?va20) rfl (by kernel_rfl) (by kernel_rfl) (by kernel_rfl) (fun _ _ _ h => h) (Or.inl ⟨by rfl, ?hya20⟩) (by assumption) ?resta20
        case hya20 => (intro w hSw; (try dsimp only at hSw); go_split_ands; go_simp; try (with_reducible rfl))
        try simp only [List.getElem_toArray, List.getElem_cons_zero, List.getElem_cons_succ, Act.put, List.setIfInBounds_toArray, List.set_cons_zero, List.set_cons_succ]
        refine wpAnyH_done (by kernel_rfl) ?_ _
        clear hw1 hb0 hb1 hb2 hb3 hb4
        go_wp2_with fail
        go_roundw
        case rel => exact ⟨i + 1, by omega, by go_num, by rw [HYY.out, List.length_append, HNN.out]; go_num, B8.out⟩
        case measure => simp [intOf]; omega
      · have e5 : (o.k != 5) = true := by rw [bne_iff_ne]; exact h5
        have hh : hitB [5] o.p.k = false := by rw [HK5.out]; simp [h5]
        have HNo := hid (HN.out hh)
        clear hh h5 HG HY HN
        go_wp2_with fail
        go_roundw
        case rel => exact ⟨i + 1, by omega, by go_num, by rw [HNo.out, HNN.out], HB.out⟩
        case measure => simp [intOf]; omega
    · obtain rfl : i = xn := by omega
      have V6 := hid (V5.out.below HB.out)
      have B6 := hid (bthen B5.out HB.out)
      rw [List.take_of_length_le (by rw [pos_len, HXL.out]; exact Nat.le_refl _), ← HTp.out, pos_len, HTl.out]
      clear X5 V5 XO5 L5 B5
      go_wp2_with fail
      refine (cLawKnown_any _ V6.out).mono ?_
      rintro e w6 ⟨rfl, hb6⟩
      have V7 := hid (V6.out.below hb6)
      have B7 := hid (bthen B6.out hb6)
      clear hb6 V6 B6
      go_wp2_with fail
      refine (cword_any code _ V7.out).mono ?_
      rintro e w7 ⟨rfl, rfl⟩
      rw [HW.out]
      go_wp2_with fail
      refine (may_any code kind _ V7.out).mono ?_
      rintro e w7 ⟨rfl, rfl⟩
      go_wp2_with fail
      refine (refMay_any code kind _).mono ?_
      rintro e w8 ⟨rfl, hb8⟩
      have B8 := hid (bthen B7.out hb8)
      clear hb8
      go_wp2_with fail
      go_ret
      exact ⟨rfl, B8.out⟩
theorem tells_walk (m : Mv) (code kind : Int) (w : World) (hm : m.ok w ∧ Wfo m.L) (hc : (Lit.int .i64 code).wf = true) (hk : (Lit.int .i64 kind).wf = true) (hV : CV w.heap.size w) :
    Calls Tryd.prog 5 #[.agg m.cs, .int .i64 code, .int .i64 kind] w fun e w' => e = .returned (.bool true) ∧ Below w.heap.size w w' := by
  by_cases h0 : 0 ≤ code
  · by_cases h1 : code < 4
    · exact tells_in m code kind w hm hV h0 h1
    · exact tells_big m code kind w hm hV (by omega)
  · exact tells_neg m code kind w hm hV (by omega)
end Go.Proofs.YtbfjkhafdkhhmaaDoor
