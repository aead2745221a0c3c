/- Whether options may be: allMay. · Has a message what its code has? known, formed, within, allowed. · Is each value of a message one that may be there? within. · Fields in numbers: how they are put together, and how they are taken. · The bytes of a message ahead of its options: head. · How a message is checked: a chain that goes on till something is wrong. · The law's options: To. · The chapter's examples. -/
import Derived.Test.YtbklpelikaapoaaGreatDoorM3
import Derived.Laws.BitsAllLaws
namespace Go.Proofs.YtbklpelikaapoaaGreatDoor
open Go.ChangeShapes Go.WideShapes Go.ChangeAt Go.RowKit Go.Deep
set_option linter.unusedVariables false
set_option linter.unusedSimpArgs false

theorem allMay1_any {B : Nat} (o : Ov) (g : Nat) (c : Int) (w : World) (hc : w.cell? ⟨g, 0, none⟩ = some (.int .i64 c)) (hV : CV B w) :
    Calls Tryz.prog 151 #[.agg o.cs, .pointer (some ⟨g, 0, none⟩)] w fun e w' => e = .returned (.bool (!mayB c o.k)) ∧ Below w.heap.size w w' := by
  have HR0 := hid (Row.new w 140 o.cs)
  have B0 := hid (balloc (Below.refl w.heap.size w) (.cells o.cs 140))
  have V0 := hid (hV.below B0.out)
  have C0 := hid ((B0.out.cell (p := ⟨g, 0, none⟩) (World.block_lt_of_cell? w _ hc)).trans hc)
  clear hV hc
  go_enter Tryz.func151, Tryz.ntmps151
  go_upto_region 1 with fail
  generalize hw1 : w.alloc (.cells o.cs 140) = w1 at *
  have c0 := (HR0.out.cell 0).trans o.at0
  have d0 := C0.out
  clear hw1
  go_wp2_with fail
  refine (may_any c o.k _ V0.out).mono ?_
  rintro e w1 ⟨rfl, rfl⟩
  go_wp2_with fail
  go_ret
  exact ⟨rfl, B0.out⟩
/-- Where is the first option that may not be? -/
def notAt (c : Int) (L : List Ov) (r : Int) : Prop := (r = -1 ∧ ∀ o ∈ L, mayB c o.k = true) ∨ ∃ i : Nat, i < L.length ∧ r = i ∧ mayB c (L.getD i Ov.zero).k = false
set_option maxRecDepth 100000 in
set_option maxHeartbeats 800000 in
theorem indexMay_any {B : Nat} (a : Option Addr) (n cap : Nat) (L : List Ov) (g : Nat) (c : Int) (w : World) (hL : Opts w a n cap L) (hc : w.cell? ⟨g, 0, none⟩ = some (.int .i64 c)) (hV : CV B w) :
    Calls Tryz.prog 159 #[.slice a n cap, .func (.func 151) #[] #[.pointer (some ⟨g, 0, none⟩)]] w fun e w' => (∃ r : Int, e = .returned (.int .i64 r) ∧ Hid (notAt c L r)) ∧ Below w.heap.size w w' := by
  have k1 := Nat.le_trans hL.le hL.max
  unfold maxLen at k1
  have HL := hid hL
  have HV := hid hV
  have HC := hid hc
  have ll := hid hL.len
  clear hL hV hc
  go_enter Tryz.func159, Tryz.ntmps159
  go_wp2_with fail
  go_loopw [8] (fun i wr => ∃ j : Nat, j ≤ n ∧ i = .int .i64 j ∧ Hid (∀ i, i < j → mayB c (L.getD i Ov.zero).k = true) ∧ Hid (Below w.heap.size w wr)) (fun i _ => n - (intOf i).toNat)
  case atStart => exact ⟨0, Nat.zero_le _, rfl, (fun i hi => by omega), Below.refl _ _⟩
  case round =>
    obtain ⟨j, hj, rfl, hno, hb⟩ := hrel
    by_cases hlt : j < n
    · have hlt' : (j : Int) < (n : Int) := by omega
      obtain ⟨b1, off1, rfl, hp1⟩ := (HL.out.below hb.out).cell j hlt
      have ok1 := (HL.out.below hb.out).at j hlt
      generalize hoo : L.getD j Ov.zero = o at *
      have HOO := hid hoo
      have P1 := hid hp1
      have A1 := hid ok1.ad
      have V1 := hid (HV.out.below hb.out)
      have C1 := hid ((hb.out.cell (p := ⟨g, 0, none⟩) (World.block_lt_of_cell? w _ HC.out)).trans HC.out)
      clear hp1 ok1 hoo
      go_wp2_with (refine ldOo o43 _ rfl rfl _ _ rfl o A1.out P1.out ?_)
      refine (allMay1_any o g c _ C1.out V1.out).mono ?_
      rintro e w2 ⟨rfl, hb2⟩
      have B2 := hid (bthen hb.out hb2)
      clear hb2
      cases hh : mayB c o.k
      · go_wp2_with fail
        go_ret
        refine ⟨⟨_, rfl, .inr ⟨j, by rw [ll.out]; exact hlt, rfl, by rw [HOO.out]; exact hh⟩⟩, B2.out⟩
      · go_wp2_with fail
        go_roundw
        case rel =>
          refine ⟨j + 1, by omega, by go_num, ?_, B2.out⟩
          intro i hi
          by_cases hij : i = j
          · rw [hij, HOO.out]; exact hh
          · exact hno.out i (by omega)
        case measure => simp [intOf]; omega
    · obtain rfl : j = n := by omega
      go_wp2_with fail
      go_ret
      refine ⟨⟨_, rfl, .inl ⟨rfl, fun o ho => ?_⟩⟩, hb.out⟩
      obtain ⟨i, hi, rfl⟩ := List.mem_iff_getElem.1 ho
      have := hno.out i (by rw [← ll.out]; exact hi)
      simpa [hi] using this
theorem notAt_all {c : Int} {L : List Ov} {r : Int} (h : notAt c L r) : decide (0 ≤ r) = !allM c (pos L) := by
  rcases h with ⟨rfl, h⟩ | ⟨i, hi, rfl, h⟩
  · have : allM c (pos L) = true := by simp [allM, pos]; exact h
    rw [this]; rfl
  · have : allM c (pos L) = false := by
      rw [allM, List.all_eq_false]
      refine ⟨(L.getD i Ov.zero).p, ?_, by simpa [Ov.p] using h⟩
      simp [pos, hi]
      exact ⟨L[i], List.getElem_mem _, rfl⟩
    rw [this]; simp
theorem containsMay_any {B : Nat} (a : Option Addr) (n cap : Nat) (L : List Ov) (g : Nat) (c : Int) (w : World) (hL : Opts w a n cap L) (hc : w.cell? ⟨g, 0, none⟩ = some (.int .i64 c)) (hV : CV B w) :
    Calls Tryz.prog 150 #[.slice a n cap, .func (.func 151) #[] #[.pointer (some ⟨g, 0, none⟩)]] w fun e w' => e = .returned (.bool (!allM c (pos L))) ∧ Below w.heap.size w w' := by
  have HL := hid hL
  have HV := hid hV
  have HC := hid hc
  clear hL hV hc
  go_enter Tryz.func150, Tryz.ntmps150
  go_wp2_with fail
  refine (indexMay_any a n cap L g c _ HL.out HC.out HV.out).mono ?_
  rintro e w1 ⟨⟨r, rfl, hr⟩, hb⟩
  have HB := hid hb
  have HR := hid (notAt_all hr.out)
  clear hr hb
  go_wp2_with fail
  go_ret
  exact ⟨ret_bool HR.out, HB.out⟩
theorem allMay_any {B : Nat} (c : Int) (a : Option Addr) (n cap : Nat) (L : List Ov) (w : World) (hL : Opts w a n cap L) (hV : CV B w) :
    Calls Tryz.prog 138 #[.int .i64 c, .slice a n cap] w fun e w' => e = .returned (.bool (allM c (pos L))) ∧ Below w.heap.size w w' := by
  have hmf : ∀ (fn : Fn) (first cap : Array Value) (w : World), (Instr.makeFunc fn first cap).run Tryz.prog w = .ok (.func fn first cap) w := fun _ _ _ _ => rfl
  have C0 := hid (((Row.new w 3 #[.int .i64 c]).cell 0).trans rfl)
  have B0 := hid (balloc (Below.refl w.heap.size w) (.cells #[.int .i64 c] 3))
  have L0 := hid (hL.below B0.out)
  have V0 := hid (hV.below B0.out)
  clear hL hV
  go_enter Tryz.func138, Tryz.ntmps138
  go_wp2_with fail
  generalize hw1 : w.alloc (.cells #[.int .i64 c] 3) = w1 at *
  clear hw1
  refine (containsMay_any a n cap L w.heap.size c _ L0.out C0.out V0.out).mono ?_
  rintro e w2 ⟨rfl, hb⟩
  have B2 := hid (bthen B0.out hb)
  clear hb
  go_wp2_with fail
  go_ret
  exact ⟨ret_bool (by simp), B2.out⟩
end Go.Proofs.YtbklpelikaapoaaGreatDoor

namespace Go.Proofs.YtbklpelikaapoaaGreatDoor
open Go.ChangeShapes Go.WideShapes Go.ChangeAt Go.RowKit Go.Deep
set_option linter.unusedVariables false
set_option linter.unusedSimpArgs false

/-- A message and values beside each other, in memory of the call's own. -/
structure FAt (W w : World) (g1 g3 : Nat) (m : Mv) (v : List Int) : Prop where
  r1 : Row w g1 38 m.cs
  r3 : Row w g3 103 (nArr v)
  len : v.length = 11
  below : Below W.heap.size W w
  ne : g1 ≠ g3
  lo : W.heap.size ≤ g3
section
variable {W w w' : World} {g1 g3 : Nat} {m : Mv} {v : List Int}
theorem FAt.on (h : FAt W w g1 g3 m v) (hb : Below w.heap.size w w') : FAt W w' g1 g3 m v := ⟨h.r1.below hb, h.r3.below hb, h.len, bthen h.below hb, h.ne, h.lo⟩
theorem FAt.set (h : FAt W w g1 g3 m v) (j : Nat) (x : Int) : FAt W (w.setCell ⟨g3, j, none⟩ (.int .i64 x)) g1 g3 m (v.set j x) :=
  ⟨h.r1.other ⟨g3, j, none⟩ _ h.ne, by have := h.r3.set j (.int .i64 x); rwa [nArr_set] at this, by rw [List.length_set]; exact h.len, bset j _ h.below h.lo, h.ne, h.lo⟩
theorem FAt.cell (h : FAt W w g1 g3 m v) (j : Nat) (hj : j < 11) : w.cell? ⟨g3, j, none⟩ = some (.int .i64 (v.getD j 0)) := (h.r3.cell j).trans (nArr_at v j (by rw [h.len]; exact hj))
end
theorem cKnown_any (m : Mv) (w : World) : Calls Tryz.prog 120 #[.agg m.cs] w fun e w' => e = .returned (.bool (codB m.c)) ∧ Below w.heap.size w w' := by
  have R1 := hid (Row.new w 38 m.cs)
  have B1 := hid (balloc (Below.refl w.heap.size w) (.cells m.cs 38))
  go_enter Tryz.func120, Tryz.ntmps120
  go_upto_region 1 with fail
  generalize hw1 : w.alloc (.cells m.cs 38) = w1 at *
  clear hw1
  have c0 := (R1.out.cell 0).trans m.at0
  go_wp2_with fail
  refine (isCode_any _ _).mono ?_
  rintro e w1 ⟨rfl, rfl⟩
  go_wp2_with fail
  go_ret
  exact ⟨rfl, B1.out⟩
theorem cAllowed_any {B : Nat} (m : Mv) (w : World) (hm : m.ok w) (hV : CV B w) : Calls Tryz.prog 123 #[.agg m.cs] w fun e w' => e = .returned (.bool (allM m.c m.p.o)) ∧ Below w.heap.size w w' := by
  have R1 := hid (Row.new w 38 m.cs)
  have B1 := hid (balloc (Below.refl w.heap.size w) (.cells m.cs 38))
  have L1 := hid (hm.o.below B1.out)
  have V1 := hid (hV.below B1.out)
  have HA := hid hm.ro
  clear hm hV
  go_enter Tryz.func123, Tryz.ntmps123
  go_upto_region 1 with fail
  generalize hw1 : w.alloc (.cells m.cs 38) = w1 at *
  clear hw1
  have c0 := (R1.out.cell 0).trans m.at0
  have c27 := (R1.out.cell 27).trans (Mv.at27 HA.out)
  go_wp2_with fail
  refine (allMay_any m.c m.oa m.on m.oc m.L _ L1.out V1.out).mono ?_
  rintro e w2 ⟨rfl, hb⟩
  have B2 := hid (bthen B1.out hb)
  clear hb
  go_wp2_with fail
  go_ret
  exact ⟨rfl, B2.out⟩
theorem clrP_succ (ps : List Pa) (v : List Int) (j : Nat) (h : j < ps.length) : clrP (ps.take (j + 1)) v = clrF (ps.getD j Pa.none).f (clrP (ps.take j) v) := by
  rw [clrP, clrP, List.take_succ_eq_append_getElem h, List.foldl_append]; simp [h]
theorem clrF_succ (fs : List Fl) (v : List Int) (j : Nat) (h : j < fs.length) : clrF (fs.take (j + 1)) v = (clrF (fs.take j) v).set (fs.getD j Fl.none).p 0 := by
  rw [clrF, clrF, List.take_succ_eq_append_getElem h, List.foldl_append]; simp [h]
theorem cpa_len : ∀ k, k < 4 → (cpa k).length ≤ 6 ∧ ∀ i, i < (cpa k).length → ((cpa k).getD i Pa.none).f.length ≤ 3 ∧ ∀ j, j < ((cpa k).getD i Pa.none).f.length → (((cpa k).getD i Pa.none).f.getD j Fl.none).p < 11 ∧ (((cpa k).getD i Pa.none).f.getD j Fl.none).s < 8 ∧ (((cpa k).getD i Pa.none).f.getD j Fl.none).l < 65536 := by decide
set_option maxRecDepth 100000 in
set_option maxHeartbeats 1600000 in
theorem cFormed_any {B : Nat} (m : Mv) (w : World) (hm : m.ok w) (hV : CV B w) (hc : codB m.c = true) : Calls Tryz.prog 121 #[.agg m.cs] w fun e w' => e = .returned (.bool (frmV m.c.toNat m.p.vs)) ∧ Below w.heap.size w w' := by
  have hz := zvl
  obtain ⟨k, hk, hk4⟩ := cod_nat hc
  have hB := hid hV.le
  have HV := hid hV
  have HA := hid hm.ro
  have HC := hid hk
  have HFr : Hid (frmV k m.p.vs = ((if crt k = true then (clrP (cpa k) m.p.vs).set 10 0 else clrP (cpa k) m.p.vs) == zer11)) := rfl
  have HK4 := hid hk4
  have hk4' : (k : Int) < 4 := by omega
  have R1 := hid (Row.new w 38 m.cs)
  have B1 := hid (balloc (Below.refl w.heap.size w) (.cells m.cs 38))
  have hL := hid (cpa_len k hk4)
  obtain ⟨pa, pn, pc, c1, hP0⟩ := hV.c.parts k hk4
  have hpn : pn ≤ 6 := by rw [← hP0.len]; exact hL.out.1
  have hPL := hid hP0.len
  have c2 := hid (hV.c.root k hk4)
  have C1 := hid c1
  have HP := hid hP0
  rw [show m.c.toNat = k by omega]
  clear hV hm hc hP0 c1 hk
  go_enter Tryz.func121, Tryz.ntmps121
  go_upto_region 1 with fail
  generalize hw1 : w.alloc (.cells m.cs 38) = w1 at *
  generalize hg1 : w.heap.size = g1 at *
  clear hw1
  go_wp2_with (refine ldM m29 _ rfl rfl _ _ rfl m HA.out R1.out.part ?_)
  refine (valuesOf_any m _ HA.out).mono ?_
  rintro e w2 ⟨rfl, hb2⟩
  have R2 := hid (R1.out.below hb2)
  have B2 : Hid (Below g1 w w2) := hid (B1.out.trans (hb2.mono (by rw [← hg1]; exact B1.out.size)))
  clear hb2 R1 B1
  have Z2 := hid (layV_new w2 m.p.vs)
  have BZ := hid (layV_below w2 m.p.vs)
  go_upto_region 2 with (refine st74 _ _ rfl rfl w2.heap.size m.p.vs rfl rfl rfl 103 zer11 rfl (Row.new w2 103 _) ?_)
  have F3 : Hid (FAt w ((w2.alloc (.cells (nArr zer11) 103)).setRow w2.heap.size (nArr m.p.vs)) g1 w2.heap.size m m.p.vs) :=
    ⟨R2.out.below BZ.out, Z2.out, rfl, by rw [hg1]; exact B2.out.trans (BZ.out.mono (by rw [← hg1]; exact B2.out.size)), Nat.ne_of_lt R2.out.lt, B2.out.size⟩
  generalize hw3 : (w2.alloc (.cells (nArr zer11) 103)).setRow w2.heap.size (nArr m.p.vs) = w3 at *
  generalize hg3 : w2.heap.size = g3 at *
  clear hw3 hg3 R2 B2 Z2 BZ hz
  have c0 := (F3.out.r1.cell 0).trans m.at0
  rw [HC.out] at c0
  have HT := hid (cells_below F3.out.below (by rw [hg1]; exact hB.out))
  have c1 : w3.cell? ⟨0, k * 4 + 1, none⟩ = _ := (HT.out _ _ HV.out.c.pos).trans C1.out
  go_wp2_with fail
  go_loopw [16] (fun i wr => ∃ (j : Nat) (v : List Int), j ≤ pn ∧ i = .int .i64 j ∧ Hid (v = clrP ((cpa k).take j) m.p.vs) ∧ Hid (FAt w wr g1 g3 m v)) (fun i _ => pn - (intOf i).toNat)
  case atStart => exact ⟨0, m.p.vs, Nat.zero_le _, rfl, rfl, F3.out⟩
  case round =>
    obtain ⟨j, v, hj, rfl, HVv, F⟩ := hrel
    clear c1 c0
    by_cases hlt : j < pn
    · have hlt' : (j : Int) < (pn : Int) := by omega
      obtain ⟨b, off, ha, hbB, hcz, fa, fn, fc, hcf, hF0⟩ := (HP.out.same (cells_below F.out.below (by rw [hg1]; exact hB.out))).cell j hlt
      have hjl : j < (cpa k).length := by rw [hPL.out]; exact hlt
      have hLj := hid (hL.out.2 j hjl)
      have HS := hid (clrP_succ (cpa k) m.p.vs j hjl)
      rw [← HVv.out] at HS
      generalize (cpa k).getD j Pa.none = p at *
      have HF := hid (hF0.same (w' := w) (fun b o h => ((cells_below F.out.below (by rw [hg1]; exact hB.out)) b o h).symm))
      have HFL := hid hF0.len
      have hfn : fn ≤ 3 := by rw [← HFL.out]; exact hLj.out.1
      subst ha
      clear hF0 hjl
      go_wp2_with fail
      have F4 := hid (F.out.on (balloc (Below.refl wr.heap.size wr) (.cells #[.int .i64 p.z, .slice fa fn fc] 200)))
      generalize wr.alloc (.cells #[.int .i64 p.z, .slice fa fn fc] 200) = w4 at *
      clear hcz hcf
      go_loopw [23] (fun i wr => ∃ (q : Nat) (u : List Int), q ≤ fn ∧ i = .int .i64 q ∧ Hid (u = clrF (p.f.take q) v) ∧ Hid (FAt w wr g1 g3 m u)) (fun i _ => fn - (intOf i).toNat)
      case atStart => exact ⟨0, v, Nat.zero_le _, rfl, rfl, F4.out⟩
      case round =>
        obtain ⟨q, u, hq, rfl, HUu, FF⟩ := hrel
        by_cases hqt : q < fn
        · have hqt' : (q : Int) < (fn : Int) := by omega
          obtain ⟨b2, off2, hfa, hb2, e0, e1, e2⟩ := (HF.out.same (cells_below FF.out.below (by rw [hg1]; exact hB.out))).cell q hqt
          have hqf : q < p.f.length := by rw [HFL.out]; exact hqt
          have hb3 := (hLj.out.2 q hqf).1
          have HS2 := hid (clrF_succ p.f v q hqf)
          rw [← HUu.out] at HS2
          generalize p.f.getD q Fl.none = f at *
          obtain ⟨fp, fs, fl⟩ := f
          simp only at e0 e1 e2 hb3 HS2
          have hp11' : (fp : Int) < 11 := by omega
          subst hfa
          have FO := hid (FF.out.on (balloc (Below.refl wr.heap.size wr) (.cells #[.int .i64 fp, .int .i64 fs, .int .i64 fl] 202)))
          have RF := hid (Row.new wr 202 #[.int .i64 fp, .int .i64 fs, .int .i64 fl])
          clear hqf
          go_upto_region 8 with fail
          generalize wr.alloc (.cells #[.int .i64 fp, .int .i64 fs, .int .i64 fl] 202) = w5 at *
          generalize wr.heap.size = g5 at *
          clear e0 e1 e2
          have d0 := (RF.out.cell 0).trans rfl
          have d3 := FO.out.cell fp hb3
          have f3 := FO.out.r3.frozen fp
          go_wp2_with fail
          go_roundw
          case rel => exact ⟨q + 1, u.set fp 0, by omega, by go_num, by rw [Hid, HS2.out], FO.out.set fp 0⟩
          case measure => simp [intOf]; omega
        · obtain rfl : q = fn := by omega
          rw [List.take_of_length_le (by rw [HFL.out]; exact Nat.le_refl _)] at HUu
          go_wp2_with fail
          go_roundw
          case rel => exact ⟨j + 1, u, by omega, by go_num, by rw [Hid, HS.out]; exact HUu.out, FF.out⟩
          case measure => simp [intOf]; omega
    · obtain rfl : j = pn := by omega
      rw [List.take_of_length_le (by rw [hPL.out]; exact Nat.le_refl _)] at HVv
      rw [← HVv.out] at HFr
      have HT2 := hid (cells_below F.out.below (by rw [hg1]; exact hB.out))
      have c0 := (F.out.r1.cell 0).trans m.at0
      rw [HC.out] at c0
      have c3 : wr.cell? ⟨0, k * 4 + 2, none⟩ = _ := (HT2.out _ _ HV.out.c.pos).trans c2.out
      cases hcr : crt k
      · rw [hcr] at c3
        rw [hcr, if_neg (by decide)] at HFr
        have hq := eq74 v zer11 F.out.len rfl
        go_wp2_with (first | (refine ld74 _ rfl rfl _ _ rfl v F.out.len F.out.r3.part ?_) | (refine bd74z rfl rfl ?_))
        go_ret
        exact ⟨ret_bool HFr.out.symm, F.out.below⟩
      · rw [hcr] at c3
        rw [hcr, if_pos rfl] at HFr
        have d10 := F.out.cell 10 (by decide)
        have f10 := F.out.r3.frozen 10
        have F5 := hid (F.out.set 10 0)
        go_upto_region 13 with fail
        generalize wr.setCell ⟨g3, 10, none⟩ (.int .i64 0) = w5 at *
        clear c3 d10 f10 c0
        have hq := eq74 (v.set 10 0) zer11 F5.out.len rfl
        go_wp2_with (first | (refine ld74 _ rfl rfl _ _ rfl (v.set 10 0) F5.out.len F5.out.r3.part ?_) | (refine bd74z rfl rfl ?_))
        go_ret
        exact ⟨ret_bool HFr.out.symm, F5.out.below⟩
end Go.Proofs.YtbklpelikaapoaaGreatDoor

namespace Go.Proofs.YtbklpelikaapoaaGreatDoor
open Go.ChangeShapes Go.WideShapes Go.ChangeAt Go.RowKit Go.Deep
set_option linter.unusedVariables false
set_option linter.unusedSimpArgs false

theorem FAt.drewN {W w : World} {g1 g3 : Nat} {m : Mv} {v : List Int} (h : FAt W w g1 g3 m v) (q : Nat) : FAt W (w.drewN q) g1 g3 m v := h.on (bdrew (Below.refl _ _) q)
theorem all_snoc {α : Type} (l : List α) (d : α) (j : Nat) (h : j < l.length) (p : α → Bool) : (l.take (j + 1)).all p = ((l.take j).all p && p (l.getD j d)) := by
  rw [List.take_succ_eq_append_getElem h, List.all_append]; simp [h]
theorem all_no {α : Type} (l : List α) (d : α) (j : Nat) (h : j < l.length) (p : α → Bool) (hp : p (l.getD j d) = false) : l.all p = false := by
  rw [List.all_eq_false]; exact ⟨l[j], List.getElem_mem h, by simpa [h] using hp⟩
set_option maxRecDepth 100000 in
set_option maxHeartbeats 1600000 in
theorem cWithin_any {B : Nat} (m : Mv) (w : World) (hm : m.ok w) (hV : CV B w) (hc : codB m.c = true) : Calls Tryz.prog 122 #[.agg m.cs] w fun e w' => e = .returned (.bool (witV m.c.toNat m.p.vs)) ∧ Below w.heap.size w w' := by
  have hz := zvl
  obtain ⟨k, hk, hk4⟩ := cod_nat hc
  have hB := hid hV.le
  have HV := hid hV
  have HA := hid hm.ro
  have HC := hid hk
  have HFr : Hid (witV k m.p.vs = ((cpa k).all (inP m.p.vs) && (!crt k || m.p.vs.getD 10 0 == 1))) := rfl
  have HK4 := hid hk4
  have hk4' : (k : Int) < 4 := by omega
  have R1 := hid (Row.new w 38 m.cs)
  have B1 := hid (balloc (Below.refl w.heap.size w) (.cells m.cs 38))
  have hL := hid (cpa_len k hk4)
  obtain ⟨pa, pn, pc, c1, hP0⟩ := hV.c.parts k hk4
  have hpn : pn ≤ 6 := by rw [← hP0.len]; exact hL.out.1
  have hPL := hid hP0.len
  have c2 := hid (hV.c.root k hk4)
  have C1 := hid c1
  have HP := hid hP0
  rw [show m.c.toNat = k by omega]
  clear hV hm hc hP0 c1 hk
  go_enter Tryz.func122, Tryz.ntmps122
  go_upto_region 1 with fail
  generalize hw1 : w.alloc (.cells m.cs 38) = w1 at *
  generalize hg1 : w.heap.size = g1 at *
  clear hw1
  go_wp2_with (refine ldM m29 _ rfl rfl _ _ rfl m HA.out R1.out.part ?_)
  refine (valuesOf_any m _ HA.out).mono ?_
  rintro e w2 ⟨rfl, hb2⟩
  have R2 := hid (R1.out.below hb2)
  have B2 : Hid (Below g1 w w2) := hid (B1.out.trans (hb2.mono (by rw [← hg1]; exact B1.out.size)))
  clear hb2 R1 B1
  have Z2 := hid (layV_new w2 m.p.vs)
  have BZ := hid (layV_below w2 m.p.vs)
  go_upto_region 2 with (refine st74 _ _ rfl rfl w2.heap.size m.p.vs rfl rfl rfl 103 zer11 rfl (Row.new w2 103 _) ?_)
  have F3 : Hid (FAt w ((w2.alloc (.cells (nArr zer11) 103)).setRow w2.heap.size (nArr m.p.vs)) g1 w2.heap.size m m.p.vs) :=
    ⟨R2.out.below BZ.out, Z2.out, rfl, by rw [hg1]; exact B2.out.trans (BZ.out.mono (by rw [← hg1]; exact B2.out.size)), Nat.ne_of_lt R2.out.lt, B2.out.size⟩
  generalize hw3 : (w2.alloc (.cells (nArr zer11) 103)).setRow w2.heap.size (nArr m.p.vs) = w3 at *
  generalize hg3 : w2.heap.size = g3 at *
  clear hw3 hg3 R2 B2 Z2 BZ hz
  have c0 := (F3.out.r1.cell 0).trans m.at0
  rw [HC.out] at c0
  have HT := hid (cells_below F3.out.below (by rw [hg1]; exact hB.out))
  have c1 : w3.cell? ⟨0, k * 4 + 1, none⟩ = _ := (HT.out _ _ HV.out.c.pos).trans C1.out
  go_wp2_with fail
  generalize hvv : m.p.vs = v at *
  have HVV := hid hvv
  clear hvv
  go_loopw [16] (fun i wr => ∃ (j : Nat), j ≤ pn ∧ i = .int .i64 j ∧ Hid (((cpa k).take j).all (inP v) = true) ∧ Hid (FAt w wr g1 g3 m v)) (fun i _ => pn - (intOf i).toNat)
  case atStart => exact ⟨0, Nat.zero_le _, rfl, rfl, F3.out⟩
  case round =>
    obtain ⟨j, hj, rfl, HVv, F⟩ := hrel
    clear c1 c0
    by_cases hlt : j < pn
    · have hlt' : (j : Int) < (pn : Int) := by omega
      obtain ⟨b, off, ha, hbB, hcz, fa, fn, fc, hcf, hF0⟩ := (HP.out.same (cells_below F.out.below (by rw [hg1]; exact hB.out))).cell j hlt
      have hjl : j < (cpa k).length := by rw [hPL.out]; exact hlt
      have hLj := hid (hL.out.2 j hjl)
      have HS := hid (all_snoc (cpa k) Pa.none j hjl (inP v))
      have HN := hid (all_no (cpa k) Pa.none j hjl (inP v))
      rw [HVv.out] at HS
      generalize (cpa k).getD j Pa.none = p at *
      have HF := hid (hF0.same (w' := w) (fun b o h => ((cells_below F.out.below (by rw [hg1]; exact hB.out)) b o h).symm))
      have HFL := hid hF0.len
      have hfn : fn ≤ 3 := by rw [← HFL.out]; exact hLj.out.1
      subst ha
      clear hF0 hjl
      go_wp2_with fail
      have F4 := hid (F.out.on (balloc (Below.refl wr.heap.size wr) (.cells #[.int .i64 p.z, .slice fa fn fc] 200)))
      generalize wr.alloc (.cells #[.int .i64 p.z, .slice fa fn fc] 200) = w4 at *
      clear hcz hcf
      go_loopw [23] (fun i wr => ∃ (q : Nat), q ≤ fn ∧ i = .int .i64 q ∧ Hid ((p.f.take q).all (inF v) = true) ∧ Hid (FAt w wr g1 g3 m v)) (fun i _ => fn - (intOf i).toNat)
      case atStart => exact ⟨0, Nat.zero_le _, rfl, rfl, F4.out⟩
      case round =>
        obtain ⟨q, hq, rfl, HUu, FF⟩ := hrel
        by_cases hqt : q < fn
        · have hqt' : (q : Int) < (fn : Int) := by omega
          obtain ⟨b2, off2, hfa, hb2, e0, e1, e2⟩ := (HF.out.same (cells_below FF.out.below (by rw [hg1]; exact hB.out))).cell q hqt
          have hqf : q < p.f.length := by rw [HFL.out]; exact hqt
          have hb3 := (hLj.out.2 q hqf).1
          have hb4 := (hLj.out.2 q hqf).2.2
          have HS2 := hid (all_snoc p.f Fl.none q hqf (inF v))
          have HN2 := hid (all_no p.f Fl.none q hqf (inF v))
          rw [HUu.out] at HS2
          generalize p.f.getD q Fl.none = f at *
          obtain ⟨fp, fs, fl⟩ := f
          simp only at e0 e1 e2 hb3 hb4 HS2 HN2
          have hp11' : (fp : Int) < 11 := by omega
          have HIn : Hid (inF v ⟨fp, fs, fl⟩ = (decide (0 ≤ v.getD fp 0) && decide (v.getD fp 0 ≤ (fl : Int)))) := rfl
          subst hfa
          have FO := hid (FF.out.on (balloc (Below.refl wr.heap.size wr) (.cells #[.int .i64 fp, .int .i64 fs, .int .i64 fl] 202)))
          have RF := hid (Row.new wr 202 #[.int .i64 fp, .int .i64 fs, .int .i64 fl])
          clear hqf
          go_upto_region 8 with fail
          generalize wr.alloc (.cells #[.int .i64 fp, .int .i64 fs, .int .i64 fl] 202) = w5 at *
          generalize wr.heap.size = g5 at *
          clear e0 e1 e2
          have d0 := (RF.out.cell 0).trans rfl
          have d2 := (RF.out.cell 2).trans rfl
          have d3 := FO.out.cell fp hb3
          generalize v.getD fp 0 = z at d3 HIn
          by_cases h0 : z < 0
          · have e0 : decide (z < 0) = true := decide_eq_true h0
            go_quiet (fail)
            go_wp2_with fail
            go_ret
            refine ⟨ret_bool ?_, (FO.out.drewN _).below⟩
            have hi : inF v ⟨fp, fs, fl⟩ = false := by rw [HIn.out]; simp; omega
            rw [HVV.out, HFr.out, HN.out (HN2.out hi)]; rfl
          · have e0 : decide (z < 0) = false := decide_eq_false h0
            by_cases h1 : (fl : Int) < z
            · have e1 : decide ((fl : Int) < z) = true := decide_eq_true h1
              go_quiet (fail)
              go_wp2_with fail
              go_ret
              refine ⟨ret_bool ?_, by first | exact (FO.out.drewN _).below | (rw [← hg1]; exact (FO.out.drewN _).below)⟩
              have hi : inF v ⟨fp, fs, fl⟩ = false := by rw [HIn.out]; simp; omega
              rw [HVV.out, HFr.out, HN.out (HN2.out hi)]; rfl
            · have e1 : decide ((fl : Int) < z) = false := decide_eq_false h1
              go_quiet (fail)
              go_wp2_with fail
              go_roundw
              case rel => exact ⟨q + 1, by omega, by go_num, by rw [Hid, HS2.out, HIn.out]; simp; omega, FO.out.drewN _⟩
              case measure => simp [intOf]; omega
        · obtain rfl : q = fn := by omega
          rw [List.take_of_length_le (by rw [HFL.out]; exact Nat.le_refl _)] at HUu
          go_wp2_with fail
          go_roundw
          case rel => exact ⟨j + 1, by omega, by go_num, by rw [Hid, HS.out]; exact HUu.out, FF.out⟩
          case measure => simp [intOf]; omega
    · obtain rfl : j = pn := by omega
      rw [List.take_of_length_le (by rw [hPL.out]; exact Nat.le_refl _)] at HVv
      rw [HVv.out, Bool.true_and] at HFr
      have HT2 := hid (cells_below F.out.below (by rw [hg1]; exact hB.out))
      have c0 := (F.out.r1.cell 0).trans m.at0
      rw [HC.out] at c0
      have c3 : wr.cell? ⟨0, k * 4 + 2, none⟩ = _ := (HT2.out _ _ HV.out.c.pos).trans c2.out
      have d10 := F.out.cell 10 (by decide)
      cases hcr : crt k
      · rw [hcr] at c3 HFr
        go_wp2_with fail
        go_ret
        exact ⟨ret_bool (by rw [HVV.out, HFr.out]; rfl), F.out.below⟩
      · rw [hcr] at c3 HFr
        go_wp2_with fail
        go_ret
        exact ⟨ret_bool (by rw [HVV.out, HFr.out]; rfl), F.out.below⟩
end Go.Proofs.YtbklpelikaapoaaGreatDoor

namespace Go.Proofs.YtbklpelikaapoaaGreatDoor
open Go.ChangeShapes Go.WideShapes Go.ChangeAt Go.RowKit Go.Deep
set_option linter.unusedVariables false
set_option linter.unusedSimpArgs false

theorem wrap_small (n : Nat) (h : n < 9223372036854775808) : IntKind.i64.wrap (n : Int) = (n : Int) := by
  have e : (n : Int) % 2 ^ 64 = n := Int.emod_eq_of_lt (by omega) (by omega)
  simp only [IntKind.wrap, IntKind.bits, IntKind.signed, e]
  rw [if_neg]
  simp
  omega
theorem i64_or (a b : Nat) (ha : a < 9223372036854775808) (hb : b < 9223372036854775808) : bits .or .i64 (a : Int) (b : Int) = ((a ||| b : Nat) : Int) := by
  have hx : a ||| b < 2 ^ 63 := Nat.or_lt_two_pow (by omega) (by omega)
  show IntKind.i64.wrap ((BitVec.ofInt 64 (a : Int) ||| BitVec.ofInt 64 (b : Int)).toNat : Int) = _
  rw [BitVec.toNat_or, ofInt_u64 a (by omega), ofInt_u64 b (by omega)]
  exact wrap_small _ (by omega)
theorem i64_and (a b : Nat) (ha : a < 9223372036854775808) (hb : b < 9223372036854775808) : bits .and .i64 (a : Int) (b : Int) = ((a &&& b : Nat) : Int) := by
  have hx : a &&& b < 2 ^ 63 := Nat.and_lt_two_pow _ (by omega)
  show IntKind.i64.wrap ((BitVec.ofInt 64 (a : Int) &&& BitVec.ofInt 64 (b : Int)).toNat : Int) = _
  rw [BitVec.toNat_and, ofInt_u64 a (by omega), ofInt_u64 b (by omega)]
  exact wrap_small _ (by omega)
theorem i64_andNot (a b : Nat) (ha : a < 9223372036854775808) (hb : b < 9223372036854775808) : bits .andNot .i64 (a : Int) (b : Int) = ((a &&& (18446744073709551615 - b) : Nat) : Int) := by
  have hx : a &&& (18446744073709551615 - b) ≤ a := Nat.and_le_left
  show IntKind.i64.wrap ((BitVec.ofInt 64 (a : Int) &&& ~~~BitVec.ofInt 64 (b : Int)).toNat : Int) = _
  rw [BitVec.toNat_and, BitVec.toNat_not, ofInt_u64 a (by omega), ofInt_u64 b (by omega)]
  have e : 2 ^ 64 - 1 - b = 18446744073709551615 - b := by omega
  rw [e]
  exact wrap_small _ (by omega)
theorem w64s (z : Int) (h0 : 0 ≤ z) (h1 : z < 65536 * 256) : wrap64 z = z := by
  unfold wrap64; omega
theorem orI (a b : Int) (t : Nat) (ht : 2 ^ t ≤ 65536) (h0 : 0 ≤ a) (h1 : a < 65536) (h2 : a % 2 ^ t = 0) (h3 : 0 ≤ b) (h4 : b < 2 ^ t) : bits .or .i64 a b = a + b := by
  obtain ⟨A, rfl⟩ := Int.eq_ofNat_of_zero_le h0
  obtain ⟨B, rfl⟩ := Int.eq_ofNat_of_zero_le h3
  have hA : A % 2 ^ t = 0 := by exact_mod_cast h2
  have hB : B < 2 ^ t := by exact_mod_cast h4
  rw [i64_or A B (by omega) (by omega), nat_join t A B hA hB]; rfl
/-- Each field joins what is there. -/
def stO' (v : List Int) : Int → List Fl → Prop
  | _, [] => True
  | n, f :: fs => bits .or .i64 n (wrap64 (v.getD f.p 0 * 2 ^ f.s)) = n + v.getD f.p 0 * 2 ^ f.s ∧ stO' v (n + v.getD f.p 0 * 2 ^ f.s) fs
def orFn (v : List Int) (n : Int) (fs : List Fl) : Int := fs.foldl (fun n f => n + v.getD f.p 0 * 2 ^ f.s) n
theorem stO_at (v : List Int) (fs : List Fl) : ∀ n, stO' v n fs → ∀ q, q < fs.length → bits .or .i64 (orFn v n (fs.take q)) (wrap64 (v.getD (fs.getD q Fl.none).p 0 * 2 ^ (fs.getD q Fl.none).s)) = orFn v n (fs.take q) + v.getD (fs.getD q Fl.none).p 0 * 2 ^ (fs.getD q Fl.none).s := by
  induction fs with
  | nil => intro n _ q hq; simp at hq
  | cons f fs ih =>
    intro n h q hq
    cases q with
    | zero => exact h.1
    | succ q => exact ih _ h.2 q (by simpa using hq)
theorem fits_one (z : Nat) (n : Int) (hz : sizeB z = true) (h : okB z n = true) : fitsB z [n] = true := by simp [fitsB, hz, h]
theorem inF_of {v : List Int} {p s l : Nat} (h : inF v ⟨p, s, l⟩ = true) : 0 ≤ v.getD p 0 ∧ v.getD p 0 ≤ (l : Int) := by simpa [inF] using h
theorem one_ok (v : List Int) (z p l : Nat) (hz : sizeB z = true) (hl : (l : Int) < top z) (hs : l < 65536) (h : inF v ⟨p, 0, l⟩ = true) : stO' v 0 [⟨p, 0, l⟩] ∧ fitsB z [ctOr v [⟨p, 0, l⟩]] = true := by
  have hb := inF_of h
  refine ⟨⟨?_, trivial⟩, fits_one _ _ hz ?_⟩
  · generalize v.getD p 0 = x at *
    show bits .or .i64 0 (wrap64 (x * 2 ^ 0)) = 0 + x * 2 ^ 0
    rw [show x * 2 ^ 0 = x by omega, w64s _ (by omega) (by omega)]
    exact orI 0 _ 16 (by decide) (by decide) (by decide) (by decide) (by omega) (by omega)
  · show okB z (0 + v.getD p 0 * 2 ^ 0) = true
    generalize v.getD p 0 = x at *
    rw [show 0 + x * 2 ^ 0 = x by omega]
    simp [okB]; omega
theorem none_ok (v : List Int) (z : Nat) (hz : sizeB z = true) : stO' v 0 [] ∧ fitsB z [ctOr v []] = true := by
  refine ⟨trivial, fits_one _ _ hz ?_⟩
  show okB z 0 = true
  have : 0 < top z := by unfold top; split; decide; split <;> decide
  simp [okB]; omega
theorem bit7_ok (v : List Int) (p : Nat) (h : inF v ⟨p, 7, 1⟩ = true) : stO' v 0 [⟨p, 7, 1⟩] ∧ fitsB 1 [ctOr v [⟨p, 7, 1⟩]] = true := by
  have hb := inF_of h
  refine ⟨⟨?_, trivial⟩, fits_one _ _ rfl ?_⟩
  · generalize v.getD p 0 = x at *
    show bits .or .i64 0 (wrap64 (x * 2 ^ 7)) = 0 + x * 2 ^ 7
    rw [w64s _ (by omega) (by omega)]
    exact orI 0 _ 16 (by decide) (by decide) (by decide) (by decide) (by omega) (by omega)
  · show okB 1 (0 + v.getD p 0 * 2 ^ 7) = true
    generalize v.getD p 0 = x at *
    simp [okB, top]; omega
theorem dao_ok (v : List Int) (h1 : inF v ⟨7, 7, 1⟩ = true) (h2 : inF v ⟨10, 6, 1⟩ = true) : stO' v 0 [⟨7, 7, 1⟩, ⟨10, 6, 1⟩] ∧ fitsB 1 [ctOr v [⟨7, 7, 1⟩, ⟨10, 6, 1⟩]] = true := by
  have hb := inF_of h1
  have hc := inF_of h2
  refine ⟨⟨(bit7_ok v 7 h1).1.1, ?_, trivial⟩, fits_one _ _ rfl ?_⟩
  · show bits .or .i64 (0 + v.getD 7 0 * 2 ^ 7) (wrap64 (v.getD 10 0 * 2 ^ 6)) = 0 + v.getD 7 0 * 2 ^ 7 + v.getD 10 0 * 2 ^ 6
    generalize v.getD 7 0 = x at *
    generalize v.getD 10 0 = y at *
    rw [w64s _ (by omega) (by omega)]
    exact orI _ _ 7 (by decide) (by omega) (by omega) (by omega) (by omega) (by omega)
  · show okB 1 (0 + v.getD 7 0 * 2 ^ 7 + v.getD 10 0 * 2 ^ 6) = true
    generalize v.getD 7 0 = x at *
    generalize v.getD 10 0 = y at *
    simp [okB, top]; omega
theorem dio_ok (v : List Int) (h1 : inF v ⟨3, 7, 1⟩ = true) (h2 : inF v ⟨4, 3, 7⟩ = true) (h3 : inF v ⟨5, 0, 7⟩ = true) : stO' v 0 [⟨3, 7, 1⟩, ⟨4, 3, 7⟩, ⟨5, 0, 7⟩] ∧ fitsB 1 [ctOr v [⟨3, 7, 1⟩, ⟨4, 3, 7⟩, ⟨5, 0, 7⟩]] = true := by
  have hb := inF_of h1
  have hc := inF_of h2
  have hd := inF_of h3
  refine ⟨⟨(bit7_ok v 3 h1).1.1, ?_, ?_, trivial⟩, fits_one _ _ rfl ?_⟩
  · show bits .or .i64 (0 + v.getD 3 0 * 2 ^ 7) (wrap64 (v.getD 4 0 * 2 ^ 3)) = 0 + v.getD 3 0 * 2 ^ 7 + v.getD 4 0 * 2 ^ 3
    generalize v.getD 3 0 = x at *
    generalize v.getD 4 0 = y at *
    rw [w64s _ (by omega) (by omega)]
    exact orI _ _ 7 (by decide) (by omega) (by omega) (by omega) (by omega) (by omega)
  · show bits .or .i64 (0 + v.getD 3 0 * 2 ^ 7 + v.getD 4 0 * 2 ^ 3) (wrap64 (v.getD 5 0 * 2 ^ 0)) = 0 + v.getD 3 0 * 2 ^ 7 + v.getD 4 0 * 2 ^ 3 + v.getD 5 0 * 2 ^ 0
    generalize v.getD 3 0 = x at *
    generalize v.getD 4 0 = y at *
    generalize v.getD 5 0 = z at *
    rw [w64s _ (by omega) (by omega)]
    exact orI _ _ 3 (by decide) (by omega) (by omega) (by omega) (by omega) (by omega)
  · show okB 1 (0 + v.getD 3 0 * 2 ^ 7 + v.getD 4 0 * 2 ^ 3 + v.getD 5 0 * 2 ^ 0) = true
    generalize v.getD 3 0 = x at *
    generalize v.getD 4 0 = y at *
    generalize v.getD 5 0 = z at *
    simp [okB, top]; omega
theorem parts_ok (k : Nat) (hk : k < 4) (v : List Int) (h : witV k v = true) : ∀ p ∈ cpa k, stO' v 0 p.f ∧ fitsB p.z [ctOr v p.f] = true := by
  have h1 : (cpa k).all (inP v) = true := by simp [witV] at h ⊢; exact h.1
  have hk' : k = 0 ∨ k = 1 ∨ k = 2 ∨ k = 3 := by omega
  rcases hk' with rfl | rfl | rfl | rfl
  · intro p hp
    simp only [cpa, cpas, List.getD_cons_zero, List.mem_singleton] at hp
    subst hp
    exact none_ok v 2 rfl
  · simp only [cpa, cpas, List.getD_cons_zero, List.getD_cons_succ, inP, List.all_cons, List.all_nil, Bool.and_true, Bool.and_eq_true] at h1
    obtain ⟨a0, a1, a2, ⟨b1, b2, b3⟩, a4⟩ := h1
    intro p hp
    simp only [cpa, cpas, List.getD_cons_zero, List.getD_cons_succ, List.mem_cons, List.not_mem_nil, or_false] at hp
    rcases hp with rfl | rfl | rfl | rfl | rfl | rfl
    · exact one_ok v 1 0 255 rfl (by decide) (by decide) a0
    · exact one_ok v 1 1 255 rfl (by decide) (by decide) a1
    · exact one_ok v 2 2 65535 rfl (by decide) (by decide) a2
    · exact dio_ok v b1 b2 b3
    · exact one_ok v 1 6 255 rfl (by decide) (by decide) a4
    · exact none_ok v 2 rfl
  · simp only [cpa, cpas, List.getD_cons_zero, List.getD_cons_succ, inP, List.all_cons, List.all_nil, Bool.and_true, Bool.and_eq_true] at h1
    obtain ⟨a0, ⟨b1, b2⟩, _, a3⟩ := h1
    intro p hp
    simp only [cpa, cpas, List.getD_cons_zero, List.getD_cons_succ, List.mem_cons, List.not_mem_nil, or_false] at hp
    rcases hp with rfl | rfl | rfl | rfl
    · exact one_ok v 1 0 255 rfl (by decide) (by decide) a0
    · exact dao_ok v b1 b2
    · exact none_ok v 1 rfl
    · exact one_ok v 1 8 255 rfl (by decide) (by decide) a3
  · simp only [cpa, cpas, List.getD_cons_zero, List.getD_cons_succ, inP, List.all_cons, List.all_nil, Bool.and_true, Bool.and_eq_true] at h1
    obtain ⟨a0, b1, a2, a3⟩ := h1
    intro p hp
    simp only [cpa, cpas, List.getD_cons_zero, List.getD_cons_succ, List.mem_cons, List.not_mem_nil, or_false] at hp
    rcases hp with rfl | rfl | rfl | rfl
    · exact one_ok v 1 0 255 rfl (by decide) (by decide) a0
    · exact bit7_ok v 10 b1
    · exact one_ok v 1 8 255 rfl (by decide) (by decide) a2
    · exact one_ok v 1 9 255 rfl (by decide) (by decide) a3
end Go.Proofs.YtbklpelikaapoaaGreatDoor

namespace Go.Proofs.YtbklpelikaapoaaGreatDoor
open Go.ChangeShapes Go.WideShapes Go.ChangeAt Go.RowKit Go.Deep
set_option linter.unusedVariables false
set_option linter.unusedSimpArgs false

theorem hdV_succ (ps : List Pa) (v : List Int) (j : Nat) (h : j < ps.length) : hdV v (ps.take (j + 1)) = hdV v (ps.take j) ++ hdP v (ps.getD j Pa.none) := by
  rw [hdV, hdV, List.take_succ_eq_append_getElem h, List.flatMap_append]; simp [h]
theorem getDm {α : Type} (l : List α) (d : α) (j : Nat) (h : j < l.length) : l.getD j d ∈ l := by simp [h]
theorem orF_succ (fs : List Fl) (v : List Int) (j : Nat) (h : j < fs.length) : ctOr v (fs.take (j + 1)) = ctOr v (fs.take j) + v.getD (fs.getD j Fl.none).p 0 * 2 ^ (fs.getD j Fl.none).s := by
  rw [ctOr, ctOr, List.take_succ_eq_append_getElem h, List.foldl_append]; simp [h]
set_option maxRecDepth 100000 in
set_option maxHeartbeats 1600000 in
theorem head_any {B : Nat} (m : Mv) (w : World) (hm : m.ok w) (hV : CV B w) (hc : codB m.c = true) (hw : witV m.c.toNat m.p.vs = true) : Calls Tryz.prog 93 #[.agg m.cs] w fun e w' => ∃ v, e = .returned (.tuple #[v, .int .i64 0]) ∧ w'.ownsRow w.heap.size 5 1 v (hdM m.p).length (u8s (hdM m.p)) ∧ Below w.heap.size w w' := by
  have hz := zvl
  obtain ⟨k, hk, hk4⟩ := cod_nat hc
  have hB := hid hV.le
  have HV := hid hV
  have HA := hid hm.ro
  have HC := hid hk
  have HCn : Hid (m.c.toNat = k) := by rw [Hid]; omega
  rw [HCn.out] at hw
  have HW := hid hw
  have HK4 := hid hk4
  have hk4' : (k : Int) < 4 := by omega
  have R1 := hid (Row.new w 38 m.cs)
  have B1 := hid (balloc (Below.refl w.heap.size w) (.cells m.cs 38))
  have hL := hid (cpa_len k hk4)
  obtain ⟨pa, pn, pc, c1, hP0⟩ := hV.c.parts k hk4
  have hpn : pn ≤ 6 := by rw [← hP0.len]; exact hL.out.1
  have hPL := hid hP0.len
  have c2 := hid (hV.c.root k hk4)
  have C1 := hid c1
  have HP := hid hP0
  clear hV hm hc hP0 c1 hk hw
  go_enter Tryz.func93, Tryz.ntmps93
  go_upto_region 1 with fail
  generalize hw1 : w.alloc (.cells m.cs 38) = w1 at *
  generalize hg1 : w.heap.size = g1 at *
  clear hw1
  go_wp2_with (refine ldM m29 _ rfl rfl _ _ rfl m HA.out R1.out.part ?_)
  refine (valuesOf_any m _ HA.out).mono ?_
  rintro e w2 ⟨rfl, hb2⟩
  have R2 := hid (R1.out.below hb2)
  have B2 : Hid (Below g1 w w2) := hid (B1.out.trans (hb2.mono (by rw [← hg1]; exact B1.out.size)))
  clear hb2 R1 B1
  have Z2 := hid (layV_new w2 m.p.vs)
  have BZ := hid (layV_below w2 m.p.vs)
  go_upto_region 2 with (refine st74 _ _ rfl rfl w2.heap.size m.p.vs rfl rfl rfl 103 zer11 rfl (Row.new w2 103 _) ?_)
  have F3 : Hid (FAt w ((w2.alloc (.cells (nArr zer11) 103)).setRow w2.heap.size (nArr m.p.vs)) g1 w2.heap.size m m.p.vs) :=
    ⟨R2.out.below BZ.out, Z2.out, rfl, by rw [hg1]; exact B2.out.trans (BZ.out.mono (by rw [← hg1]; exact B2.out.size)), Nat.ne_of_lt R2.out.lt, B2.out.size⟩
  generalize hw3 : (w2.alloc (.cells (nArr zer11) 103)).setRow w2.heap.size (nArr m.p.vs) = w3 at *
  generalize hg3 : w2.heap.size = g3 at *
  clear hw3 hg3 R2 B2 Z2 BZ hz
  have c0 := (F3.out.r1.cell 0).trans m.at0
  rw [HC.out] at c0
  have HT := hid (cells_below F3.out.below (by rw [hg1]; exact hB.out))
  have c1 : w3.cell? ⟨0, k * 4 + 1, none⟩ = _ := (HT.out _ _ HV.out.c.pos).trans C1.out
  go_wp2_with fail
  generalize hvv : m.p.vs = v at *
  have HVV := hid hvv
  clear hvv
  go_loopw [5, 19] (fun o i wr => ∃ (j : Nat), j ≤ pn ∧ i = .int .i64 j ∧ Hid ((hdV v ((cpa k).take j)).length ≤ 4 * j) ∧ Hid (wr.ownsRow w.heap.size 5 1 o (hdV v ((cpa k).take j)).length (u8s (hdV v ((cpa k).take j)))) ∧ Hid (FAt w wr g1 g3 m v)) (fun _ i _ => pn - (intOf i).toNat)
  case atStart => exact ⟨0, Nat.zero_le _, rfl, Nat.le_refl _, World.ownsRow_nil _ _ _ _, F3.out⟩
  case round =>
    obtain ⟨j, hj, rfl, HLn, HO, F⟩ := hrel
    clear c1 c0
    by_cases hlt : j < pn
    · have hlt' : (j : Int) < (pn : Int) := by omega
      obtain ⟨b, off, ha, hbB, hcz, fa, fn, fc, hcf, hF0⟩ := (HP.out.same (cells_below F.out.below (by rw [hg1]; exact hB.out))).cell j hlt
      have hjl : j < (cpa k).length := by rw [hPL.out]; exact hlt
      have hLj := hid (hL.out.2 j hjl)
      have HS := hid (hdV_succ (cpa k) v j hjl)
      have HPO := hid (parts_ok k HK4.out v HW.out _ (getDm (cpa k) Pa.none j hjl))
      generalize (cpa k).getD j Pa.none = p at *
      have HF := hid (hF0.same (w' := w) (fun b o h => ((cells_below F.out.below (by rw [hg1]; exact hB.out)) b o h).symm))
      have HFL := hid hF0.len
      have hfn : fn ≤ 3 := by rw [← HFL.out]; exact hLj.out.1
      subst ha
      clear hF0 hjl
      go_wp2_with fail
      have BA := hid (balloc (Below.refl wr.heap.size wr) (.cells #[.int .i64 p.z, .slice fa fn fc] 200))
      have F4 := hid (F.out.on BA.out)
      have O4 := hid (own_below HO.out BA.out)
      have RP := hid (Row.new wr 200 #[.int .i64 p.z, .slice fa fn fc])
      generalize wr.alloc (.cells #[.int .i64 p.z, .slice fa fn fc] 200) = w4 at *
      generalize wr.heap.size = g4 at *
      clear hcz hcf BA
      go_loopw [8, 26] (fun n i wr => ∃ (q : Nat), q ≤ fn ∧ i = .int .i64 q ∧ n = .int .i64 (ctOr v (p.f.take q)) ∧ Hid (Below w4.heap.size w4 wr)) (fun _ i _ => fn - (intOf i).toNat)
      case atStart => exact ⟨0, Nat.zero_le _, rfl, rfl, Below.refl _ _⟩
      case round =>
        obtain ⟨q, hq, rfl, rfl, HB⟩ := hrel
        by_cases hqt : q < fn
        · have hqt' : (q : Int) < (fn : Int) := by omega
          have FF := hid (F4.out.on HB.out)
          obtain ⟨b2, off2, hfa, hb2, e0, e1, e2⟩ := (HF.out.same (cells_below FF.out.below (by rw [hg1]; exact hB.out))).cell q hqt
          have hqf : q < p.f.length := by rw [HFL.out]; exact hqt
          have hb3 := (hLj.out.2 q hqf).1
          have hb4 := (hLj.out.2 q hqf).2.1
          have HS2 := hid (orF_succ p.f v q hqf)
          have HST := hid (stO_at v p.f 0 HPO.out.1 q hqf)
          rw [show orFn v 0 (p.f.take q) = ctOr v (p.f.take q) from rfl] at HST
          generalize p.f.getD q Fl.none = f at *
          obtain ⟨fp, fs, fl⟩ := f
          simp only at e0 e1 e2 hb3 hb4 HS2 HST
          have hp11' : (fp : Int) < 11 := by omega
          have hs8 : (fs : Int) < 8 := by omega
          subst hfa
          have BF := hid (balloc (Below.refl wr.heap.size wr) (.cells #[.int .i64 fp, .int .i64 fs, .int .i64 fl] 202))
          have FO := hid (FF.out.on BF.out)
          have B5 := hid (bthen HB.out BF.out)
          have RF := hid (Row.new wr 202 #[.int .i64 fp, .int .i64 fs, .int .i64 fl])
          clear hqf BF
          go_upto_region 10 with fail
          generalize wr.alloc (.cells #[.int .i64 fp, .int .i64 fs, .int .i64 fl] 202) = w5 at *
          generalize wr.heap.size = g5 at *
          clear e0 e1 e2
          have d0 := (RF.out.cell 0).trans rfl
          have d1 := (RF.out.cell 1).trans rfl
          have d3 := FO.out.cell fp hb3
          generalize v.getD fp 0 = z at *
          generalize ctOr v (p.f.take q) = n at *
          go_quiet (fail)
          go_wp2_with fail
          go_roundw
          case rel => exact ⟨q + 1, by omega, by go_num, by rw [HS2.out, HST.out], hid (bdrew B5.out _)⟩
          case measure => simp [intOf]; omega
        · obtain rfl : q = fn := by omega
          rw [List.take_of_length_le (by rw [HFL.out]; exact Nat.le_refl _)]
          have F6 := hid (F4.out.on HB.out)
          have O6 := hid (own_below O4.out HB.out)
          have R6 := hid (RP.out.below HB.out)
          obtain ⟨oa, oc, rfl, hlo, _⟩ := owns_lies O6.out
          have LO := hid hlo
          clear hlo
          have hn4 := HLn.out
          have d0 := (R6.out.cell 0).trans rfl
          have HS1 : Hid (hdV v ((cpa k).take (j + 1)) = hdV v ((cpa k).take j) ++ bytesOf p.z [ctOr v p.f]) := HS
          have HPF := hid HPO.out.2
          have hbl : (bytesOf p.z [ctOr v p.f]).length ≤ 4 := by
            have hz : sizeB p.z = true := by have := HPF.out; simp [fitsB] at this; exact this.1
            rw [bytesOf_length _ _ hz]; simp
            rcases sizeB_cases hz with h | h | h <;> omega
          generalize ctOr v p.f = n at *
          generalize hdV v ((cpa k).take j) = hl at *
          have HPE : Hid (putE p.z hl.length [n] = 0) := by
            have hz : sizeB p.z = true := by have := HPF.out; simp [fitsB] at this; exact this.1
            rw [Hid, putE, if_pos HPF.out, if_neg]
            simp
            rcases sizeB_cases hz with h | h | h <;> omega
          have HPL2 : Hid (putL p.z hl [n] = hl ++ bytesOf p.z [n]) := by rw [Hid, putL, if_pos HPE.out]
          have BA := hid (balloc (Below.refl wr.heap.size wr) (.cells #[.int .i64 n] 3))
          have LN := hid (lies_new .i64 wr #[.int .i64 n] 3 [n] rfl (by simp))
          have F7 := hid (F6.out.on BA.out)
          have LO7 := hid (LO.out.below BA.out)
          generalize hln : hl.length = ln at *
          have HLN := hid hln
          clear hln
          go_wp2_with fail
          generalize wr.alloc (.cells #[.int .i64 n] 3) = w7 at *
          generalize wr.heap.size = g7 at *
          refine (put_any oa (some ⟨g7, 0, none⟩) ln oc 1 1 p.z hl [n] _ LO7.out LN.out (by omega) (by omega)).mono ?_
          rintro e w8 ⟨v8, rfl, hown8, hb8⟩
          rw [HLN.out, HPE.out]
          rw [HPL2.out] at hown8
          have F8 := hid (F7.out.on hb8)
          have O8 := hid (own_mono hown8 F7.out.below.size)
          clear hown8 hb8
          go_wp2_with fail
          go_roundw
          case rel =>
            refine ⟨j + 1, by omega, by go_num, ?_, ?_, F8.out⟩
            · rw [Hid, HS1.out, List.length_append, HLN.out]; omega
            · rw [Hid, HS1.out]; exact O8.out
          case measure => simp [intOf]; omega
    · obtain rfl : j = pn := by omega
      rw [List.take_of_length_le (by rw [hPL.out]; exact Nat.le_refl _)] at HO HLn
      have HD : Hid (hdM m.p = hdV v (cpa k) ++ (if v.getD 10 0 = 1 then m.ro else [])) := by
        rw [Hid, hdM, HVV.out]
        show hdV v (cpa m.c.toNat) ++ _ = _
        rw [HCn.out]; rfl
      have d10 := F.out.cell 10 (by decide)
      obtain ⟨oa, oc, rfl, hlo, _⟩ := owns_lies HO.out
      have hl24 := HLn.out
      clear hlo
      generalize hdV v (cpa k) = hl at *
      by_cases h1 : v.getD 10 0 = 1
      · rw [if_pos h1] at HD
        rw [h1] at d10
        have PR := hid (F.out.r1.part.mvA HA.out)
        have LR := hid (part_lies HA.out PR.out)
        rw [Nat.zero_add] at LR
        have OO := hid HO.out
        generalize hln : hl.length = ln at *
        have HLN := hid hln
        clear hln
        go_wp2_with (at_builtin; refine wpList_appB rfl _ _ rfl rfl rfl OO.out LR.out ?c1 ?c2 ?_)
        case c1 => exact F.out.below.size
        case c2 => omega
        intro v5 w5 ho5 hb5
        rw [← hg1] at hb5 ho5
        have O5 := hid ho5
        have B6 := hid (F.out.below.trans hb5)
        clear ho5 hb5
        go_wp2_with fail
        go_ret2
        exact ⟨_, rfl, by rw [HD.out, List.length_append, HLN.out, HA.out.1]; exact O5.out, B6.out⟩
      · rw [if_neg h1, List.append_nil] at HD
        have e1 : (v.getD 10 0 == 1) = false := by simpa using h1
        clear h1
        generalize v.getD 10 0 = z at *
        generalize hln : hl.length = ln at *
        have HLN := hid hln
        clear hln
        go_wp2_with fail
        go_ret2
        exact ⟨_, rfl, by rw [HD.out, HLN.out]; exact HO.out, F.out.below⟩
end Go.Proofs.YtbklpelikaapoaaGreatDoor

namespace Go.Proofs.YtbklpelikaapoaaGreatDoor
open Go.ChangeShapes Go.WideShapes Go.ChangeAt Go.RowKit Go.Deep
set_option linter.unusedVariables false
set_option linter.unusedSimpArgs false

/-- A chain's cells. -/
def chc (er : Int) (m : Mv) (va : Value) : Array Value := #[.int .i64 er] ++ (m.cs ++ #[va])
theorem chc_at0 (er : Int) (m : Mv) (va : Value) : (chc er m va)[0]? = some (.int .i64 er) := by simp [chc, Array.getElem?_append]
theorem chc_at (er : Int) (m : Mv) (va : Value) (hl : Adr m.ro) (j : Nat) (hj : j < 28) : (chc er m va)[1 + j]? = m.cs[j]? := by
  rw [chc, Array.getElem?_append_right (by simp), show 1 + j - Array.size #[Value.int .i64 er] = j by simp, Array.getElem?_append_left (by rw [Mv.size hl]; exact hj)]
theorem chc_at29 (er : Int) (m : Mv) (va : Value) (hl : Adr m.ro) : (chc er m va)[29]? = some va := by
  rw [chc, Array.getElem?_append_right (by simp), Array.getElem?_append_right (by rw [Mv.size hl]; simp), Mv.size hl]; rfl
theorem chc_s (er : Int) (m : Mv) (va : Value) (n : Nat) : (chc er m va)[n + 1]? = (m.cs ++ #[va])[n]? := by
  rw [chc, Array.getElem?_append_right (by simp)]; simp
theorem chc_set0 (er e : Int) (m : Mv) (va : Value) : (chc er m va).setIfInBounds 0 (.int .i64 e) = chc e m va := by
  apply Array.ext_getElem?
  intro i
  rw [Array.getElem?_setIfInBounds]
  cases i with
  | zero => rw [if_pos rfl, if_pos (by simp [chc]; omega), chc_at0]
  | succ n => rw [if_neg (by omega), chc_s, chc_s]
theorem chc_set29 (er : Int) (m : Mv) (va vb : Value) (hl : Adr m.ro) : (chc er m va).setIfInBounds 29 vb = chc er m vb := by
  apply Array.ext_getElem?
  intro i
  have hs := Mv.size hl
  rw [Array.getElem?_setIfInBounds]
  by_cases h : i = 29
  · subst h
    rw [if_pos rfl, if_pos (by simp [chc, hs]), chc_at29 _ _ _ hl]
  · rw [if_neg (by omega)]
    cases i with
    | zero => rw [chc_at0, chc_at0]
    | succ n =>
      rw [chc_s, chc_s]
      by_cases h1 : n < 28
      · rw [Array.getElem?_append_left (by rw [hs]; exact h1), Array.getElem?_append_left (by rw [hs]; exact h1)]
      · rw [Array.getElem?_eq_none (by simp [hs]; omega), Array.getElem?_eq_none (by simp [hs]; omega)]
theorem built72' (c i v r mo pf d sq st : Int) (g a : Bool) (a0 a1 a2 a3 a4 a5 a6 a7 a8 a9 a10 a11 a12 a13 a14 a15 : Int) (oa : Option Addr) (on oc : Nat) (L : List Ov) : Tryz.prog.built 190 [(1, .agg (Mv.cs ⟨c, i, v, r, mo, pf, d, sq, st, g, a, [a0, a1, a2, a3, a4, a5, a6, a7, a8, a9, a10, a11, a12, a13, a14, a15], oa, on, oc, L⟩))] =
    some (chc 0 ⟨c, i, v, r, mo, pf, d, sq, st, g, a, [a0, a1, a2, a3, a4, a5, a6, a7, a8, a9, a10, a11, a12, a13, a14, a15], oa, on, oc, L⟩ (.slice none 0 0)) := by kernel_rfl
theorem built72 (m : Mv) (h : m.ro.length = 16) : Tryz.prog.built 190 [(1, .agg m.cs)] = some (chc 0 m (.slice none 0 0)) := by
  obtain ⟨c, i, v, r, mo, pf, d, sq, st, g, a, ro, oa, on, oc, L⟩ := m
  simp only at h
  match ro, h with
  | [a0, a1, a2, a3, a4, a5, a6, a7, a8, a9, a10, a11, a12, a13, a14, a15], _ => exact built72' c i v r mo pf d sq st g a a0 a1 a2 a3 a4 a5 a6 a7 a8 a9 a10 a11 a12 a13 a14 a15 oa on oc L
theorem bd72 {ops : Array Oper} {rest : List Oper} {o : Oper} {a : Act} {w : World} {Q : Exit → Act → World → Prop} (x1 : Operand) (ho : o.op = .build 190 #[(1, x1)]) (hg : o.guard = none) (m : Mv) (hl : Adr m.ro) (h1 : a.eval x1 = .agg m.cs)
    (hn : wpList Tryz.prog ops Q rest (a.put o.dst (.agg (chc 0 m (.slice none 0 0)))) w) : wpList Tryz.prog ops Q (o :: rest) a w :=
  wp_bd 190 _ ho hg _ (by simp only [List.map_toArray, List.map_cons, List.map_nil, h1]; exact built72 m hl.1) hn
/-- Where a chain stands. -/
structure ChAt (W w : World) (c : Nat) (er : Int) (m : Mv) (va : Value) : Prop where
  row : Row w c 190 (chc er m va)
  below : Below W.heap.size W w
  lo : W.heap.size ≤ c
  ro : Adr m.ro
section
variable {W w w' : World} {c : Nat} {er : Int} {m : Mv} {va : Value}
theorem ChAt.cell0 (h : ChAt W w c er m va) : w.cell? ⟨c, 0, none⟩ = some (.int .i64 er) := (h.row.cell 0).trans (chc_at0 _ _ _)
theorem ChAt.cell29 (h : ChAt W w c er m va) : w.cell? ⟨c, 29, none⟩ = some va := (h.row.cell 29).trans (chc_at29 _ _ _ h.ro)
theorem ChAt.part (h : ChAt W w c er m va) : Part w c 1 m.cs := fun j v hv => by
  have hj : j < 28 := by have := (Array.getElem?_eq_some_iff.1 hv).1; rw [Mv.size h.ro] at this; exact this
  exact (h.row.cell (1 + j)).trans ((chc_at _ _ _ h.ro j hj).trans hv)
theorem ChAt.on (h : ChAt W w c er m va) (hb : Below w.heap.size w w') : ChAt W w' c er m va := ⟨h.row.below hb, bthen h.below hb, h.lo, h.ro⟩
theorem ChAt.setE (h : ChAt W w c er m va) (e : Int) : ChAt W (w.setCell ⟨c, 0, none⟩ (.int .i64 e)) c e m va :=
  ⟨by have := h.row.set 0 (.int .i64 e); rwa [chc_set0] at this, bset 0 _ h.below h.lo, h.lo, h.ro⟩
theorem ChAt.setV (h : ChAt W w c er m va) (vb : Value) : ChAt W (w.setCell ⟨c, 29, none⟩ vb) c er m vb :=
  ⟨by have := h.row.set 29 vb; rwa [chc_set29 _ _ _ _ h.ro] at this, bset 29 _ h.below h.lo, h.lo, h.ro⟩
end
theorem fine_any (w : World) (c : Nat) (er : Int) (h : w.cell? ⟨c, 0, none⟩ = some (.int .i64 er)) : Calls Tryz.prog 124 #[.pointer (some ⟨c, 0, none⟩)] w fun e w' => e = .returned (.bool (er == 0)) ∧ w' = w := by
  go_enter Tryz.func124, Tryz.ntmps124
  go_wp2_with fail
  go_ret
  exact ⟨rfl, rfl⟩
/-- What a note leaves. -/
def notW (w : World) (c : Nat) (er e : Int) : World := if er = 0 then w.setCell ⟨c, 0, none⟩ (.int .i64 e) else w
theorem note_any (w : World) (c : Nat) (er e : Int) (h : w.cell? ⟨c, 0, none⟩ = some (.int .i64 er)) (hf : w.frozen? ⟨c, 0, none⟩ = false) : Calls Tryz.prog 125 #[.pointer (some ⟨c, 0, none⟩), .int .i64 e] w fun x w' => x = .returned (.tuple #[]) ∧ w' = notW w c er e := by
  by_cases her : er = 0
  · subst her
    have HX : Hid (notW w c 0 e = w.setCell ⟨c, 0, none⟩ (.int .i64 e)) := by rw [Hid, notW, if_pos rfl]
    go_enter Tryz.func125, Tryz.ntmps125
    go_wp2_with fail
    refine (fine_any _ c 0 h).mono ?_
    rintro x w1 ⟨rfl, rfl⟩
    go_wp2_with fail
    go_returns
    exact ⟨rfl, HX.out.symm⟩
  · have HX : Hid (notW w c er e = w) := by rw [Hid, notW, if_neg her]
    have he : (er == 0) = false := by simp [her]
    clear her
    go_enter Tryz.func125, Tryz.ntmps125
    go_wp2_with fail
    refine (fine_any _ c er h).mono ?_
    rintro x w1 ⟨rfl, rfl⟩
    go_wp2_with fail
    go_returns
    exact ⟨rfl, HX.out.symm⟩
theorem ChAt.note {W w : World} {c : Nat} {er : Int} {m : Mv} {va : Value} (h : ChAt W w c er m va) (e : Int) : ChAt W (notW w c er e) c (if er = 0 then e else er) m va := by
  unfold notW
  split
  · exact h.setE e
  · exact h
/-- What a step leaves. -/
def mstE (er : Int) (b : Bool) (e : Int) : Int := if er = 0 then (if b = true then 0 else e) else er
set_option maxHeartbeats 800000 in
theorem must49 {B : Nat} (W w : World) (c : Nat) (er e : Int) (m : Mv) (va : Value) (h : ChAt W w c er m va) (hm : m.ok W) (hV : CV B W) :
    Calls Tryz.prog 119 #[.pointer (some ⟨c, 0, none⟩), .func (.func 120) #[] #[], .int .i64 e] w fun x w' => x = .returned (.pointer (some ⟨c, 0, none⟩)) ∧ Hid (ChAt W w' c (mstE er (codB m.c) e) m va) := by
  have H := hid h
  have HM := hid (hm.below h.below)
  have HV := hid (hV.below h.below)
  have HA := hid hm.ro
  have c0 := h.cell0
  clear h hm hV
  by_cases her : er = 0
  · subst her
    have HX : Hid (mstE 0 (codB m.c) e = if (codB m.c) = true then 0 else e) := rfl
    go_enter Tryz.func119, Tryz.ntmps119
    go_wp2_with fail
    refine (fine_any _ c 0 c0).mono ?_
    rintro e w1 ⟨rfl, rfl⟩
    go_wp2_with (refine ldM m29 _ rfl rfl _ _ rfl m HA.out H.out.part ?_)
    refine (cKnown_any m _).mono ?_
    rintro x w2 ⟨rfl, hb⟩
    have H2 := hid (H.out.on hb)
    have d0 := H2.out.cell0
    have f0 := H2.out.row.frozen 0
    clear hb
    cases hb : (codB m.c)
    · rw [hb] at HX
      have HX2 : Hid (mstE 0 false e = e) := HX
      go_wp2_with fail
      refine (note_any _ c 0 _ d0 f0).mono ?_
      rintro x w3 ⟨rfl, rfl⟩
      go_wp2_with fail
      go_ret
      refine ⟨rfl, ?_⟩
      rw [hb, HX2.out]
      exact hid (H2.out.setE _)
    · rw [hb] at HX
      have HX2 : Hid (mstE 0 true e = 0) := HX
      go_wp2_with fail
      go_ret
      refine ⟨rfl, ?_⟩
      rw [hb, HX2.out]
      exact H2
  · have HX : Hid (mstE er (codB m.c) e = er) := by rw [Hid, mstE, if_neg her]
    have he : (er == 0) = false := by simp [her]
    clear her
    go_enter Tryz.func119, Tryz.ntmps119
    go_wp2_with fail
    refine (fine_any _ c er c0).mono ?_
    rintro x w1 ⟨rfl, rfl⟩
    go_wp2_with fail
    go_ret
    refine ⟨rfl, ?_⟩
    rw [HX.out]
    exact H
set_option maxHeartbeats 800000 in
theorem must50 {B : Nat} (W w : World) (c : Nat) (er e : Int) (m : Mv) (va : Value) (h : ChAt W w c er m va) (hm : m.ok W) (hV : CV B W) (hp : er = 0 → codB m.c = true) :
    Calls Tryz.prog 119 #[.pointer (some ⟨c, 0, none⟩), .func (.func 121) #[] #[], .int .i64 e] w fun x w' => x = .returned (.pointer (some ⟨c, 0, none⟩)) ∧ Hid (ChAt W w' c (mstE er (frmV m.c.toNat m.p.vs) e) m va) := by
  have H := hid h
  have HM := hid (hm.below h.below)
  have HV := hid (hV.below h.below)
  have HA := hid hm.ro
  have c0 := h.cell0
  clear h hm hV
  by_cases her : er = 0
  · subst her
    have HX : Hid (mstE 0 (frmV m.c.toNat m.p.vs) e = if (frmV m.c.toNat m.p.vs) = true then 0 else e) := rfl
    have HP := hid (hp rfl)
    clear hp
    go_enter Tryz.func119, Tryz.ntmps119
    go_wp2_with fail
    refine (fine_any _ c 0 c0).mono ?_
    rintro e w1 ⟨rfl, rfl⟩
    go_wp2_with (refine ldM m29 _ rfl rfl _ _ rfl m HA.out H.out.part ?_)
    refine (cFormed_any m _ HM.out HV.out HP.out).mono ?_
    rintro x w2 ⟨rfl, hb⟩
    have H2 := hid (H.out.on hb)
    have d0 := H2.out.cell0
    have f0 := H2.out.row.frozen 0
    clear hb
    cases hb : (frmV m.c.toNat m.p.vs)
    · rw [hb] at HX
      have HX2 : Hid (mstE 0 false e = e) := HX
      go_wp2_with fail
      refine (note_any _ c 0 _ d0 f0).mono ?_
      rintro x w3 ⟨rfl, rfl⟩
      go_wp2_with fail
      go_ret
      refine ⟨rfl, ?_⟩
      rw [hb, HX2.out]
      exact hid (H2.out.setE _)
    · rw [hb] at HX
      have HX2 : Hid (mstE 0 true e = 0) := HX
      go_wp2_with fail
      go_ret
      refine ⟨rfl, ?_⟩
      rw [hb, HX2.out]
      exact H2
  · have HX : Hid (mstE er (frmV m.c.toNat m.p.vs) e = er) := by rw [Hid, mstE, if_neg her]
    have he : (er == 0) = false := by simp [her]
    clear her
    go_enter Tryz.func119, Tryz.ntmps119
    go_wp2_with fail
    refine (fine_any _ c er c0).mono ?_
    rintro x w1 ⟨rfl, rfl⟩
    go_wp2_with fail
    go_ret
    refine ⟨rfl, ?_⟩
    rw [HX.out]
    exact H
set_option maxHeartbeats 800000 in
theorem must51 {B : Nat} (W w : World) (c : Nat) (er e : Int) (m : Mv) (va : Value) (h : ChAt W w c er m va) (hm : m.ok W) (hV : CV B W) (hp : er = 0 → codB m.c = true) :
    Calls Tryz.prog 119 #[.pointer (some ⟨c, 0, none⟩), .func (.func 122) #[] #[], .int .i64 e] w fun x w' => x = .returned (.pointer (some ⟨c, 0, none⟩)) ∧ Hid (ChAt W w' c (mstE er (witV m.c.toNat m.p.vs) e) m va) := by
  have H := hid h
  have HM := hid (hm.below h.below)
  have HV := hid (hV.below h.below)
  have HA := hid hm.ro
  have c0 := h.cell0
  clear h hm hV
  by_cases her : er = 0
  · subst her
    have HX : Hid (mstE 0 (witV m.c.toNat m.p.vs) e = if (witV m.c.toNat m.p.vs) = true then 0 else e) := rfl
    have HP := hid (hp rfl)
    clear hp
    go_enter Tryz.func119, Tryz.ntmps119
    go_wp2_with fail
    refine (fine_any _ c 0 c0).mono ?_
    rintro e w1 ⟨rfl, rfl⟩
    go_wp2_with (refine ldM m29 _ rfl rfl _ _ rfl m HA.out H.out.part ?_)
    refine (cWithin_any m _ HM.out HV.out HP.out).mono ?_
    rintro x w2 ⟨rfl, hb⟩
    have H2 := hid (H.out.on hb)
    have d0 := H2.out.cell0
    have f0 := H2.out.row.frozen 0
    clear hb
    cases hb : (witV m.c.toNat m.p.vs)
    · rw [hb] at HX
      have HX2 : Hid (mstE 0 false e = e) := HX
      go_wp2_with fail
      refine (note_any _ c 0 _ d0 f0).mono ?_
      rintro x w3 ⟨rfl, rfl⟩
      go_wp2_with fail
      go_ret
      refine ⟨rfl, ?_⟩
      rw [hb, HX2.out]
      exact hid (H2.out.setE _)
    · rw [hb] at HX
      have HX2 : Hid (mstE 0 true e = 0) := HX
      go_wp2_with fail
      go_ret
      refine ⟨rfl, ?_⟩
      rw [hb, HX2.out]
      exact H2
  · have HX : Hid (mstE er (witV m.c.toNat m.p.vs) e = er) := by rw [Hid, mstE, if_neg her]
    have he : (er == 0) = false := by simp [her]
    clear her
    go_enter Tryz.func119, Tryz.ntmps119
    go_wp2_with fail
    refine (fine_any _ c er c0).mono ?_
    rintro x w1 ⟨rfl, rfl⟩
    go_wp2_with fail
    go_ret
    refine ⟨rfl, ?_⟩
    rw [HX.out]
    exact H
set_option maxHeartbeats 800000 in
theorem must52 {B : Nat} (W w : World) (c : Nat) (er e : Int) (m : Mv) (va : Value) (h : ChAt W w c er m va) (hm : m.ok W) (hV : CV B W) :
    Calls Tryz.prog 119 #[.pointer (some ⟨c, 0, none⟩), .func (.func 123) #[] #[], .int .i64 e] w fun x w' => x = .returned (.pointer (some ⟨c, 0, none⟩)) ∧ Hid (ChAt W w' c (mstE er (allM m.c m.p.o) e) m va) := by
  have H := hid h
  have HM := hid (hm.below h.below)
  have HV := hid (hV.below h.below)
  have HA := hid hm.ro
  have c0 := h.cell0
  clear h hm hV
  by_cases her : er = 0
  · subst her
    have HX : Hid (mstE 0 (allM m.c m.p.o) e = if (allM m.c m.p.o) = true then 0 else e) := rfl
    go_enter Tryz.func119, Tryz.ntmps119
    go_wp2_with fail
    refine (fine_any _ c 0 c0).mono ?_
    rintro e w1 ⟨rfl, rfl⟩
    go_wp2_with (refine ldM m29 _ rfl rfl _ _ rfl m HA.out H.out.part ?_)
    refine (cAllowed_any m _ HM.out HV.out).mono ?_
    rintro x w2 ⟨rfl, hb⟩
    have H2 := hid (H.out.on hb)
    have d0 := H2.out.cell0
    have f0 := H2.out.row.frozen 0
    clear hb
    cases hb : (allM m.c m.p.o)
    · rw [hb] at HX
      have HX2 : Hid (mstE 0 false e = e) := HX
      go_wp2_with fail
      refine (note_any _ c 0 _ d0 f0).mono ?_
      rintro x w3 ⟨rfl, rfl⟩
      go_wp2_with fail
      go_ret
      refine ⟨rfl, ?_⟩
      rw [hb, HX2.out]
      exact hid (H2.out.setE _)
    · rw [hb] at HX
      have HX2 : Hid (mstE 0 true e = 0) := HX
      go_wp2_with fail
      go_ret
      refine ⟨rfl, ?_⟩
      rw [hb, HX2.out]
      exact H2
  · have HX : Hid (mstE er (allM m.c m.p.o) e = er) := by rw [Hid, mstE, if_neg her]
    have he : (er == 0) = false := by simp [her]
    clear her
    go_enter Tryz.func119, Tryz.ntmps119
    go_wp2_with fail
    refine (fine_any _ c er c0).mono ?_
    rintro x w1 ⟨rfl, rfl⟩
    go_wp2_with fail
    go_ret
    refine ⟨rfl, ?_⟩
    rw [HX.out]
    exact H
theorem mst_chk (m : Pm) : mstE (mstE (mstE (mstE 0 (codB m.c) 6) (frmV m.c.toNat m.vs) 3) (witV m.c.toNat m.vs) 1) (allM m.c m.o) 6 = chk0M m := by
  unfold chk0M mstE
  cases codB m.c <;> cases frmV m.c.toNat m.vs <;> cases witV m.c.toNat m.vs <;> cases allM m.c m.o <;> rfl
theorem mst_cod (m : Pm) : mstE 0 (codB m.c) 6 = 0 → codB m.c = true := by
  unfold mstE; cases codB m.c <;> simp
theorem mst_frm (m : Pm) : mstE (mstE 0 (codB m.c) 6) (frmV m.c.toNat m.vs) 3 = 0 → codB m.c = true := by
  unfold mstE; cases codB m.c <;> simp
set_option maxHeartbeats 800000 in
theorem checked_any {B : Nat} (m : Mv) (w : World) (hm : m.ok w) (hV : CV B w) :
    Calls Tryz.prog 91 #[.agg m.cs] w fun x w' => ∃ c, x = .returned (.pointer (some ⟨c, 0, none⟩)) ∧ Hid (ChAt w w' c (chk0M m.p) m (.slice none 0 0)) := by
  have HM := hid hm
  have HV := hid hV
  have HA := hid hm.ro
  have R1 := hid (Row.new w 38 m.cs)
  have B1 := hid (balloc (Below.refl w.heap.size w) (.cells m.cs 38))
  clear hm hV
  go_enter Tryz.func91, Tryz.ntmps91
  go_upto_region 1 with fail
  generalize w.alloc (.cells m.cs 38) = w1 at *
  have H2 : Hid (ChAt w (w1.alloc (.cells (chc 0 m (.slice none 0 0)) 190)) w1.heap.size 0 m (.slice none 0 0)) := ⟨Row.new _ _ _, balloc B1.out _, B1.out.size, HA.out⟩
  go_upto_region 2 with (first | (refine ldM m29 _ rfl rfl _ _ rfl m HA.out R1.out.part ?_) | (refine bd72 _ rfl rfl m HA.out rfl ?_))
  generalize w1.alloc (.cells (chc 0 m (.slice none 0 0)) 190) = w2 at *
  generalize w1.heap.size = c at *
  clear R1
  go_wp2_with fail
  refine (must49 w _ c 0 6 m _ H2.out HM.out HV.out).mono ?_
  rintro x w3 ⟨rfl, H3⟩
  go_wp2_with fail
  refine (must50 w _ c _ 3 m _ H3.out HM.out HV.out (mst_cod m.p)).mono ?_
  rintro x w4 ⟨rfl, H4⟩
  go_wp2_with fail
  refine (must51 w _ c _ 1 m _ H4.out HM.out HV.out (mst_frm m.p)).mono ?_
  rintro x w5 ⟨rfl, H5⟩
  go_wp2_with fail
  refine (must52 w _ c _ 6 m _ H5.out HM.out HV.out).mono ?_
  rintro x w6 ⟨rfl, H6⟩
  have H7 : Hid (ChAt w w6 c (chk0M m.p) m (.slice none 0 0)) := by rw [Hid, ← mst_chk]; exact H6.out
  go_wp2_with fail
  go_ret
  exact ⟨c, rfl, H7⟩
end Go.Proofs.YtbklpelikaapoaaGreatDoor

namespace Go.Proofs.YtbklpelikaapoaaGreatDoor
open Go.ChangeShapes Go.WideShapes Go.ChangeAt Go.RowKit Go.Deep
set_option linter.unusedVariables false
set_option linter.unusedSimpArgs false

/-- At most twelve numbers, at most 100 bytes. -/
def cutP (p : Po) : Po := ⟨p.k, p.n.take 12, p.ad, p.t.take 100⟩
/-- An option with numbers of the call's own and a text that was there. -/
structure Mine (w0 w : World) (o : Ov) : Prop where
  n : w.ownsRow w0.heap.size 3 1 o.n.v o.n.l.length (i64s o.n.l)
  nn : o.n.n = o.n.l.length
  ad : Adr o.ad
  t : Lies .u8 w0 o.t.a o.t.n o.t.cap o.t.l
  oct : Oct o.t.l
theorem Mine.ok {w0 w : World} {o : Ov} (h : Mine w0 w o) (hb : Below w0.heap.size w0 w) : o.ok w := by
  refine ⟨?_, h.ad, h.t.below hb, h.oct⟩
  obtain ⟨a, cap, e, hl⟩ := owns_liesk h.n
  have e1 : Value.slice o.n.a o.n.n o.n.cap = .slice a o.n.l.length cap := e
  injection e1 with e2 e3 e4
  rw [e2, e3, e4]; exact hl
theorem Mine.below {w0 w w' : World} {o : Ov} (h : Mine w0 w o) (hb : Below w.heap.size w w') : Mine w0 w' o := ⟨own_below h.n hb, h.nn, h.ad, h.t, h.oct⟩
theorem Mine.kept {w0 w w' : World} {o : Ov} {v : Value} {n : Nat} {xs : List Value} (h : Mine w0 w o) (ho : w.ownsRow w0.heap.size 140 19 v n xs) (hg : w.grownBy w' v.ownBlock) : Mine w0 w' o :=
  ⟨h.n.kept hg (own_apart h.n ho (by decide)), h.nn, h.ad, h.t, h.oct⟩
theorem own_kept3 {w w' : World} {b b' : Nat} {v v' : Value} {n n' : Nat} {xs xs' : List Value} (h : w.ownsRow b 140 19 v n xs) (ho : w.ownsRow b' 3 1 v' n' xs') (hg : w.grownBy w' v'.ownBlock) : w'.ownsRow b 140 19 v n xs :=
  h.kept hg (own_apart h ho (by decide))
theorem Mine.new {w0 w w' : World} {o : Ov} {x : Obj} (h : Mine w0 w o) (hg : (w.alloc x).grownBy w' (some w.heap.size)) : Mine w0 w' o :=
  ⟨(h.n.alloc x).kept hg (by
    cases hv : o.n.v.ownBlock with
    | none => exact .inl rfl
    | some j => exact .inr (fun e => by have := Option.some.inj e; have := (h.n.lt j hv).2; omega)), h.nn, h.ad, h.t, h.oct⟩
theorem take_min' (l : List Int) (n m : Nat) (h : l.length = n) : l.take (min n m) = l.take m := by rw [Nat.min_comm, ← List.take_take, List.take_of_length_le (l := l) (by omega)]
theorem ocs_snoc (L : List Ov) (o : Ov) : ocs (L ++ [o]) = ocs L ++ o.cs.toList := by simp [ocs]

/-- What To tells, with whose memory it is. -/
def ToOk2 (w : World) (n : Nat) (L : List Ov) (e : Ending) (w' : World) : Prop := ∃ a' cap' L', e = .returned (.slice a' (min n 20) cap') ∧ Opts w' a' (min n 20) cap' L' ∧ pos L' = ((pos L).take 20).map cutP ∧ w'.ownsRow w.heap.size 140 19 (.slice a' (min n 20) cap') (min n 20) (ocs L') ∧ (∀ o ∈ L', Mine w w' o) ∧ (∀ o ∈ L', ∃ o2 ∈ L, o.t.a = o2.t.a ∧ o.t.n ≤ o2.t.n) ∧ Below w.heap.size w w'
set_option maxRecDepth 100000 in
set_option maxHeartbeats 3200000 in
theorem optTo2_any (a : Option Addr) (n cap : Nat) (L : List Ov) (w : World) (hL : Opts w a n cap L) :
    Calls Tryz.prog 47 #[.slice a n cap] w (ToOk2 w n L) := by
  have hz := zov
  have HL := hid hL
  have hlen := hL.len
  have HLen := hid hlen
  have hncap := hL.le
  have hcm := hL.max
  unfold maxLen at hcm
  obtain ⟨m, hm⟩ : ∃ m, min n 20 = m := ⟨_, rfl⟩
  have m1 : m ≤ n := by omega
  have m2 : m ≤ 20 := by omega
  have HM3 : Hid (∀ k, k < m ↔ k < n ∧ k < 20) := by intro k; omega
  have HM := hid hm
  clear hL hlen hm
  go_enter Tryz.func47, Tryz.ntmps47
  go_wp2_with fail
  go_loopw [3, 4] (fun v i wr => ∃ (k : Nat) (L' : List Ov), k ≤ m ∧ i = .int .i64 k ∧ Hid (L'.length = k) ∧ Hid (pos L' = ((pos L).take k).map cutP) ∧ Hid (wr.ownsRow w.heap.size 140 19 v k (ocs L')) ∧ Hid (∀ o ∈ L', Mine w wr o) ∧ Hid (∀ o ∈ L', ∃ o2 ∈ L, o.t.a = o2.t.a ∧ o.t.n ≤ o2.t.n) ∧ Hid (Below w.heap.size w wr)) (fun _ i _ => m - (intOf i).toNat)
  case atStart => exact ⟨0, [], by omega, rfl, rfl, rfl, World.ownsRow_nil _ _ _ _, (fun o ho => by cases ho), (fun o ho => by cases ho), Below.refl _ _⟩
  case round =>
    obtain ⟨k, L', hk, rfl, HLL, HPL, HO, HMi, HSr, HB⟩ := hrel
    by_cases hlt : k < m
    · have i1 : (k : Int) < (n : Int) := by omega
      have i2 : (k : Int) < 20 := by omega
      have i3 : k < n := by omega
      have hL1 := HL.out.below HB.out
      obtain ⟨b, off, rfl, hp⟩ := hL1.cell k i3
      have hkl : k < L.length := by rw [HLen.out]; exact i3
      have hok0 := HL.out.at k i3
      have HPS : Hid ((pos L).take (k + 1) = (pos L).take k ++ [(L.getD k Ov.zero).p]) := by
        rw [Hid, List.take_succ_eq_append_getElem (by rw [pos_len]; exact hkl)]; simp [pos, hkl]
      have HMem : Hid (L.getD k Ov.zero ∈ L) := by rw [Hid]; simp [hkl]
      generalize hoo : L.getD k Ov.zero = o at *
      have PP := hid hp
      have OK0 := hid hok0
      have HA := hid hok0.ad
      clear hL1 hp hok0 hoo hkl
      have R2 := hid (layOo_new wr 116 o)
      have B2 := hid (layOo_below wr 116 o)
      obtain ⟨q1, hq1⟩ : ∃ q1, min o.n.n 12 = q1 := ⟨_, rfl⟩
      obtain ⟨q2, hq2⟩ : ∃ q2, min o.t.n 100 = q2 := ⟨_, rfl⟩
      have hmin1 : (if (12 : Int) < (o.n.n : Int) then (12 : Int) else (o.n.n : Int)) = (q1 : Int) := by split <;> omega
      have hmin2 : (if (100 : Int) < (o.t.n : Int) then (100 : Int) else (o.t.n : Int)) = (q2 : Int) := by split <;> omega
      have hnc := OK0.out.n.2.1
      have hnm := OK0.out.n.2.2.1
      have htc := OK0.out.t.2.1
      have htm := OK0.out.t.2.2.1
      unfold maxLen at hnm htm
      have hq1n : q1 ≤ o.n.n := by omega
      have hq2n : q2 ≤ o.t.n := by omega
      have hq12 : q1 ≤ 12 := by omega
      have hq1c : (q1 : Int) ≤ (o.n.cap : Int) := by omega
      have hq2c : (q2 : Int) ≤ (o.t.cap : Int) := by omega
      have HQ1 := hid hq1
      have HQ2 := hid hq2
      clear hq1 hq2
      go_upto_region 6 with (first | (refine ldOo o38 _ rfl rfl _ _ rfl o HA.out PP.out ?_) | (refine stOo o38 _ _ rfl rfl wr.heap.size o HA.out rfl rfl 116 Ov.zero adr_zeros (Row.new wr 116 _) ?_))
      generalize hw2 : (wr.alloc (.cells Ov.zero.cs 116)).setRow wr.heap.size o.cs = w2 at *
      have O2 := hid (own_below HO.out B2.out)
      have M2 := hid (fun o ho => (HMi.out o ho).below B2.out)
      have B3 := hid (bthen HB.out B2.out)
      have LN := hid ((OK0.out.n.below B3.out).pre q1 hq1n)
      have LN0 := hid OK0.out.n.1
      have LT0 := hid OK0.out.t.1
      have BA0 := hid (balloc (Below.refl w2.heap.size w2) (.cells #[] 3))
      have R3 := hid (R2.out.alloc (.cells #[] 3))
      have O3 := hid (O2.out.alloc (.cells #[] 3))
      have B4 := hid (bthen B3.out BA0.out)
      have OW := hid (World.ownsRow_made (e := 3) (size := 1) (base := w.heap.size) w2 #[] 0 B3.out.size (by decide) (by simp))
      have LN3 := hid (LN.out.below BA0.out)
      generalize hgs : wr.heap.size = g at *
      clear hw2 hgs PP B2 HO HMi hz
      refine wp_region_held_drew (S := fun w' => w'.cell? ⟨g, 0, none⟩ = some (.int .i64 o.k) ∧ (w'.cell? ⟨g, 1, none⟩ = some (.slice o.n.a o.n.n o.n.cap) ∧ (w'.cell? ⟨g, 18, none⟩ = some (.slice o.t.a o.t.n o.t.cap) ∧ Hid (Row w' g 116 o.cs)))) (by kernel_rfl) ?_ (fun hHeld => ?_)
      · exact ⟨(R2.out.cell 0).trans o.at0, (R2.out.cell 1).trans o.at1, (R2.out.cell 18).trans (Ov.at18 HA.out), R2.out⟩
      refine wpAnyH_take (i := 0) (oi := _) (v := ?va0) rfl (by kernel_rfl) (by kernel_rfl) (by kernel_rfl) (fun _ _ _ h => h) (Or.inl ⟨by rfl, ?hya0⟩) (by assumption) ?resta0
      case hya0 => (intro w hSw; (try dsimp only at hSw); go_split_ands; go_simp; try (with_reducible rfl))
      try simp only [List.getElem_toArray, List.getElem_cons_zero, List.getElem_cons_succ, Act.put, List.setIfInBounds_toArray, List.set_cons_zero, List.set_cons_succ]
      refine wpAnyH_take (i := 1) (oi := _) (v := ?va1) rfl (by kernel_rfl) (by kernel_rfl) (by kernel_rfl) (fun _ _ _ h => h) (Or.inl ⟨by rfl, ?hya1⟩) (by assumption) ?resta1
      case hya1 => (intro w hSw; (try dsimp only at hSw); go_split_ands; go_simp; try (with_reducible rfl))
      try simp only [List.getElem_toArray, List.getElem_cons_zero, List.getElem_cons_succ, Act.put, List.setIfInBounds_toArray, List.set_cons_zero, List.set_cons_succ]
      refine wpAnyH_take (i := 2) (oi := _) (v := ?va2) rfl (by kernel_rfl) (by kernel_rfl) (by kernel_rfl) (fun _ _ _ h => h) (Or.inl ⟨by rfl, ?hya2⟩) (by assumption) ?resta2
      case hya2 => (intro w hSw; (try dsimp only at hSw); go_split_ands; go_simp; try (with_reducible rfl))
      try simp only [List.getElem_toArray, List.getElem_cons_zero, List.getElem_cons_succ, Act.put, List.setIfInBounds_toArray, List.set_cons_zero, List.set_cons_succ]
      refine wpAnyH_take (i := 4) (oi := _) (v := ?va4) rfl (by kernel_rfl) (by kernel_rfl) (by kernel_rfl) (fun _ _ _ h => h) (Or.inl ⟨by rfl, ?hya4⟩) (by assumption) ?resta4
      case hya4 => (intro w hSw; (try dsimp only at hSw); go_split_ands; go_simp; try (with_reducible rfl))
      try simp only [List.getElem_toArray, List.getElem_cons_zero, List.getElem_cons_succ, Act.put, List.setIfInBounds_toArray, List.set_cons_zero, List.set_cons_succ]
      refine wpAnyH_take (i := 5) (oi := _) (v := ?va5) rfl (by kernel_rfl) (by kernel_rfl) (by kernel_rfl) (fun _ _ _ h => h) (Or.inl ⟨by rfl, ?hya5⟩) (by assumption) ?resta5
      case hya5 => (intro w hSw; (try dsimp only at hSw); go_split_ands; go_simp; try (with_reducible rfl))
      try simp only [List.getElem_toArray, List.getElem_cons_zero, List.getElem_cons_succ, Act.put, List.setIfInBounds_toArray, List.set_cons_zero, List.set_cons_succ]
      refine wpAnyH_take (i := 6) (oi := _) (v := ?va6) rfl (by kernel_rfl) (by kernel_rfl) (by kernel_rfl) (fun _ _ _ h => h) (Or.inl ⟨by rfl, ?hya6⟩) (by assumption) ?resta6
      case hya6 => (intro w hSw; (try dsimp only at hSw); go_split_ands; go_simp; try (with_reducible rfl))
      try simp only [List.getElem_toArray, List.getElem_cons_zero, List.getElem_cons_succ, Act.put, List.setIfInBounds_toArray, List.set_cons_zero, List.set_cons_succ]
      refine wpAnyH_take (i := 7) (oi := _) (v := ?va7) rfl (by kernel_rfl) (by kernel_rfl) (by kernel_rfl) (fun _ _ _ h => h) (Or.inl ⟨by rfl, ?hya7⟩) (by assumption) ?resta7
      case hya7 => (intro w hSw; (try dsimp only at hSw); go_split_ands; go_simp; try (with_reducible rfl))
      try simp only [List.getElem_toArray, List.getElem_cons_zero, List.getElem_cons_succ, Act.put, List.setIfInBounds_toArray, List.set_cons_zero, List.set_cons_succ]
      refine wpAnyH_take (i := 8) (oi := _) (v := ?va8) rfl (by kernel_rfl) (by kernel_rfl) (by kernel_rfl) (fun _ _ _ h => h) (Or.inl ⟨by rfl, ?hya8⟩) (by assumption) ?resta8
      case hya8 => (intro w hSw; (try dsimp only at hSw); go_split_ands; go_simp; try (with_reducible rfl))
      try simp only [List.getElem_toArray, List.getElem_cons_zero, List.getElem_cons_succ, Act.put, List.setIfInBounds_toArray, List.set_cons_zero, List.set_cons_succ]
      refine wpAnyH_take (i := 9) (oi := _) (v := ?va9) rfl (by kernel_rfl) (by kernel_rfl) (by kernel_rfl) (fun _ _ _ h => h) (Or.inl ⟨by rfl, ?hya9⟩) (by assumption) ?resta9
      case hya9 => (intro w hSw; (try dsimp only at hSw); go_split_ands; go_simp; try (with_reducible rfl))
      try simp only [List.getElem_toArray, List.getElem_cons_zero, List.getElem_cons_succ, Act.put, List.setIfInBounds_toArray, List.set_cons_zero, List.set_cons_succ]
      refine wpAnyH_take (i := 10) (oi := _) (v := ?va10) rfl (by kernel_rfl) (by kernel_rfl) (by kernel_rfl) (fun _ _ _ h => h) (Or.inl ⟨by rfl, ?hya10⟩) (by assumption) ?resta10
      case hya10 => (intro w hSw; (try dsimp only at hSw); go_split_ands; go_simp; try (with_reducible rfl))
      try simp only [List.getElem_toArray, List.getElem_cons_zero, List.getElem_cons_succ, Act.put, List.setIfInBounds_toArray, List.set_cons_zero, List.set_cons_succ]
      refine wpAnyH_take (i := 12) (oi := _) (v := ?va12) rfl (by kernel_rfl) (by kernel_rfl) (by kernel_rfl) (fun _ _ _ h => h) (Or.inl ⟨by rfl, ?hya12⟩) (by assumption) ?resta12
      case hya12 => (intro w hSw; (try dsimp only at hSw); go_split_ands; go_simp; try (with_reducible rfl))
      try simp only [List.getElem_toArray, List.getElem_cons_zero, List.getElem_cons_succ, Act.put, List.setIfInBounds_toArray, List.set_cons_zero, List.set_cons_succ]
      refine wpAnyH_take (i := 13) (oi := _) (v := .agg (arr o.ad)) rfl (by kernel_rfl) (by kernel_rfl) (by kernel_rfl) (fun _ _ _ h => h) (yld36 (by rfl) _ rfl g 2 rfl o.ad HA.out (fun w h => by have := h.2.2.2.out.part.ovA HA.out; exact this)) (by assumption) ?_
      try simp only [List.getElem_toArray, List.getElem_cons_zero, List.getElem_cons_succ, Act.put, List.setIfInBounds_toArray, List.set_cons_zero, List.set_cons_succ]
      refine wpAnyH_take (i := 14) (oi := _) (v := ?va14) rfl (by kernel_rfl) (by kernel_rfl) (by kernel_rfl) (fun _ _ _ h => h) (Or.inl ⟨by rfl, ?hya14⟩) (by assumption) ?resta14
      case hya14 => (intro w hSw; (try dsimp only at hSw); go_split_ands; go_simp; try (with_reducible rfl))
      try simp only [List.getElem_toArray, List.getElem_cons_zero, List.getElem_cons_succ, Act.put, List.setIfInBounds_toArray, List.set_cons_zero, List.set_cons_succ]
      refine wpAnyH_take (i := 15) (oi := _) (v := ?va15) rfl (by kernel_rfl) (by kernel_rfl) (by kernel_rfl) (fun _ _ _ h => h) (Or.inl ⟨by rfl, ?hya15⟩) (by assumption) ?resta15
      case hya15 => (intro w hSw; (try dsimp only at hSw); go_split_ands; go_simp; try (with_reducible rfl))
      try simp only [List.getElem_toArray, List.getElem_cons_zero, List.getElem_cons_succ, Act.put, List.setIfInBounds_toArray, List.set_cons_zero, List.set_cons_succ]
      refine wpAnyH_take (i := 16) (oi := _) (v := ?va16) rfl (by kernel_rfl) (by kernel_rfl) (by kernel_rfl) (fun _ _ _ h => h) (Or.inl ⟨by rfl, ?hya16⟩) (by assumption) ?resta16
      case hya16 => (intro w hSw; (try dsimp only at hSw); go_split_ands; go_simp; try (with_reducible rfl))
      try simp only [List.getElem_toArray, List.getElem_cons_zero, List.getElem_cons_succ, Act.put, List.setIfInBounds_toArray, List.set_cons_zero, List.set_cons_succ]
      refine wpAnyH_take (i := 17) (oi := _) (v := ?va17) rfl (by kernel_rfl) (by kernel_rfl) (by kernel_rfl) (fun _ _ _ h => h) (Or.inl ⟨by rfl, ?hya17⟩) (by assumption) ?resta17
      case hya17 => (intro w hSw; (try dsimp only at hSw); go_split_ands; go_simp; try (with_reducible rfl))
      try simp only [List.getElem_toArray, List.getElem_cons_zero, List.getElem_cons_succ, Act.put, List.setIfInBounds_toArray, List.set_cons_zero, List.set_cons_succ]
      refine wpAnyH_take (i := 18) (oi := _) (v := ?va18) rfl (by kernel_rfl) (by kernel_rfl) (by kernel_rfl) (fun _ _ _ h => h) (Or.inl ⟨by rfl, ?hya18⟩) (by assumption) ?resta18
      case hya18 => (intro w hSw; (try dsimp only at hSw); go_split_ands; go_simp; try (with_reducible rfl))
      try simp only [List.getElem_toArray, List.getElem_cons_zero, List.getElem_cons_succ, Act.put, List.setIfInBounds_toArray, List.set_cons_zero, List.set_cons_succ]
      refine wpAnyH_take (i := 19) (oi := _) (v := ?va19) rfl (by kernel_rfl) (by kernel_rfl) (by kernel_rfl) (fun _ _ _ h => h) (Or.inl ⟨by rfl, ?hya19⟩) (by assumption) ?resta19
      case hya19 => (intro w hSw; (try dsimp only at hSw); go_split_ands; go_simp; try (with_reducible rfl))
      try simp only [List.getElem_toArray, List.getElem_cons_zero, List.getElem_cons_succ, Act.put, List.setIfInBounds_toArray, List.set_cons_zero, List.set_cons_succ]
      refine wpAnyH_take (i := 20) (oi := _) (v := ?va20) rfl (by kernel_rfl) (by kernel_rfl) (by kernel_rfl) (fun _ _ _ h => h) (Or.inl ⟨by rfl, ?hya20⟩) (by assumption) ?resta20
      case hya20 => (intro w hSw; (try dsimp only at hSw); go_split_ands; go_simp; try (with_reducible rfl))
      try simp only [List.getElem_toArray, List.getElem_cons_zero, List.getElem_cons_succ, Act.put, List.setIfInBounds_toArray, List.set_cons_zero, List.set_cons_succ]
      refine wpAnyH_ready (rs := [3]) (by kernel_rfl) (by simp) ?_
      refine AllReadyH.cons (o := _) rfl (fun K hK => ?_) AllReadyH.nil
      go_simp
      go_wp2_with fail
      refine hK.out _ _ ⟨(R3.out.cell 0).trans o.at0, (R3.out.cell 1).trans o.at1, (R3.out.cell 18).trans (Ov.at18 HA.out), R3.out⟩ (fun hHeld => ?_)
      clear hK K
      try simp only [List.getElem_toArray, List.getElem_cons_zero, List.getElem_cons_succ, Act.put, List.setIfInBounds_toArray, List.set_cons_zero, List.set_cons_succ]
      refine wpAnyH_ready (rs := [11]) (by kernel_rfl) (by simp) ?_
      refine AllReadyH.cons (o := _) rfl (fun K hK => ?_) AllReadyH.nil
      refine step_appI (base := w.heap.size) (n := 0) (m := q1) (xs := []) (l := o.n.l.take q1) rfl _ _ rfl rfl rfl (by exact OW.out) (by exact LN3.out) (by exact B4.out.size) (by omega) ?_
      intro v4 w4 hown4 hg4
      have hg4 : (w2.alloc (.cells #[] 3)).grownBy w4 (some w2.heap.size) := ⟨hg4.os, hg4.tape, hg4.output, hg4.size, hg4.block⟩
      rw [Nat.zero_add, List.nil_append] at hown4
      have R4 := hid (R3.out.kept hg4 (fun e => by have := Option.some.inj e; have := R2.out.lt; omega))
      have O4 := hid (own_kept3 O3.out OW.out hg4)
      have M4 := hid (fun o ho => (M2.out o ho).new hg4)
      have B5 := hid (Below.grown B4.out hg4 B4.out.size (fun k hk => by have := Option.some.inj hk; have := B3.out.size; omega))
      obtain ⟨na, nc, rfl⟩ := owns_len hown4
      have N4 := hid hown4
      clear hown4 hg4
      refine hK.out _ _ ⟨(R4.out.cell 0).trans o.at0, (R4.out.cell 1).trans o.at1, (R4.out.cell 18).trans (Ov.at18 HA.out), R4.out⟩ (fun hHeld => ?_)
      clear hK K
      try simp only [List.getElem_toArray, List.getElem_cons_zero, List.getElem_cons_succ, Act.put, List.setIfInBounds_toArray, List.set_cons_zero, List.set_cons_succ]
      refine wpAnyH_take (i := 21) (oi := _) (v := .agg (Ov.cs (⟨o.k, ⟨na, q1, nc, o.n.l.take q1⟩, o.ad, ⟨o.t.a, q2, o.t.cap, o.t.l.take q2⟩⟩ : Ov))) rfl (by kernel_rfl) (by kernel_rfl) (by kernel_rfl) (fun _ _ _ h => h) (ybdO o43 (by rfl) _ _ _ _ rfl (⟨o.k, ⟨na, q1, nc, o.n.l.take q1⟩, o.ad, ⟨o.t.a, q2, o.t.cap, o.t.l.take q2⟩⟩ : Ov) HA.out rfl rfl rfl rfl) (by assumption) ?_
      try simp only [List.getElem_toArray, List.getElem_cons_zero, List.getElem_cons_succ, Act.put, List.setIfInBounds_toArray, List.set_cons_zero, List.set_cons_succ]
      have XS : Hid (Txt.a (Ov.t (⟨o.k, ⟨na, q1, nc, o.n.l.take q1⟩, o.ad, ⟨o.t.a, q2, o.t.cap, o.t.l.take q2⟩⟩ : Ov)) = o.t.a ∧ Txt.n (Ov.t (⟨o.k, ⟨na, q1, nc, o.n.l.take q1⟩, o.ad, ⟨o.t.a, q2, o.t.cap, o.t.l.take q2⟩⟩ : Ov)) ≤ o.t.n) := ⟨rfl, hq2n⟩
      have MX : Hid (Mine w w4 (⟨o.k, ⟨na, q1, nc, o.n.l.take q1⟩, o.ad, ⟨o.t.a, q2, o.t.cap, o.t.l.take q2⟩⟩ : Ov)) := ⟨ownsRow_i64 N4.out rfl (by rw [List.length_take, LN0.out]; omega) rfl, by simp only [List.length_take, LN0.out]; omega, HA.out, OK0.out.t.pre q2 hq2n, oct_take OK0.out.oct _⟩
      have PX : Hid (Ov.p (⟨o.k, ⟨na, q1, nc, o.n.l.take q1⟩, o.ad, ⟨o.t.a, q2, o.t.cap, o.t.l.take q2⟩⟩ : Ov) = cutP o.p) := by rw [Hid, ← HQ1.out, ← HQ2.out]; simp only [Ov.p, cutP, take_min' _ _ _ LN0.out, take_min' _ _ _ LT0.out]
      generalize hX : (⟨o.k, ⟨na, q1, nc, o.n.l.take q1⟩, o.ad, ⟨o.t.a, q2, o.t.cap, o.t.l.take q2⟩⟩ : Ov) = X at *
      clear hX
      refine wpAnyH_ready (rs := [22]) (by kernel_rfl) (by simp) ?_
      refine AllReadyH.cons (o := _) rfl (fun K hK => ?_) AllReadyH.nil
      refine step_bsO s23 rfl _ rfl X MX.out.ad rfl ?_
      have R5 := hid (R4.out.alloc (.cells X.cs 140))
      have O5 := hid (O4.out.alloc (.cells X.cs 140))
      have BA := hid (balloc (Below.refl w4.heap.size w4) (.cells X.cs 140))
      have M5 := hid (fun o ho => (M4.out o ho).below BA.out)
      have MX5 := hid (MX.out.below BA.out)
      have B6 := hid (bthen B5.out BA.out)
      have RX := hid (Row.new w4 140 X.cs)
      refine hK.out _ _ ⟨(R5.out.cell 0).trans o.at0, (R5.out.cell 1).trans o.at1, (R5.out.cell 18).trans (Ov.at18 HA.out), R5.out⟩ (fun hHeld => ?_)
      clear hK K
      try simp only [List.getElem_toArray, List.getElem_cons_zero, List.getElem_cons_succ, Act.put, List.setIfInBounds_toArray, List.set_cons_zero, List.set_cons_succ]
      generalize hw5 : w4.alloc (.cells X.cs 140) = w5 at *
      generalize hg5 : w4.heap.size = g5 at *
      clear hw5 hg5
      refine wpAnyH_ready (rs := [23]) (by kernel_rfl) (by simp) ?_
      refine AllReadyH.cons (o := _) rfl (fun K hK => ?_) AllReadyH.nil
      refine step_pushO s23 rfl _ _ rfl w.heap.size k g5 _ (ocs L') rfl O5.out X MX5.out.ad rfl RX.out (by exact B6.out.size) (by omega) ?_
      intro v6 w6 hown6 hg6
      have R6 := hid (R5.out.kept hg6 (fun e => own_row O5.out R5.out (by decide) e.symm))
      have M6 := hid (fun o ho => (M5.out o ho).kept O5.out hg6)
      have MX6 := hid (MX5.out.kept O5.out hg6)
      have B7 := hid (Below.grown B6.out hg6 B6.out.size (fun j hj => (O5.out.lt j hj).1))
      have O6 := hid hown6
      clear hown6 hg6
      refine hK.out _ _ ⟨(R6.out.cell 0).trans o.at0, (R6.out.cell 1).trans o.at1, (R6.out.cell 18).trans (Ov.at18 HA.out), R6.out⟩ (fun hHeld => ?_)
      clear hK K
      try simp only [List.getElem_toArray, List.getElem_cons_zero, List.getElem_cons_succ, Act.put, List.setIfInBounds_toArray, List.set_cons_zero, List.set_cons_succ]
      refine wpAnyH_take (i := 24) (oi := _) (v := ?va24) rfl (by kernel_rfl) (by kernel_rfl) (by kernel_rfl) (fun _ _ _ h => h) (Or.inl ⟨by rfl, ?hya24⟩) (by assumption) ?resta24
      case hya24 => (intro w hSw; (try dsimp only at hSw); go_split_ands; go_simp; try (with_reducible rfl))
      try simp only [List.getElem_toArray, List.getElem_cons_zero, List.getElem_cons_succ, Act.put, List.setIfInBounds_toArray, List.set_cons_zero, List.set_cons_succ]
      refine wpAnyH_done (by kernel_rfl) ?_ _
      go_wp2_with fail
      go_roundw
      case rel =>
        refine ⟨k + 1, L' ++ [X], by omega, by go_num, ?_, ?_, ?_, ?_, ?_, B7.out⟩
        · rw [Hid, List.length_append, HLL.out]; rfl
        · rw [Hid, HPS.out, pos, List.map_append, List.map_append, ← HPL.out]; simp [pos, PX.out]
        · rw [Hid, ocs_snoc]; exact O6.out
        · intro o ho
          rcases List.mem_append.1 ho with h | h
          · exact M6.out o h
          · rw [List.mem_singleton.1 h]; exact MX6.out
        · intro o ho
          rcases List.mem_append.1 ho with h | h
          · exact HSr.out o h
          · rw [List.mem_singleton.1 h]; exact ⟨_, HMem.out, XS.out⟩
      case measure => simp [intOf]; omega
    · obtain rfl : k = m := by omega
      have hcase : ¬ ((k : Int) < (n : Int)) ∨ ((k : Int) < (n : Int) ∧ ¬ (k : Int) < 20) := by
        by_cases hn : k < n
        · have : ¬ k < 20 := fun h => absurd ((HM3.out k).2 ⟨hn, h⟩) (Nat.lt_irrefl _)
          omega
        · omega
      have HOK := hid (fun o ho => (HMi.out o ho).ok HB.out)
      obtain ⟨va, vc, hv, hop⟩ := owns_opts (by rw [HLL.out]; exact HO.out) HOK.out
      subst hv
      rw [HLL.out] at hop HO
      have HOP := hid hop
      have HPF : Hid (pos L' = ((pos L).take 20).map cutP) := by
        rw [Hid, HPL.out, ← HM.out]
        congr 1
        have := pos_len L
        rw [HLen.out] at this
        rw [Nat.min_comm, ← List.take_take, List.take_of_length_le (l := pos L) (by omega)]
      rw [HLL.out]
      clear hop
      rcases hcase with h | ⟨h, h'⟩
      · go_wp2_with fail
        go_ret
        unfold ToOk2
        exact ⟨va, vc, L', by rw [HM.out]; rfl, by rw [HM.out]; exact HOP.out, HPF.out, by rw [HM.out]; exact HO.out, HMi.out, HSr.out, HB.out⟩
      · go_wp2_with fail
        go_ret
        unfold ToOk2
        exact ⟨va, vc, L', by rw [HM.out]; rfl, by rw [HM.out]; exact HOP.out, HPF.out, by rw [HM.out]; exact HO.out, HMi.out, HSr.out, HB.out⟩
end Go.Proofs.YtbklpelikaapoaaGreatDoor

namespace Go.Proofs.YtbklpelikaapoaaGreatDoor
open Go.ChangeShapes Go.WideShapes Go.ChangeAt Go.RowKit Go.Deep
set_option linter.unusedVariables false
set_option linter.unusedSimpArgs false

end Go.Proofs.YtbklpelikaapoaaGreatDoor
