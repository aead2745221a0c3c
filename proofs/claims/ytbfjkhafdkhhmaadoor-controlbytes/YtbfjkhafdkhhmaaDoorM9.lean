/- Is each value of a message one that may be there? within. · Fields in numbers: how they are put together, and how they are taken. · The bytes of a message ahead of its options: head. -/
import Derived.Test.YtbfjkhafdkhhmaaDoorM8
import Derived.Test.YtbfjkhafdkhhmaaDoorM5
import Derived.Laws.BitsAllLaws
namespace Go.Proofs.YtbfjkhafdkhhmaaDoor
open Go.ChangeShapes Go.WideShapes Go.ChangeAt Go.RowKit Go.Deep
set_option linter.unusedVariables false
set_option linter.unusedSimpArgs false

theorem FAt.drewN {W w : World} {g1 g3 : Nat} {m : Mv} {v : List Int} (h : FAt W w g1 g3 m v) (q : Nat) : FAt W (w.drewN q) g1 g3 m v := h.on (bdrew (Below.refl _ _) q)
theorem all_snoc {α : Type} (l : List α) (d : α) (j : Nat) (h : j < l.length) (p : α → Bool) : (l.take (j + 1)).all p = ((l.take j).all p && p (l.getD j d)) := by
  rw [List.take_succ_eq_append_getElem h, List.all_append]; simp [h]
theorem all_no {α : Type} (l : List α) (d : α) (j : Nat) (h : j < l.length) (p : α → Bool) (hp : p (l.getD j d) = false) : l.all p = false := by
  rw [List.all_eq_false]; exact ⟨l[j], List.getElem_mem h, by simpa [h] using hp⟩
set_option maxRecDepth 100000 in
set_option maxHeartbeats 1600000 in
theorem cWithin_any {B : Nat} (m : Mv) (w : World) (hm : m.ok w) (hV : CV B w) (hc : codB m.c = true) : Calls Tryd.prog 51 #[.agg m.cs] w fun e w' => e = .returned (.bool (witV m.c.toNat m.p.vs)) ∧ Below w.heap.size w w' := by
  have hz := zvl
  obtain ⟨k, hk, hk4⟩ := cod_nat hc
  have hB := hid hV.le
  have HV := hid hV
  have HA := hid hm.ro
  have HC := hid hk
  have HFr : Hid (witV k m.p.vs = ((cpa k).all (inP m.p.vs) && (!crt k || m.p.vs.getD 10 0 == 1))) := rfl
  have HK4 := hid hk4
  have hk4' : (k : Int) < 4 := by omega
  have R1 := hid (Row.new w 29 m.cs)
  have B1 := hid (balloc (Below.refl w.heap.size w) (.cells m.cs 29))
  have hL := hid (cpa_len k hk4)
  obtain ⟨pa, pn, pc, c1, hP0⟩ := hV.c.parts k hk4
  have hpn : pn ≤ 6 := by rw [← hP0.len]; exact hL.out.1
  have hPL := hid hP0.len
  have c2 := hid (hV.c.root k hk4)
  have C1 := hid c1
  have HP := hid hP0
  rw [show m.c.toNat = k by omega]
  clear hV hm hc hP0 c1 hk
  go_enter Tryd.func51, Tryd.ntmps51
  go_upto_region 1 with fail
  generalize hw1 : w.alloc (.cells m.cs 29) = w1 at *
  generalize hg1 : w.heap.size = g1 at *
  clear hw1
  go_wp2_with (refine ldM m29 _ rfl rfl _ _ rfl m HA.out R1.out.part ?_)
  refine (valuesOf_any m _ HA.out).mono ?_
  rintro e w2 ⟨rfl, hb2⟩
  have R2 := hid (R1.out.below hb2)
  have B2 : Hid (Below g1 w w2) := hid (B1.out.trans (hb2.mono (by rw [← hg1]; exact B1.out.size)))
  clear hb2 R1 B1
  have Z2 := hid (layV_new w2 m.p.vs)
  have BZ := hid (layV_below w2 m.p.vs)
  go_upto_region 2 with (refine st74 _ _ rfl rfl w2.heap.size m.p.vs rfl rfl rfl 74 zer11 rfl (Row.new w2 74 _) ?_)
  have F3 : Hid (FAt w ((w2.alloc (.cells (nArr zer11) 74)).setRow w2.heap.size (nArr m.p.vs)) g1 w2.heap.size m m.p.vs) :=
    ⟨R2.out.below BZ.out, Z2.out, rfl, by rw [hg1]; exact B2.out.trans (BZ.out.mono (by rw [← hg1]; exact B2.out.size)), Nat.ne_of_lt R2.out.lt, B2.out.size⟩
  generalize hw3 : (w2.alloc (.cells (nArr zer11) 74)).setRow w2.heap.size (nArr m.p.vs) = w3 at *
  generalize hg3 : w2.heap.size = g3 at *
  clear hw3 hg3 R2 B2 Z2 BZ hz
  have c0 := (F3.out.r1.cell 0).trans m.at0
  rw [HC.out] at c0
  have HT := hid (cells_below F3.out.below (by rw [hg1]; exact hB.out))
  have c1 : w3.cell? ⟨0, k * 4 + 1, none⟩ = _ := (HT.out _ _ HV.out.c.pos).trans C1.out
  go_wp2_with fail
  generalize hvv : m.p.vs = v at *
  have HVV := hid hvv
  clear hvv
  go_loopw [16] (fun i wr => ∃ (j : Nat), j ≤ pn ∧ i = .int .i64 j ∧ Hid (((cpa k).take j).all (inP v) = true) ∧ Hid (FAt w wr g1 g3 m v)) (fun i _ => pn - (intOf i).toNat)
  case atStart => exact ⟨0, Nat.zero_le _, rfl, rfl, F3.out⟩
  case round =>
    obtain ⟨j, hj, rfl, HVv, F⟩ := hrel
    clear c1 c0
    by_cases hlt : j < pn
    · have hlt' : (j : Int) < (pn : Int) := by omega
      obtain ⟨b, off, ha, hbB, hcz, fa, fn, fc, hcf, hF0⟩ := (HP.out.same (cells_below F.out.below (by rw [hg1]; exact hB.out))).cell j hlt
      have hjl : j < (cpa k).length := by rw [hPL.out]; exact hlt
      have hLj := hid (hL.out.2 j hjl)
      have HS := hid (all_snoc (cpa k) Pa.none j hjl (inP v))
      have HN := hid (all_no (cpa k) Pa.none j hjl (inP v))
      rw [HVv.out] at HS
      generalize (cpa k).getD j Pa.none = p at *
      have HF := hid (hF0.same (w' := w) (fun b o h => ((cells_below F.out.below (by rw [hg1]; exact hB.out)) b o h).symm))
      have HFL := hid hF0.len
      have hfn : fn ≤ 3 := by rw [← HFL.out]; exact hLj.out.1
      subst ha
      clear hF0 hjl
      go_wp2_with fail
      have F4 := hid (F.out.on (balloc (Below.refl wr.heap.size wr) (.cells #[.int .i64 p.z, .slice fa fn fc] 108)))
      generalize wr.alloc (.cells #[.int .i64 p.z, .slice fa fn fc] 108) = w4 at *
      clear hcz hcf
      go_loopw [23] (fun i wr => ∃ (q : Nat), q ≤ fn ∧ i = .int .i64 q ∧ Hid ((p.f.take q).all (inF v) = true) ∧ Hid (FAt w wr g1 g3 m v)) (fun i _ => fn - (intOf i).toNat)
      case atStart => exact ⟨0, Nat.zero_le _, rfl, rfl, F4.out⟩
      case round =>
        obtain ⟨q, hq, rfl, HUu, FF⟩ := hrel
        by_cases hqt : q < fn
        · have hqt' : (q : Int) < (fn : Int) := by omega
          obtain ⟨b2, off2, hfa, hb2, e0, e1, e2⟩ := (HF.out.same (cells_below FF.out.below (by rw [hg1]; exact hB.out))).cell q hqt
          have hqf : q < p.f.length := by rw [HFL.out]; exact hqt
          have hb3 := (hLj.out.2 q hqf).1
          have hb4 := (hLj.out.2 q hqf).2.2
          have HS2 := hid (all_snoc p.f Fl.none q hqf (inF v))
          have HN2 := hid (all_no p.f Fl.none q hqf (inF v))
          rw [HUu.out] at HS2
          generalize p.f.getD q Fl.none = f at *
          obtain ⟨fp, fs, fl⟩ := f
          simp only at e0 e1 e2 hb3 hb4 HS2 HN2
          have hp11' : (fp : Int) < 11 := by omega
          have HIn : Hid (inF v ⟨fp, fs, fl⟩ = (decide (0 ≤ v.getD fp 0) && decide (v.getD fp 0 ≤ (fl : Int)))) := rfl
          subst hfa
          have FO := hid (FF.out.on (balloc (Below.refl wr.heap.size wr) (.cells #[.int .i64 fp, .int .i64 fs, .int .i64 fl] 110)))
          have RF := hid (Row.new wr 110 #[.int .i64 fp, .int .i64 fs, .int .i64 fl])
          clear hqf
          go_upto_region 8 with fail
          generalize wr.alloc (.cells #[.int .i64 fp, .int .i64 fs, .int .i64 fl] 110) = w5 at *
          generalize wr.heap.size = g5 at *
          clear e0 e1 e2
          have d0 := (RF.out.cell 0).trans rfl
          have d2 := (RF.out.cell 2).trans rfl
          have d3 := FO.out.cell fp hb3
          generalize v.getD fp 0 = z at d3 HIn
          by_cases h0 : z < 0
          · have e0 : decide (z < 0) = true := decide_eq_true h0
            go_quiet (fail)
            go_wp2_with fail
            go_ret
            refine ⟨ret_bool ?_, (FO.out.drewN _).below⟩
            have hi : inF v ⟨fp, fs, fl⟩ = false := by rw [HIn.out]; simp; omega
            rw [HVV.out, HFr.out, HN.out (HN2.out hi)]; rfl
          · have e0 : decide (z < 0) = false := decide_eq_false h0
            by_cases h1 : (fl : Int) < z
            · have e1 : decide ((fl : Int) < z) = true := decide_eq_true h1
              go_quiet (fail)
              go_wp2_with fail
              go_ret
              refine ⟨ret_bool ?_, by first | exact (FO.out.drewN _).below | (rw [← hg1]; exact (FO.out.drewN _).below)⟩
              have hi : inF v ⟨fp, fs, fl⟩ = false := by rw [HIn.out]; simp; omega
              rw [HVV.out, HFr.out, HN.out (HN2.out hi)]; rfl
            · have e1 : decide ((fl : Int) < z) = false := decide_eq_false h1
              go_quiet (fail)
              go_wp2_with fail
              go_roundw
              case rel => exact ⟨q + 1, by omega, by go_num, by rw [Hid, HS2.out, HIn.out]; simp; omega, FO.out.drewN _⟩
              case measure => simp [intOf]; omega
        · obtain rfl : q = fn := by omega
          rw [List.take_of_length_le (by rw [HFL.out]; exact Nat.le_refl _)] at HUu
          go_wp2_with fail
          go_roundw
          case rel => exact ⟨j + 1, by omega, by go_num, by rw [Hid, HS.out]; exact HUu.out, FF.out⟩
          case measure => simp [intOf]; omega
    · obtain rfl : j = pn := by omega
      rw [List.take_of_length_le (by rw [hPL.out]; exact Nat.le_refl _)] at HVv
      rw [HVv.out, Bool.true_and] at HFr
      have HT2 := hid (cells_below F.out.below (by rw [hg1]; exact hB.out))
      have c0 := (F.out.r1.cell 0).trans m.at0
      rw [HC.out] at c0
      have c3 : wr.cell? ⟨0, k * 4 + 2, none⟩ = _ := (HT2.out _ _ HV.out.c.pos).trans c2.out
      have d10 := F.out.cell 10 (by decide)
      cases hcr : crt k
      · rw [hcr] at c3 HFr
        go_wp2_with fail
        go_ret
        exact ⟨ret_bool (by rw [HVV.out, HFr.out]; rfl), F.out.below⟩
      · rw [hcr] at c3 HFr
        go_wp2_with fail
        go_ret
        exact ⟨ret_bool (by rw [HVV.out, HFr.out]; rfl), F.out.below⟩
end Go.Proofs.YtbfjkhafdkhhmaaDoor

namespace Go.Proofs.YtbfjkhafdkhhmaaDoor
open Go.ChangeShapes Go.WideShapes Go.ChangeAt Go.RowKit Go.Deep
set_option linter.unusedVariables false
set_option linter.unusedSimpArgs false

theorem wrap_small (n : Nat) (h : n < 9223372036854775808) : IntKind.i64.wrap (n : Int) = (n : Int) := by
  have e : (n : Int) % 2 ^ 64 = n := Int.emod_eq_of_lt (by omega) (by omega)
  simp only [IntKind.wrap, IntKind.bits, IntKind.signed, e]
  rw [if_neg]
  simp
  omega
theorem i64_or (a b : Nat) (ha : a < 9223372036854775808) (hb : b < 9223372036854775808) : bits .or .i64 (a : Int) (b : Int) = ((a ||| b : Nat) : Int) := by
  have hx : a ||| b < 2 ^ 63 := Nat.or_lt_two_pow (by omega) (by omega)
  show IntKind.i64.wrap ((BitVec.ofInt 64 (a : Int) ||| BitVec.ofInt 64 (b : Int)).toNat : Int) = _
  rw [BitVec.toNat_or, ofInt_u64 a (by omega), ofInt_u64 b (by omega)]
  exact wrap_small _ (by omega)
theorem i64_and (a b : Nat) (ha : a < 9223372036854775808) (hb : b < 9223372036854775808) : bits .and .i64 (a : Int) (b : Int) = ((a &&& b : Nat) : Int) := by
  have hx : a &&& b < 2 ^ 63 := Nat.and_lt_two_pow _ (by omega)
  show IntKind.i64.wrap ((BitVec.ofInt 64 (a : Int) &&& BitVec.ofInt 64 (b : Int)).toNat : Int) = _
  rw [BitVec.toNat_and, ofInt_u64 a (by omega), ofInt_u64 b (by omega)]
  exact wrap_small _ (by omega)
theorem i64_andNot (a b : Nat) (ha : a < 9223372036854775808) (hb : b < 9223372036854775808) : bits .andNot .i64 (a : Int) (b : Int) = ((a &&& (18446744073709551615 - b) : Nat) : Int) := by
  have hx : a &&& (18446744073709551615 - b) ≤ a := Nat.and_le_left
  show IntKind.i64.wrap ((BitVec.ofInt 64 (a : Int) &&& ~~~BitVec.ofInt 64 (b : Int)).toNat : Int) = _
  rw [BitVec.toNat_and, BitVec.toNat_not, ofInt_u64 a (by omega), ofInt_u64 b (by omega)]
  have e : 2 ^ 64 - 1 - b = 18446744073709551615 - b := by omega
  rw [e]
  exact wrap_small _ (by omega)
theorem w64s (z : Int) (h0 : 0 ≤ z) (h1 : z < 65536 * 256) : wrap64 z = z := by
  unfold wrap64; omega
theorem orI (a b : Int) (t : Nat) (ht : 2 ^ t ≤ 65536) (h0 : 0 ≤ a) (h1 : a < 65536) (h2 : a % 2 ^ t = 0) (h3 : 0 ≤ b) (h4 : b < 2 ^ t) : bits .or .i64 a b = a + b := by
  obtain ⟨A, rfl⟩ := Int.eq_ofNat_of_zero_le h0
  obtain ⟨B, rfl⟩ := Int.eq_ofNat_of_zero_le h3
  have hA : A % 2 ^ t = 0 := by exact_mod_cast h2
  have hB : B < 2 ^ t := by exact_mod_cast h4
  rw [i64_or A B (by omega) (by omega), nat_join t A B hA hB]; rfl
/-- Each field joins what is there. -/
def stO' (v : List Int) : Int → List Fl → Prop
  | _, [] => True
  | n, f :: fs => bits .or .i64 n (wrap64 (v.getD f.p 0 * 2 ^ f.s)) = n + v.getD f.p 0 * 2 ^ f.s ∧ stO' v (n + v.getD f.p 0 * 2 ^ f.s) fs
def orFn (v : List Int) (n : Int) (fs : List Fl) : Int := fs.foldl (fun n f => n + v.getD f.p 0 * 2 ^ f.s) n
theorem stO_at (v : List Int) (fs : List Fl) : ∀ n, stO' v n fs → ∀ q, q < fs.length → bits .or .i64 (orFn v n (fs.take q)) (wrap64 (v.getD (fs.getD q Fl.none).p 0 * 2 ^ (fs.getD q Fl.none).s)) = orFn v n (fs.take q) + v.getD (fs.getD q Fl.none).p 0 * 2 ^ (fs.getD q Fl.none).s := by
  induction fs with
  | nil => intro n _ q hq; simp at hq
  | cons f fs ih =>
    intro n h q hq
    cases q with
    | zero => exact h.1
    | succ q => exact ih _ h.2 q (by simpa using hq)
theorem fits_one (z : Nat) (n : Int) (hz : sizeB z = true) (h : okB z n = true) : fitsB z [n] = true := by simp [fitsB, hz, h]
theorem inF_of {v : List Int} {p s l : Nat} (h : inF v ⟨p, s, l⟩ = true) : 0 ≤ v.getD p 0 ∧ v.getD p 0 ≤ (l : Int) := by simpa [inF] using h
theorem one_ok (v : List Int) (z p l : Nat) (hz : sizeB z = true) (hl : (l : Int) < top z) (hs : l < 65536) (h : inF v ⟨p, 0, l⟩ = true) : stO' v 0 [⟨p, 0, l⟩] ∧ fitsB z [orF v [⟨p, 0, l⟩]] = true := by
  have hb := inF_of h
  refine ⟨⟨?_, trivial⟩, fits_one _ _ hz ?_⟩
  · generalize v.getD p 0 = x at *
    show bits .or .i64 0 (wrap64 (x * 2 ^ 0)) = 0 + x * 2 ^ 0
    rw [show x * 2 ^ 0 = x by omega, w64s _ (by omega) (by omega)]
    exact orI 0 _ 16 (by decide) (by decide) (by decide) (by decide) (by omega) (by omega)
  · show okB z (0 + v.getD p 0 * 2 ^ 0) = true
    generalize v.getD p 0 = x at *
    rw [show 0 + x * 2 ^ 0 = x by omega]
    simp [okB]; omega
theorem none_ok (v : List Int) (z : Nat) (hz : sizeB z = true) : stO' v 0 [] ∧ fitsB z [orF v []] = true := by
  refine ⟨trivial, fits_one _ _ hz ?_⟩
  show okB z 0 = true
  have : 0 < top z := by unfold top; split; decide; split <;> decide
  simp [okB]; omega
theorem bit7_ok (v : List Int) (p : Nat) (h : inF v ⟨p, 7, 1⟩ = true) : stO' v 0 [⟨p, 7, 1⟩] ∧ fitsB 1 [orF v [⟨p, 7, 1⟩]] = true := by
  have hb := inF_of h
  refine ⟨⟨?_, trivial⟩, fits_one _ _ rfl ?_⟩
  · generalize v.getD p 0 = x at *
    show bits .or .i64 0 (wrap64 (x * 2 ^ 7)) = 0 + x * 2 ^ 7
    rw [w64s _ (by omega) (by omega)]
    exact orI 0 _ 16 (by decide) (by decide) (by decide) (by decide) (by omega) (by omega)
  · show okB 1 (0 + v.getD p 0 * 2 ^ 7) = true
    generalize v.getD p 0 = x at *
    simp [okB, top]; omega
theorem dao_ok (v : List Int) (h1 : inF v ⟨7, 7, 1⟩ = true) (h2 : inF v ⟨10, 6, 1⟩ = true) : stO' v 0 [⟨7, 7, 1⟩, ⟨10, 6, 1⟩] ∧ fitsB 1 [orF v [⟨7, 7, 1⟩, ⟨10, 6, 1⟩]] = true := by
  have hb := inF_of h1
  have hc := inF_of h2
  refine ⟨⟨(bit7_ok v 7 h1).1.1, ?_, trivial⟩, fits_one _ _ rfl ?_⟩
  · show bits .or .i64 (0 + v.getD 7 0 * 2 ^ 7) (wrap64 (v.getD 10 0 * 2 ^ 6)) = 0 + v.getD 7 0 * 2 ^ 7 + v.getD 10 0 * 2 ^ 6
    generalize v.getD 7 0 = x at *
    generalize v.getD 10 0 = y at *
    rw [w64s _ (by omega) (by omega)]
    exact orI _ _ 7 (by decide) (by omega) (by omega) (by omega) (by omega) (by omega)
  · show okB 1 (0 + v.getD 7 0 * 2 ^ 7 + v.getD 10 0 * 2 ^ 6) = true
    generalize v.getD 7 0 = x at *
    generalize v.getD 10 0 = y at *
    simp [okB, top]; omega
theorem dio_ok (v : List Int) (h1 : inF v ⟨3, 7, 1⟩ = true) (h2 : inF v ⟨4, 3, 7⟩ = true) (h3 : inF v ⟨5, 0, 7⟩ = true) : stO' v 0 [⟨3, 7, 1⟩, ⟨4, 3, 7⟩, ⟨5, 0, 7⟩] ∧ fitsB 1 [orF v [⟨3, 7, 1⟩, ⟨4, 3, 7⟩, ⟨5, 0, 7⟩]] = true := by
  have hb := inF_of h1
  have hc := inF_of h2
  have hd := inF_of h3
  refine ⟨⟨(bit7_ok v 3 h1).1.1, ?_, ?_, trivial⟩, fits_one _ _ rfl ?_⟩
  · show bits .or .i64 (0 + v.getD 3 0 * 2 ^ 7) (wrap64 (v.getD 4 0 * 2 ^ 3)) = 0 + v.getD 3 0 * 2 ^ 7 + v.getD 4 0 * 2 ^ 3
    generalize v.getD 3 0 = x at *
    generalize v.getD 4 0 = y at *
    rw [w64s _ (by omega) (by omega)]
    exact orI _ _ 7 (by decide) (by omega) (by omega) (by omega) (by omega) (by omega)
  · show bits .or .i64 (0 + v.getD 3 0 * 2 ^ 7 + v.getD 4 0 * 2 ^ 3) (wrap64 (v.getD 5 0 * 2 ^ 0)) = 0 + v.getD 3 0 * 2 ^ 7 + v.getD 4 0 * 2 ^ 3 + v.getD 5 0 * 2 ^ 0
    generalize v.getD 3 0 = x at *
    generalize v.getD 4 0 = y at *
    generalize v.getD 5 0 = z at *
    rw [w64s _ (by omega) (by omega)]
    exact orI _ _ 3 (by decide) (by omega) (by omega) (by omega) (by omega) (by omega)
  · show okB 1 (0 + v.getD 3 0 * 2 ^ 7 + v.getD 4 0 * 2 ^ 3 + v.getD 5 0 * 2 ^ 0) = true
    generalize v.getD 3 0 = x at *
    generalize v.getD 4 0 = y at *
    generalize v.getD 5 0 = z at *
    simp [okB, top]; omega
theorem parts_ok (k : Nat) (hk : k < 4) (v : List Int) (h : witV k v = true) : ∀ p ∈ cpa k, stO' v 0 p.f ∧ fitsB p.z [orF v p.f] = true := by
  have h1 : (cpa k).all (inP v) = true := by simp [witV] at h ⊢; exact h.1
  have hk' : k = 0 ∨ k = 1 ∨ k = 2 ∨ k = 3 := by omega
  rcases hk' with rfl | rfl | rfl | rfl
  · intro p hp
    simp only [cpa, cpas, List.getD_cons_zero, List.mem_singleton] at hp
    subst hp
    exact none_ok v 2 rfl
  · simp only [cpa, cpas, List.getD_cons_zero, List.getD_cons_succ, inP, List.all_cons, List.all_nil, Bool.and_true, Bool.and_eq_true] at h1
    obtain ⟨a0, a1, a2, ⟨b1, b2, b3⟩, a4⟩ := h1
    intro p hp
    simp only [cpa, cpas, List.getD_cons_zero, List.getD_cons_succ, List.mem_cons, List.not_mem_nil, or_false] at hp
    rcases hp with rfl | rfl | rfl | rfl | rfl | rfl
    · exact one_ok v 1 0 255 rfl (by decide) (by decide) a0
    · exact one_ok v 1 1 255 rfl (by decide) (by decide) a1
    · exact one_ok v 2 2 65535 rfl (by decide) (by decide) a2
    · exact dio_ok v b1 b2 b3
    · exact one_ok v 1 6 255 rfl (by decide) (by decide) a4
    · exact none_ok v 2 rfl
  · simp only [cpa, cpas, List.getD_cons_zero, List.getD_cons_succ, inP, List.all_cons, List.all_nil, Bool.and_true, Bool.and_eq_true] at h1
    obtain ⟨a0, ⟨b1, b2⟩, _, a3⟩ := h1
    intro p hp
    simp only [cpa, cpas, List.getD_cons_zero, List.getD_cons_succ, List.mem_cons, List.not_mem_nil, or_false] at hp
    rcases hp with rfl | rfl | rfl | rfl
    · exact one_ok v 1 0 255 rfl (by decide) (by decide) a0
    · exact dao_ok v b1 b2
    · exact none_ok v 1 rfl
    · exact one_ok v 1 8 255 rfl (by decide) (by decide) a3
  · simp only [cpa, cpas, List.getD_cons_zero, List.getD_cons_succ, inP, List.all_cons, List.all_nil, Bool.and_true, Bool.and_eq_true] at h1
    obtain ⟨a0, b1, a2, a3⟩ := h1
    intro p hp
    simp only [cpa, cpas, List.getD_cons_zero, List.getD_cons_succ, List.mem_cons, List.not_mem_nil, or_false] at hp
    rcases hp with rfl | rfl | rfl | rfl
    · exact one_ok v 1 0 255 rfl (by decide) (by decide) a0
    · exact bit7_ok v 10 b1
    · exact one_ok v 1 8 255 rfl (by decide) (by decide) a2
    · exact one_ok v 1 9 255 rfl (by decide) (by decide) a3
end Go.Proofs.YtbfjkhafdkhhmaaDoor

namespace Go.Proofs.YtbfjkhafdkhhmaaDoor
open Go.ChangeShapes Go.WideShapes Go.ChangeAt Go.RowKit Go.Deep
set_option linter.unusedVariables false
set_option linter.unusedSimpArgs false

theorem hdV_succ (ps : List Pa) (v : List Int) (j : Nat) (h : j < ps.length) : hdV v (ps.take (j + 1)) = hdV v (ps.take j) ++ hdP v (ps.getD j Pa.none) := by
  rw [hdV, hdV, List.take_succ_eq_append_getElem h, List.flatMap_append]; simp [h]
theorem getDm {α : Type} (l : List α) (d : α) (j : Nat) (h : j < l.length) : l.getD j d ∈ l := by simp [h]
theorem orF_succ (fs : List Fl) (v : List Int) (j : Nat) (h : j < fs.length) : orF v (fs.take (j + 1)) = orF v (fs.take j) + v.getD (fs.getD j Fl.none).p 0 * 2 ^ (fs.getD j Fl.none).s := by
  rw [orF, orF, List.take_succ_eq_append_getElem h, List.foldl_append]; simp [h]
set_option maxRecDepth 100000 in
set_option maxHeartbeats 1600000 in
theorem head_any {B : Nat} (m : Mv) (w : World) (hm : m.ok w) (hV : CV B w) (hc : codB m.c = true) (hw : witV m.c.toNat m.p.vs = true) : Calls Tryd.prog 29 #[.agg m.cs] w fun e w' => ∃ v, e = .returned (.tuple #[v, .int .i64 0]) ∧ w'.ownsRow w.heap.size 5 1 v (hdM m.p).length (u8s (hdM m.p)) ∧ Below w.heap.size w w' := by
  have hz := zvl
  obtain ⟨k, hk, hk4⟩ := cod_nat hc
  have hB := hid hV.le
  have HV := hid hV
  have HA := hid hm.ro
  have HC := hid hk
  have HCn : Hid (m.c.toNat = k) := by rw [Hid]; omega
  rw [HCn.out] at hw
  have HW := hid hw
  have HK4 := hid hk4
  have hk4' : (k : Int) < 4 := by omega
  have R1 := hid (Row.new w 29 m.cs)
  have B1 := hid (balloc (Below.refl w.heap.size w) (.cells m.cs 29))
  have hL := hid (cpa_len k hk4)
  obtain ⟨pa, pn, pc, c1, hP0⟩ := hV.c.parts k hk4
  have hpn : pn ≤ 6 := by rw [← hP0.len]; exact hL.out.1
  have hPL := hid hP0.len
  have c2 := hid (hV.c.root k hk4)
  have C1 := hid c1
  have HP := hid hP0
  clear hV hm hc hP0 c1 hk hw
  go_enter Tryd.func29, Tryd.ntmps29
  go_upto_region 1 with fail
  generalize hw1 : w.alloc (.cells m.cs 29) = w1 at *
  generalize hg1 : w.heap.size = g1 at *
  clear hw1
  go_wp2_with (refine ldM m29 _ rfl rfl _ _ rfl m HA.out R1.out.part ?_)
  refine (valuesOf_any m _ HA.out).mono ?_
  rintro e w2 ⟨rfl, hb2⟩
  have R2 := hid (R1.out.below hb2)
  have B2 : Hid (Below g1 w w2) := hid (B1.out.trans (hb2.mono (by rw [← hg1]; exact B1.out.size)))
  clear hb2 R1 B1
  have Z2 := hid (layV_new w2 m.p.vs)
  have BZ := hid (layV_below w2 m.p.vs)
  go_upto_region 2 with (refine st74 _ _ rfl rfl w2.heap.size m.p.vs rfl rfl rfl 74 zer11 rfl (Row.new w2 74 _) ?_)
  have F3 : Hid (FAt w ((w2.alloc (.cells (nArr zer11) 74)).setRow w2.heap.size (nArr m.p.vs)) g1 w2.heap.size m m.p.vs) :=
    ⟨R2.out.below BZ.out, Z2.out, rfl, by rw [hg1]; exact B2.out.trans (BZ.out.mono (by rw [← hg1]; exact B2.out.size)), Nat.ne_of_lt R2.out.lt, B2.out.size⟩
  generalize hw3 : (w2.alloc (.cells (nArr zer11) 74)).setRow w2.heap.size (nArr m.p.vs) = w3 at *
  generalize hg3 : w2.heap.size = g3 at *
  clear hw3 hg3 R2 B2 Z2 BZ hz
  have c0 := (F3.out.r1.cell 0).trans m.at0
  rw [HC.out] at c0
  have HT := hid (cells_below F3.out.below (by rw [hg1]; exact hB.out))
  have c1 : w3.cell? ⟨0, k * 4 + 1, none⟩ = _ := (HT.out _ _ HV.out.c.pos).trans C1.out
  go_wp2_with fail
  generalize hvv : m.p.vs = v at *
  have HVV := hid hvv
  clear hvv
  go_loopw [5, 19] (fun o i wr => ∃ (j : Nat), j ≤ pn ∧ i = .int .i64 j ∧ Hid ((hdV v ((cpa k).take j)).length ≤ 4 * j) ∧ Hid (wr.ownsRow w.heap.size 5 1 o (hdV v ((cpa k).take j)).length (u8s (hdV v ((cpa k).take j)))) ∧ Hid (FAt w wr g1 g3 m v)) (fun _ i _ => pn - (intOf i).toNat)
  case atStart => exact ⟨0, Nat.zero_le _, rfl, Nat.le_refl _, World.ownsRow_nil _ _ _ _, F3.out⟩
  case round =>
    obtain ⟨j, hj, rfl, HLn, HO, F⟩ := hrel
    clear c1 c0
    by_cases hlt : j < pn
    · have hlt' : (j : Int) < (pn : Int) := by omega
      obtain ⟨b, off, ha, hbB, hcz, fa, fn, fc, hcf, hF0⟩ := (HP.out.same (cells_below F.out.below (by rw [hg1]; exact hB.out))).cell j hlt
      have hjl : j < (cpa k).length := by rw [hPL.out]; exact hlt
      have hLj := hid (hL.out.2 j hjl)
      have HS := hid (hdV_succ (cpa k) v j hjl)
      have HPO := hid (parts_ok k HK4.out v HW.out _ (getDm (cpa k) Pa.none j hjl))
      generalize (cpa k).getD j Pa.none = p at *
      have HF := hid (hF0.same (w' := w) (fun b o h => ((cells_below F.out.below (by rw [hg1]; exact hB.out)) b o h).symm))
      have HFL := hid hF0.len
      have hfn : fn ≤ 3 := by rw [← HFL.out]; exact hLj.out.1
      subst ha
      clear hF0 hjl
      go_wp2_with fail
      have BA := hid (balloc (Below.refl wr.heap.size wr) (.cells #[.int .i64 p.z, .slice fa fn fc] 108))
      have F4 := hid (F.out.on BA.out)
      have O4 := hid (own_below HO.out BA.out)
      have RP := hid (Row.new wr 108 #[.int .i64 p.z, .slice fa fn fc])
      generalize wr.alloc (.cells #[.int .i64 p.z, .slice fa fn fc] 108) = w4 at *
      generalize wr.heap.size = g4 at *
      clear hcz hcf BA
      go_loopw [8, 26] (fun n i wr => ∃ (q : Nat), q ≤ fn ∧ i = .int .i64 q ∧ n = .int .i64 (orF v (p.f.take q)) ∧ Hid (Below w4.heap.size w4 wr)) (fun _ i _ => fn - (intOf i).toNat)
      case atStart => exact ⟨0, Nat.zero_le _, rfl, rfl, Below.refl _ _⟩
      case round =>
        obtain ⟨q, hq, rfl, rfl, HB⟩ := hrel
        by_cases hqt : q < fn
        · have hqt' : (q : Int) < (fn : Int) := by omega
          have FF := hid (F4.out.on HB.out)
          obtain ⟨b2, off2, hfa, hb2, e0, e1, e2⟩ := (HF.out.same (cells_below FF.out.below (by rw [hg1]; exact hB.out))).cell q hqt
          have hqf : q < p.f.length := by rw [HFL.out]; exact hqt
          have hb3 := (hLj.out.2 q hqf).1
          have hb4 := (hLj.out.2 q hqf).2.1
          have HS2 := hid (orF_succ p.f v q hqf)
          have HST := hid (stO_at v p.f 0 HPO.out.1 q hqf)
          rw [show orFn v 0 (p.f.take q) = orF v (p.f.take q) from rfl] at HST
          generalize p.f.getD q Fl.none = f at *
          obtain ⟨fp, fs, fl⟩ := f
          simp only at e0 e1 e2 hb3 hb4 HS2 HST
          have hp11' : (fp : Int) < 11 := by omega
          have hs8 : (fs : Int) < 8 := by omega
          subst hfa
          have BF := hid (balloc (Below.refl wr.heap.size wr) (.cells #[.int .i64 fp, .int .i64 fs, .int .i64 fl] 110))
          have FO := hid (FF.out.on BF.out)
          have B5 := hid (bthen HB.out BF.out)
          have RF := hid (Row.new wr 110 #[.int .i64 fp, .int .i64 fs, .int .i64 fl])
          clear hqf BF
          go_upto_region 10 with fail
          generalize wr.alloc (.cells #[.int .i64 fp, .int .i64 fs, .int .i64 fl] 110) = w5 at *
          generalize wr.heap.size = g5 at *
          clear e0 e1 e2
          have d0 := (RF.out.cell 0).trans rfl
          have d1 := (RF.out.cell 1).trans rfl
          have d3 := FO.out.cell fp hb3
          generalize v.getD fp 0 = z at *
          generalize orF v (p.f.take q) = n at *
          go_quiet (fail)
          go_wp2_with fail
          go_roundw
          case rel => exact ⟨q + 1, by omega, by go_num, by rw [HS2.out, HST.out], hid (bdrew B5.out _)⟩
          case measure => simp [intOf]; omega
        · obtain rfl : q = fn := by omega
          rw [List.take_of_length_le (by rw [HFL.out]; exact Nat.le_refl _)]
          have F6 := hid (F4.out.on HB.out)
          have O6 := hid (own_below O4.out HB.out)
          have R6 := hid (RP.out.below HB.out)
          obtain ⟨oa, oc, rfl, hlo, _⟩ := owns_lies O6.out
          have LO := hid hlo
          clear hlo
          have hn4 := HLn.out
          have d0 := (R6.out.cell 0).trans rfl
          have HS1 : Hid (hdV v ((cpa k).take (j + 1)) = hdV v ((cpa k).take j) ++ bytesOf p.z [orF v p.f]) := HS
          have HPF := hid HPO.out.2
          have hbl : (bytesOf p.z [orF v p.f]).length ≤ 4 := by
            have hz : sizeB p.z = true := by have := HPF.out; simp [fitsB] at this; exact this.1
            rw [bytesOf_length _ _ hz]; simp
            rcases sizeB_cases hz with h | h | h <;> omega
          generalize orF v p.f = n at *
          generalize hdV v ((cpa k).take j) = hl at *
          have HPE : Hid (putE p.z hl.length [n] = 0) := by
            have hz : sizeB p.z = true := by have := HPF.out; simp [fitsB] at this; exact this.1
            rw [Hid, putE, if_pos HPF.out, if_neg]
            simp
            rcases sizeB_cases hz with h | h | h <;> omega
          have HPL2 : Hid (putL p.z hl [n] = hl ++ bytesOf p.z [n]) := by rw [Hid, putL, if_pos HPE.out]
          have BA := hid (balloc (Below.refl wr.heap.size wr) (.cells #[.int .i64 n] 3))
          have LN := hid (lies_new .i64 wr #[.int .i64 n] 3 [n] rfl (by simp))
          have F7 := hid (F6.out.on BA.out)
          have LO7 := hid (LO.out.below BA.out)
          generalize hln : hl.length = ln at *
          have HLN := hid hln
          clear hln
          go_wp2_with fail
          generalize wr.alloc (.cells #[.int .i64 n] 3) = w7 at *
          generalize wr.heap.size = g7 at *
          refine (put_any oa (some ⟨g7, 0, none⟩) ln oc 1 1 p.z hl [n] _ LO7.out LN.out (by omega) (by omega)).mono ?_
          rintro e w8 ⟨v8, rfl, hown8, hb8⟩
          rw [HLN.out, HPE.out]
          rw [HPL2.out] at hown8
          have F8 := hid (F7.out.on hb8)
          have O8 := hid (own_mono hown8 F7.out.below.size)
          clear hown8 hb8
          go_wp2_with fail
          go_roundw
          case rel =>
            refine ⟨j + 1, by omega, by go_num, ?_, ?_, F8.out⟩
            · rw [Hid, HS1.out, List.length_append, HLN.out]; omega
            · rw [Hid, HS1.out]; exact O8.out
          case measure => simp [intOf]; omega
    · obtain rfl : j = pn := by omega
      rw [List.take_of_length_le (by rw [hPL.out]; exact Nat.le_refl _)] at HO HLn
      have HD : Hid (hdM m.p = hdV v (cpa k) ++ (if v.getD 10 0 = 1 then m.ro else [])) := by
        rw [Hid, hdM, HVV.out]
        show hdV v (cpa m.c.toNat) ++ _ = _
        rw [HCn.out]; rfl
      have d10 := F.out.cell 10 (by decide)
      obtain ⟨oa, oc, rfl, hlo, _⟩ := owns_lies HO.out
      have hl24 := HLn.out
      clear hlo
      generalize hdV v (cpa k) = hl at *
      by_cases h1 : v.getD 10 0 = 1
      · rw [if_pos h1] at HD
        rw [h1] at d10
        have PR := hid (F.out.r1.part.mvA HA.out)
        have LR := hid (part_lies HA.out PR.out)
        rw [Nat.zero_add] at LR
        have OO := hid HO.out
        generalize hln : hl.length = ln at *
        have HLN := hid hln
        clear hln
        go_wp2_with (at_builtin; refine wpList_appB rfl _ _ rfl rfl rfl OO.out LR.out ?c1 ?c2 ?_)
        case c1 => exact F.out.below.size
        case c2 => omega
        intro v5 w5 ho5 hb5
        rw [← hg1] at hb5 ho5
        have O5 := hid ho5
        have B6 := hid (F.out.below.trans hb5)
        clear ho5 hb5
        go_wp2_with fail
        go_ret2
        exact ⟨_, rfl, by rw [HD.out, List.length_append, HLN.out, HA.out.1]; exact O5.out, B6.out⟩
      · rw [if_neg h1, List.append_nil] at HD
        have e1 : (v.getD 10 0 == 1) = false := by simpa using h1
        clear h1
        generalize v.getD 10 0 = z at *
        generalize hln : hl.length = ln at *
        have HLN := hid hln
        clear hln
        go_wp2_with fail
        go_ret2
        exact ⟨_, rfl, by rw [HD.out, HLN.out]; exact HO.out, F.out.below⟩
end Go.Proofs.YtbfjkhafdkhhmaaDoor
