/- The document's Decode. -/
import Derived.Test.YtbfjkhafdkhhmaaDoorM25
import Derived.Test.YtbfjkhafdkhhmaaDoorM29
import Derived.Deep.CutBlock
namespace Go.Proofs.YtbfjkhafdkhhmaaDoor
open Go.ChangeShapes Go.WideShapes Go.ChangeAt Go.RowKit Go.Deep
set_option linter.unusedVariables false
set_option linter.unusedSimpArgs false

theorem flb (b : Int) (h0 : 0 ≤ b) (h1 : b < 256) : wrap64 (b.tdiv 64) = b / 64 ∧ wrap64 (b.tdiv 128) = b / 128 ∧ wrap64 (b.tdiv 8) = b / 8 ∧ (b / 64).tmod 2 = b / 64 % 2 ∧ (b / 8).tmod 8 = b / 8 % 8 ∧ b.tmod 8 = b % 8 ∧ b.tmod 64 = b % 64 ∧ b.tmod 128 = b % 128 := by
  rw [Int.tdiv_eq_ediv_of_nonneg h0, Int.tdiv_eq_ediv_of_nonneg h0, Int.tdiv_eq_ediv_of_nonneg h0, Int.tmod_eq_emod_of_nonneg (by omega), Int.tmod_eq_emod_of_nonneg (by omega), Int.tmod_eq_emod_of_nonneg h0, Int.tmod_eq_emod_of_nonneg h0, Int.tmod_eq_emod_of_nonneg h0]
  exact ⟨w64s _ (by omega) (by omega), w64s _ (by omega) (by omega), w64s _ (by omega) (by omega), rfl, rfl, rfl, rfl, rfl⟩
theorem opP0 (l : List Int) (at_ : Nat) : opP l at_ 0 = if (dec 0 (l.drop at_)).2 = 0 then (dec 0 (l.drop at_)).1 else [] := by simp only [opP, rst, if_true]
theorem opE0 (c : Int) (l : List Int) (at_ : Nat) : opE c l at_ 0 = if (dec 0 (l.drop at_)).2 = 0 then (if allM c (dec 0 (l.drop at_)).1 = true then 0 else 6) else (dec 0 (l.drop at_)).2 := by
  simp only [opE, opP, rst, if_true, spE]
  by_cases h : (dec 0 (l.drop at_)).2 = 0
  · simp only [h, if_true]
  · simp only [h, if_false, if_true]; simp [allM]
theorem opE_bad {c : Int} {l : List Int} {at_ : Nat} {er : Int} (h : er ≠ 0) : opE c l at_ er = er := by
  simp only [opE, opP, rst, if_neg h, spE]
  have : (dec 0 ([] : List Int)) = ([], 0) := dec_nil 0
  simp [this, allM]
theorem allM_no {c : Int} {L : List Ov} {o : Ov} (h : o ∈ L) (h2 : mayB c o.k = false) : ¬ allM c (pos L) = true := by
  rw [Bool.not_eq_true, allM, List.all_eq_false]
  exact ⟨o.p, List.mem_map.2 ⟨o, h, rfl⟩, by simpa [Ov.p] using h2⟩
theorem allM_yes {c : Int} {L : List Ov} (h : ∀ i, i < L.length → mayB c (L.getD i Ov.zero).k = true) : allM c (pos L) = true := by
  simp only [allM, pos, List.all_map, List.all_eq_true]
  intro o ho
  obtain ⟨i, hi, rfl⟩ := List.mem_iff_getElem.1 ho
  have := h i hi
  simpa [hi, Ov.p] using this
theorem ybdMz {ops : Array Oper} {S : World → Prop} {op : Oper} {a : Act} {t : TypeId} (ht : MT t) (hw : Region.wanted op (yielded ops a.tmps) = true) (ho : op.op = .build t #[]) : YieldsIf Tryd.prog ops S op (.agg Mv.zero.cs) a :=
  .inl ⟨hw, fun w _ => by
    have hf : Tryd.prog.built t ((#[] : Array (Nat × Operand)).map fun (i, x) => (i, a.eval x)).toList = some Mv.zero.cs := by
      simp only [List.map_toArray, List.map_nil]; exact ht.bare
    unfold execOp
    simp only [ho, Sem.run_bind, run_build w t _ Mv.zero.cs hf, Result.andThen_ok]
    rfl⟩
/-- An option whose numbers are the call's own; its text lies ahead of B. -/
structure Mk (b B : Nat) (w : World) (o : Ov) : Prop where
  n : w.ownsRow b 3 1 o.n.v o.n.l.length (i64s o.n.l)
  nn : o.n.n = o.n.l.length
  ad : Adr o.ad
  t : Lies .u8 w o.t.a o.t.n o.t.cap o.t.l
  tb : TB B o
  oct : Oct o.t.l
theorem Mk.of {B : Nat} {w0 w : World} {o : Ov} (h : Mine w0 w o) (hb : Below w0.heap.size w0 w) (ht : TB B o) : Mk w0.heap.size B w o := ⟨h.n, h.nn, h.ad, h.t.below hb, ht, h.oct⟩
theorem Mk.ok {b B : Nat} {w : World} {o : Ov} (h : Mk b B w o) : o.ok w := by
  refine ⟨?_, h.ad, h.t, h.oct⟩
  obtain ⟨a, cap, e, hl⟩ := owns_liesk h.n
  have e1 : Value.slice o.n.a o.n.n o.n.cap = .slice a o.n.l.length cap := e
  injection e1 with e2 e3 e4
  rw [e2, e3, e4]; exact hl
theorem Mk.row {b B : Nat} {w w' : World} {o : Ov} {g : Nat} {c : Array Value} (h : Mk b B w o) (hr : Row w g 25 c) (hg : w.grownBy w' (some g)) (hB : B ≤ g) (hw : B ≤ w.heap.size) : Mk b B w' o :=
  ⟨h.n.kept hg (.inr (own_row h.n hr (by decide))), h.nn, h.ad, lies_kept h.t h.tb hg hB hw, h.tb, h.oct⟩
def Stp (p : Prop) : Prop := p
theorem wpl_stopS {P : Program} {ops : Array Oper} {Q : Exit → Act → World → Prop} {o : Oper} {rest : List Oper} {a : Act} {w : World} {x y : Operand} (ho : o.op = .store 25 x y) (h : Stp (wpList P ops Q (o :: rest) a w)) : wpList P ops Q (o :: rest) a w := h
set_option maxRecDepth 100000 in
set_option maxHeartbeats 6400000 in
theorem cRefDecode_any (code : Int) (a : Option Addr) (len cap : Nat) (l : List Int) (w : World) (h : Lies .u8 w a len cap l) (ha : ∀ x, a = some x → x.block < w.heap.size) (ho : Oct l) (hl : len ≤ 600) :
    Calls Tryd.prog 17 #[.int .i64 code, .slice a len cap] w fun x w' => ∃ m : Mv, x = .returned (.tuple #[.agg m.cs, .int .i64 (dE code l)]) ∧ Hid (m.ok w') ∧ Hid (m.p = dM code l) ∧ Hid (Below w.heap.size w w') := by
  have hz := zmv
  obtain rfl := h.1
  have HO := hid ho
  have H := hid h
  have HA := hid ha
  have Z1 := hid (Row.new w 25 Mv.zero.cs)
  have B1 := hid (balloc (Below.refl w.heap.size w) (.cells Mv.zero.cs 25))
  have HEE : Hid (dE code l = if codB code = true then dcE code.toNat l else 6) := rfl
  have HMM : Hid (dM code l = if codB code = true then (if dcE code.toNat l = 0 then dcM code.toNat l else Pm.zero) else Pm.zero) := rfl
  clear h ho ha
  go_enter Tryd.func17, Tryd.ntmps17
  go_upto_region 1 with fail
  generalize hw1 : w.alloc (.cells Mv.zero.cs 25) = w1 at *
  generalize hg4 : w.heap.size = g4 at *
  have HG4 := hid hg4
  clear hg4 hw1
  by_cases h1 : code < 0
  · have e1 : decide (code < 0) = true := decide_eq_true h1
    have hcb : codB code = false := by simp [codB]; omega
    have HE : Hid (dE code l = 6) := by rw [Hid, HEE.out, hcb]; rfl
    have HM : Hid (dM code l = Pm.zero) := by rw [Hid, HMM.out, hcb]; rfl
    clear h1 hcb HEE HMM hz
    go_wp2_with (first | ((with_reducible refine wpl_id ?_); refine bdMz m25 rfl rfl ?_) | ((with_reducible refine wpl_id ?_); refine stM m25 _ _ rfl rfl g4 Mv.zero adr_zeros rfl rfl 25 Mv.zero adr_zeros Z1.out ?_))
    exact bodyPost_ret (resMe m25 rfl _ _ g4 25 Mv.zero adr_zeros (.int .i64 6) rfl rfl (Z1.out.setRow _)) rfl ⟨Mv.zero, by rw [HE.out], Mv.zero_ok _, by rw [HM.out]; rfl, by rw [HG4.out]; exact below_setRow' B1.out (Nat.le_refl _) _⟩
  have e1 : decide (code < 0) = false := decide_eq_false h1
  by_cases h2 : 3 < code
  · have e2 : decide (3 < code) = true := decide_eq_true h2
    have hcb : codB code = false := by simp [codB]; omega
    have HE : Hid (dE code l = 6) := by rw [Hid, HEE.out, hcb]; rfl
    have HM : Hid (dM code l = Pm.zero) := by rw [Hid, HMM.out, hcb]; rfl
    clear h1 h2 hcb HEE HMM hz
    go_wp2_with (first | ((with_reducible refine wpl_id ?_); refine bdMz m25 rfl rfl ?_) | ((with_reducible refine wpl_id ?_); refine stM m25 _ _ rfl rfl g4 Mv.zero adr_zeros rfl rfl 25 Mv.zero adr_zeros Z1.out ?_))
    exact bodyPost_ret (resMe m25 rfl _ _ g4 25 Mv.zero adr_zeros (.int .i64 6) rfl rfl (Z1.out.setRow _)) rfl ⟨Mv.zero, by rw [HE.out], Mv.zero_ok _, by rw [HM.out]; rfl, by rw [HG4.out]; exact below_setRow' B1.out (Nat.le_refl _) _⟩
  have e2 : decide (3 < code) = false := decide_eq_false h2
  obtain ⟨k, rfl⟩ := Int.eq_ofNat_of_zero_le (show 0 ≤ code by omega)
  have hk : k < 4 := by omega
  have hcb : codB (k : Int) = true := codB_nat hk
  have HE : Hid (dE k l = dcE k l) := by rw [Hid, HEE.out, hcb]; rfl
  have HM : Hid (dM k l = if dcE k l = 0 then dcM k l else Pm.zero) := by rw [Hid, HMM.out, hcb]; rfl
  clear h1 h2 hcb HEE HMM
  have hg4 := HG4.out
  have HA : Hid (∀ x, a = some x → x.block < w.heap.size) := hid (by rw [hg4]; exact HA.out)
  have hs2 : (w1.alloc (.cells #[.slice a l.length cap, .int .i64 0, .int .i64 0] 88)).heap.size = w1.heap.size + 1 := World.size_alloc ..
  have Z3 := hid ((Z1.out.alloc (.cells #[.slice a l.length cap, .int .i64 0, .int .i64 0] 88)).alloc (.cells Mv.zero.cs 25))
  have R3 := hid ((Row.new w1 88 #[.slice a l.length cap, .int .i64 0, .int .i64 0]).alloc (.cells Mv.zero.cs 25))
  have M3 := hid (Row.new (w1.alloc (.cells #[.slice a l.length cap, .int .i64 0, .int .i64 0] 88)) 25 Mv.zero.cs)
  rw [hs2] at M3
  have B3 : Hid (Below w.heap.size w _) := hid (balloc (balloc (by rw [HG4.out]; exact B1.out) (.cells #[.slice a l.length cap, .int .i64 0, .int .i64 0] 88)) (.cells Mv.zero.cs 25))
  have h4 : g4 < w1.heap.size := Z1.out.lt
  have hl3 := hid (H.out.below (B3.out))
  have RA : Hid (RefAt _ w1.heap.size a l.length cap l 0 0) := hid ⟨R3.out, hl3.out, HO.out, by omega, by omega⟩
  have hs3 : ((w1.alloc (.cells #[.slice a l.length cap, .int .i64 0, .int .i64 0] 88)).alloc (.cells Mv.zero.cs 25)).heap.size = w1.heap.size + 2 := by rw [World.size_alloc, hs2]
  have G4 := hid (grownBy_setRow ((w1.alloc (.cells #[.slice a l.length cap, .int .i64 0, .int .i64 0] 88)).alloc (.cells Mv.zero.cs 25)) (w1.heap.size + 1) (vm zer11 k).cs)
  have RA4 := hid (RA.out.kept HA.out G4.out (by omega) (by omega) (by omega))
  have Q0 : Hid (QAt w _ w1.heap.size g4 (w1.heap.size + 1) l 0 0 (vm zer11 k)) := hid ⟨⟨a, cap, RA4.out, HA.out⟩, Nat.zero_le _, Z3.out.kept G4.out (fun e => by have := Option.some.inj e; omega), M3.out.setRow _, bgrown B3.out G4.out (by omega), by omega, by omega, by omega, by omega, by omega, by omega⟩
  clear hg4 RA4 G4 RA hl3 R3 Z3 B3 hs3 Z1 B1 H
  go_upto_block 0 with (first | ((with_reducible refine wpl_id ?_); refine bdM1 m25 _ rfl rfl (k : Int) rfl ?_) | ((with_reducible refine wpl_id ?_); refine stM m25 _ _ rfl rfl (w1.heap.size + 1) (vm zer11 k) adr_zeros rfl rfl 25 Mv.zero adr_zeros M3.out ?_))
  generalize ((w1.alloc (.cells #[.slice a l.length cap, .int .i64 0, .int .i64 0] 88)).alloc (.cells Mv.zero.cs 25)).setRow (w1.heap.size + 1) (vm zer11 k).cs = w3 at *
  generalize w1.heap.size = d at *
  clear hs2 M3 hz
  have hk' : k = 0 ∨ k = 1 ∨ k = 2 ∨ k = 3 := by omega
  go_cut [8] from 9 (fun v wx => ∃ s : Nat × Int × List Int, v = .bool (rdB k s) ∧ Hid (s = rdP l (cpa k)) ∧ Hid (QAt w wx d g4 (d + 1) l s.1 s.2.1 (vm s.2.2 k)) ∧ Hid (s.2.2.length = 11))
  case first =>
    rcases hk' with rfl | rfl | rfl | rfl
    · as_aux_lemma =>
        obtain ⟨s0, hs0⟩ : ∃ s : Nat × Int × List Int, s = (0, 0, zer11) := ⟨_, rfl⟩
        have HQ0 : Hid (QAt w _ d g4 (d + 1) l s0.1 s0.2.1 (vm s0.2.2 ((0 : Nat) : Int))) := hid (by rw [hs0]; exact Q0.out)
        have HL0 : Hid (s0.2.2.length = 11) := by rw [Hid, hs0]; rfl
        have HT0 : Hid (s0.2.2.getD 10 0 = 0) := by rw [Hid, hs0]; rfl
        have HS0 := hid hs0
        clear hs0 Q0
        have f0 : (((0 : Nat) : Int) == 0) = true := rfl
        have f1 : (((0 : Nat) : Int) == 1) = false := rfl
        have f2 : (((0 : Nat) : Int) == 2) = false := rfl
        go_wp2_with fail
        refine (q_zeros w _ d g4 (d + 1) l s0.1 s0.2.1 _ 2 (by decide) HQ0.out).mono ?_
        rintro e w4 ⟨rfl, Qz⟩
        have HQ1 : Hid (QAt w _ d g4 (d + 1) l (ptStep l s0 ⟨2, []⟩).1 (ptStep l s0 ⟨2, []⟩).2.1 (vm (ptStep l s0 ⟨2, []⟩).2.2 ((0 : Nat) : Int))) := hid (by rw [pt_none l s0 2]; exact Qz.out)
        have HL1 : Hid ((ptStep l s0 ⟨2, []⟩).2.2.length = 11) := by rw [Hid, pt_none l s0 2]; simp [HL0.out]
        have HT1 : Hid ((ptStep l s0 ⟨2, []⟩).2.2.getD 10 0 = 0) := by rw [Hid, pt_none l s0 2]; have := HT0.out; simpa [List.getD_eq_getElem?_getD, List.getElem?_set] using this
        generalize hs1 : ptStep l s0 ⟨2, []⟩ = s1 at *
        have HS1 := hid hs1
        clear hs1 Qz HQ0 HL0 HT0
        go_wp2_with fail
        go_meet
        case rel => exact ⟨s1, (by rw [rdB, HT1.out]; rfl), hid (by rw [← HS1.out, HS0.out]; rfl), HQ1.out, HL1.out⟩
    · as_aux_lemma =>
        obtain ⟨s0, hs0⟩ : ∃ s : Nat × Int × List Int, s = (0, 0, zer11) := ⟨_, rfl⟩
        have HQ0 : Hid (QAt w _ d g4 (d + 1) l s0.1 s0.2.1 (vm s0.2.2 ((1 : Nat) : Int))) := hid (by rw [hs0]; exact Q0.out)
        have HL0 : Hid (s0.2.2.length = 11) := by rw [Hid, hs0]; rfl
        have HT0 : Hid (s0.2.2.getD 10 0 = 0) := by rw [Hid, hs0]; rfl
        have HS0 := hid hs0
        clear hs0 Q0
        have f0 : (((1 : Nat) : Int) == 0) = false := rfl
        have f1 : (((1 : Nat) : Int) == 1) = true := rfl
        have f2 : (((1 : Nat) : Int) == 2) = false := rfl
        go_wp2_with fail
        refine (q_take w _ d g4 (d + 1) l s0.1 s0.2.1 _ 1 (by decide) HQ0.out).mono ?_
        rintro e w4 ⟨rfl, Q1⟩
        have cc := (Q1.out.msg.cell 1).trans (Mv.at1 _)
        have ff := Q1.out.msg.frozen 1
        have Qz := hid (Q1.out.setM 1 (.int .i64 (takeV 1 l s0.1 l.length s0.2.1)) (vs_1 s0.2.2 HL0.out (takeV 1 l s0.1 l.length s0.2.1) ((1 : Nat) : Int)))
        clear Q1
        have HQ1 : Hid (QAt w _ d g4 (d + 1) l (ptStep l s0 ⟨1, [⟨0, 0, 255⟩]⟩).1 (ptStep l s0 ⟨1, [⟨0, 0, 255⟩]⟩).2.1 (vm (ptStep l s0 ⟨1, [⟨0, 0, 255⟩]⟩).2.2 ((1 : Nat) : Int))) := hid (by rw [pt_full l HO.out s0 1 0 255 (by decide)]; exact Qz.out)
        have HL1 : Hid ((ptStep l s0 ⟨1, [⟨0, 0, 255⟩]⟩).2.2.length = 11) := by rw [Hid, pt_full l HO.out s0 1 0 255 (by decide)]; simp [HL0.out]
        have HT1 : Hid ((ptStep l s0 ⟨1, [⟨0, 0, 255⟩]⟩).2.2.getD 10 0 = 0) := by rw [Hid, pt_full l HO.out s0 1 0 255 (by decide)]; have := HT0.out; simpa [List.getD_eq_getElem?_getD, List.getElem?_set] using this
        generalize hs1 : ptStep l s0 ⟨1, [⟨0, 0, 255⟩]⟩ = s1 at *
        have HS1 := hid hs1
        clear hs1 Qz HQ0 HL0 HT0
        go_wp2_with fail
        refine (q_take w _ d g4 (d + 1) l s1.1 s1.2.1 _ 1 (by decide) HQ1.out).mono ?_
        rintro e w5 ⟨rfl, Q1⟩
        have cc := (Q1.out.msg.cell 2).trans (Mv.at2 _)
        have ff := Q1.out.msg.frozen 2
        have Qz := hid (Q1.out.setM 2 (.int .i64 (takeV 1 l s1.1 l.length s1.2.1)) (vs_2 s1.2.2 HL1.out (takeV 1 l s1.1 l.length s1.2.1) ((1 : Nat) : Int)))
        clear Q1
        have HQ2 : Hid (QAt w _ d g4 (d + 1) l (ptStep l s1 ⟨1, [⟨1, 0, 255⟩]⟩).1 (ptStep l s1 ⟨1, [⟨1, 0, 255⟩]⟩).2.1 (vm (ptStep l s1 ⟨1, [⟨1, 0, 255⟩]⟩).2.2 ((1 : Nat) : Int))) := hid (by rw [pt_full l HO.out s1 1 1 255 (by decide)]; exact Qz.out)
        have HL2 : Hid ((ptStep l s1 ⟨1, [⟨1, 0, 255⟩]⟩).2.2.length = 11) := by rw [Hid, pt_full l HO.out s1 1 1 255 (by decide)]; simp [HL1.out]
        have HT2 : Hid ((ptStep l s1 ⟨1, [⟨1, 0, 255⟩]⟩).2.2.getD 10 0 = 0) := by rw [Hid, pt_full l HO.out s1 1 1 255 (by decide)]; have := HT1.out; simpa [List.getD_eq_getElem?_getD, List.getElem?_set] using this
        generalize hs2 : ptStep l s1 ⟨1, [⟨1, 0, 255⟩]⟩ = s2 at *
        have HS2 := hid hs2
        clear hs2 Qz HQ1 HL1 HT1
        go_wp2_with fail
        refine (q_take w _ d g4 (d + 1) l s2.1 s2.2.1 _ 2 (by decide) HQ2.out).mono ?_
        rintro e w6 ⟨rfl, Q1⟩
        have cc := (Q1.out.msg.cell 3).trans (Mv.at3 _)
        have ff := Q1.out.msg.frozen 3
        have Qz := hid (Q1.out.setM 3 (.int .i64 (takeV 2 l s2.1 l.length s2.2.1)) (vs_3 s2.2.2 HL2.out (takeV 2 l s2.1 l.length s2.2.1) ((1 : Nat) : Int)))
        clear Q1
        have HQ3 : Hid (QAt w _ d g4 (d + 1) l (ptStep l s2 ⟨2, [⟨2, 0, 65535⟩]⟩).1 (ptStep l s2 ⟨2, [⟨2, 0, 65535⟩]⟩).2.1 (vm (ptStep l s2 ⟨2, [⟨2, 0, 65535⟩]⟩).2.2 ((1 : Nat) : Int))) := hid (by rw [pt_full l HO.out s2 2 2 65535 (by decide)]; exact Qz.out)
        have HL3 : Hid ((ptStep l s2 ⟨2, [⟨2, 0, 65535⟩]⟩).2.2.length = 11) := by rw [Hid, pt_full l HO.out s2 2 2 65535 (by decide)]; simp [HL2.out]
        have HT3 : Hid ((ptStep l s2 ⟨2, [⟨2, 0, 65535⟩]⟩).2.2.getD 10 0 = 0) := by rw [Hid, pt_full l HO.out s2 2 2 65535 (by decide)]; have := HT2.out; simpa [List.getD_eq_getElem?_getD, List.getElem?_set] using this
        generalize hs3 : ptStep l s2 ⟨2, [⟨2, 0, 65535⟩]⟩ = s3 at *
        have HS3 := hid hs3
        clear hs3 Qz HQ2 HL2 HT2
        go_wp2_with fail
        refine (q_take w _ d g4 (d + 1) l s3.1 s3.2.1 _ 1 (by decide) HQ3.out).mono ?_
        rintro e w7 ⟨rfl, Q1⟩
        have hbd := takeV_bd1 l HO.out 1 s3.1 l.length s3.2.1 (.inl rfl)
        generalize hb : takeV 1 l s3.1 l.length s3.2.1 = b at *
        try rw [show takeV ((1 : Nat) : Int) l s3.1 l.length s3.2.1 = b from hb] at hbd
        obtain ⟨t64, t128, t8, m2, m8, mb8, m64, m128⟩ := flb b hbd.1 (hbd.2.2 rfl)
        have HP := hid (pt_fl1 l HO.out s3 b hb)
        clear hb hbd
        have Q1 : Hid (QAt w w7 d g4 (d + 1) l (s3.1 + rdN 1 1 (l.length - s3.1) s3.2.1) (rdE 1 1 (l.length - s3.1) s3.2.1) (vm s3.2.2 ((1 : Nat) : Int))) := Q1
        generalize rdE 1 1 (l.length - s3.1) s3.2.1 = E at *
        have c2 := Q1.out.c2
        by_cases hbit : b / 64 % 2 = 1
        · have eb : (b / 64 % 2 == 1) = true := by simp [hbit]
          have HP := hid (HP.out.trans (by rw [if_pos hbit]))
          clear hbit
          by_cases he : E = 0
          · have ee : (E == 0) = true := by simp [he]
            have f2 := Q1.out.soft 2
            have QE := hid (Q1.out.setE 3)
            have HP := hid (HP.out.trans (by rw [spE, if_pos he]))
            clear he
            go_upto_region 23 with fail
            generalize w7.setCell ⟨d, 2, none⟩ (.int .i64 3) = wE at *
            clear c2 f2 Q1 ee eb
            have c9 := (QE.out.msg.cell 9).trans (Mv.at9 _)
            have f9 := QE.out.msg.frozen 9
            have Q9 := hid (QE.out.setM 9 (.bool (b / 128 == 1)) (vs_9 s3.2.2 HL3.out (b / 128) ((1 : Nat) : Int)))
            have c4 := (Q9.out.msg.cell 4).trans (Mv.at4 _)
            have f4 := Q9.out.msg.frozen 4
            have Q4 := hid (Q9.out.setM 4 (.int .i64 (b / 8 % 8)) (vs_4 (s3.2.2.set 3 (b / 128)) (by simp [HL3.out]) (b / 8 % 8) ((1 : Nat) : Int)))
            have c5 := (Q4.out.msg.cell 5).trans (Mv.at5 _)
            have f5 := Q4.out.msg.frozen 5
            have Qz := hid (Q4.out.setM 5 (.int .i64 (b % 8)) (vs_5 ((s3.2.2.set 3 (b / 128)).set 4 (b / 8 % 8)) (by simp [HL3.out]) (b % 8) ((1 : Nat) : Int)))
            clear QE Q9 Q4
            have HQ4 : Hid (QAt w _ d g4 (d + 1) l (ptStep l s3 ⟨1, [⟨3, 7, 1⟩, ⟨4, 3, 7⟩, ⟨5, 0, 7⟩]⟩).1 (ptStep l s3 ⟨1, [⟨3, 7, 1⟩, ⟨4, 3, 7⟩, ⟨5, 0, 7⟩]⟩).2.1 (vm (ptStep l s3 ⟨1, [⟨3, 7, 1⟩, ⟨4, 3, 7⟩, ⟨5, 0, 7⟩]⟩).2.2 ((1 : Nat) : Int))) := hid (by rw [HP.out]; exact Qz.out)
            have HL4 : Hid ((ptStep l s3 ⟨1, [⟨3, 7, 1⟩, ⟨4, 3, 7⟩, ⟨5, 0, 7⟩]⟩).2.2.length = 11) := by rw [Hid, HP.out]; simp [HL3.out]
            have HT4 : Hid ((ptStep l s3 ⟨1, [⟨3, 7, 1⟩, ⟨4, 3, 7⟩, ⟨5, 0, 7⟩]⟩).2.2.getD 10 0 = 0) := by rw [Hid, HP.out]; have := HT3.out; simpa [List.getD_eq_getElem?_getD, List.getElem?_set] using this
            generalize hs4 : ptStep l s3 ⟨1, [⟨3, 7, 1⟩, ⟨4, 3, 7⟩, ⟨5, 0, 7⟩]⟩ = s4 at *
            have HS4 := hid hs4
            clear hs4 Qz HQ3 HL3 HT3
            try clear c2
            go_wp2_with fail
            refine (q_take w _ d g4 (d + 1) l s4.1 s4.2.1 _ 1 (by decide) HQ4.out).mono ?_
            rintro e w8 ⟨rfl, Q1⟩
            have cc := (Q1.out.msg.cell 6).trans (Mv.at6 _)
            have ff := Q1.out.msg.frozen 6
            have Qz := hid (Q1.out.setM 6 (.int .i64 (takeV 1 l s4.1 l.length s4.2.1)) (vs_6 s4.2.2 HL4.out (takeV 1 l s4.1 l.length s4.2.1) ((1 : Nat) : Int)))
            clear Q1
            have HQ5 : Hid (QAt w _ d g4 (d + 1) l (ptStep l s4 ⟨1, [⟨6, 0, 255⟩]⟩).1 (ptStep l s4 ⟨1, [⟨6, 0, 255⟩]⟩).2.1 (vm (ptStep l s4 ⟨1, [⟨6, 0, 255⟩]⟩).2.2 ((1 : Nat) : Int))) := hid (by rw [pt_full l HO.out s4 1 6 255 (by decide)]; exact Qz.out)
            have HL5 : Hid ((ptStep l s4 ⟨1, [⟨6, 0, 255⟩]⟩).2.2.length = 11) := by rw [Hid, pt_full l HO.out s4 1 6 255 (by decide)]; simp [HL4.out]
            have HT5 : Hid ((ptStep l s4 ⟨1, [⟨6, 0, 255⟩]⟩).2.2.getD 10 0 = 0) := by rw [Hid, pt_full l HO.out s4 1 6 255 (by decide)]; have := HT4.out; simpa [List.getD_eq_getElem?_getD, List.getElem?_set] using this
            generalize hs5 : ptStep l s4 ⟨1, [⟨6, 0, 255⟩]⟩ = s5 at *
            have HS5 := hid hs5
            clear hs5 Qz HQ4 HL4 HT4
            go_wp2_with fail
            refine (q_zeros w _ d g4 (d + 1) l s5.1 s5.2.1 _ 2 (by decide) HQ5.out).mono ?_
            rintro e w9 ⟨rfl, Qz⟩
            have HQ6 : Hid (QAt w _ d g4 (d + 1) l (ptStep l s5 ⟨2, []⟩).1 (ptStep l s5 ⟨2, []⟩).2.1 (vm (ptStep l s5 ⟨2, []⟩).2.2 ((1 : Nat) : Int))) := hid (by rw [pt_none l s5 2]; exact Qz.out)
            have HL6 : Hid ((ptStep l s5 ⟨2, []⟩).2.2.length = 11) := by rw [Hid, pt_none l s5 2]; simp [HL5.out]
            have HT6 : Hid ((ptStep l s5 ⟨2, []⟩).2.2.getD 10 0 = 0) := by rw [Hid, pt_none l s5 2]; have := HT5.out; simpa [List.getD_eq_getElem?_getD, List.getElem?_set] using this
            generalize hs6 : ptStep l s5 ⟨2, []⟩ = s6 at *
            have HS6 := hid hs6
            clear hs6 Qz HQ5 HL5 HT5
            go_wp2_with fail
            go_meet
            case rel => exact ⟨s6, rfl, hid (by rw [← HS6.out, ← HS5.out, ← HS4.out, ← HS3.out, ← HS2.out, ← HS1.out, HS0.out]; rfl), HQ6.out, HL6.out⟩
          · have ee : (E == 0) = false := by simp [he]
            have HP := hid (HP.out.trans (by rw [spE, if_neg he]))
            clear he
            go_upto_region 23 with fail
            clear ee eb
            have c9 := (Q1.out.msg.cell 9).trans (Mv.at9 _)
            have f9 := Q1.out.msg.frozen 9
            have Q9 := hid (Q1.out.setM 9 (.bool (b / 128 == 1)) (vs_9 s3.2.2 HL3.out (b / 128) ((1 : Nat) : Int)))
            have c4 := (Q9.out.msg.cell 4).trans (Mv.at4 _)
            have f4 := Q9.out.msg.frozen 4
            have Q4 := hid (Q9.out.setM 4 (.int .i64 (b / 8 % 8)) (vs_4 (s3.2.2.set 3 (b / 128)) (by simp [HL3.out]) (b / 8 % 8) ((1 : Nat) : Int)))
            have c5 := (Q4.out.msg.cell 5).trans (Mv.at5 _)
            have f5 := Q4.out.msg.frozen 5
            have Qz := hid (Q4.out.setM 5 (.int .i64 (b % 8)) (vs_5 ((s3.2.2.set 3 (b / 128)).set 4 (b / 8 % 8)) (by simp [HL3.out]) (b % 8) ((1 : Nat) : Int)))
            clear Q1 Q9 Q4
            have HQ4 : Hid (QAt w _ d g4 (d + 1) l (ptStep l s3 ⟨1, [⟨3, 7, 1⟩, ⟨4, 3, 7⟩, ⟨5, 0, 7⟩]⟩).1 (ptStep l s3 ⟨1, [⟨3, 7, 1⟩, ⟨4, 3, 7⟩, ⟨5, 0, 7⟩]⟩).2.1 (vm (ptStep l s3 ⟨1, [⟨3, 7, 1⟩, ⟨4, 3, 7⟩, ⟨5, 0, 7⟩]⟩).2.2 ((1 : Nat) : Int))) := hid (by rw [HP.out]; exact Qz.out)
            have HL4 : Hid ((ptStep l s3 ⟨1, [⟨3, 7, 1⟩, ⟨4, 3, 7⟩, ⟨5, 0, 7⟩]⟩).2.2.length = 11) := by rw [Hid, HP.out]; simp [HL3.out]
            have HT4 : Hid ((ptStep l s3 ⟨1, [⟨3, 7, 1⟩, ⟨4, 3, 7⟩, ⟨5, 0, 7⟩]⟩).2.2.getD 10 0 = 0) := by rw [Hid, HP.out]; have := HT3.out; simpa [List.getD_eq_getElem?_getD, List.getElem?_set] using this
            generalize hs4 : ptStep l s3 ⟨1, [⟨3, 7, 1⟩, ⟨4, 3, 7⟩, ⟨5, 0, 7⟩]⟩ = s4 at *
            have HS4 := hid hs4
            clear hs4 Qz HQ3 HL3 HT3
            try clear c2
            go_wp2_with fail
            refine (q_take w _ d g4 (d + 1) l s4.1 s4.2.1 _ 1 (by decide) HQ4.out).mono ?_
            rintro e w8 ⟨rfl, Q1⟩
            have cc := (Q1.out.msg.cell 6).trans (Mv.at6 _)
            have ff := Q1.out.msg.frozen 6
            have Qz := hid (Q1.out.setM 6 (.int .i64 (takeV 1 l s4.1 l.length s4.2.1)) (vs_6 s4.2.2 HL4.out (takeV 1 l s4.1 l.length s4.2.1) ((1 : Nat) : Int)))
            clear Q1
            have HQ5 : Hid (QAt w _ d g4 (d + 1) l (ptStep l s4 ⟨1, [⟨6, 0, 255⟩]⟩).1 (ptStep l s4 ⟨1, [⟨6, 0, 255⟩]⟩).2.1 (vm (ptStep l s4 ⟨1, [⟨6, 0, 255⟩]⟩).2.2 ((1 : Nat) : Int))) := hid (by rw [pt_full l HO.out s4 1 6 255 (by decide)]; exact Qz.out)
            have HL5 : Hid ((ptStep l s4 ⟨1, [⟨6, 0, 255⟩]⟩).2.2.length = 11) := by rw [Hid, pt_full l HO.out s4 1 6 255 (by decide)]; simp [HL4.out]
            have HT5 : Hid ((ptStep l s4 ⟨1, [⟨6, 0, 255⟩]⟩).2.2.getD 10 0 = 0) := by rw [Hid, pt_full l HO.out s4 1 6 255 (by decide)]; have := HT4.out; simpa [List.getD_eq_getElem?_getD, List.getElem?_set] using this
            generalize hs5 : ptStep l s4 ⟨1, [⟨6, 0, 255⟩]⟩ = s5 at *
            have HS5 := hid hs5
            clear hs5 Qz HQ4 HL4 HT4
            go_wp2_with fail
            refine (q_zeros w _ d g4 (d + 1) l s5.1 s5.2.1 _ 2 (by decide) HQ5.out).mono ?_
            rintro e w9 ⟨rfl, Qz⟩
            have HQ6 : Hid (QAt w _ d g4 (d + 1) l (ptStep l s5 ⟨2, []⟩).1 (ptStep l s5 ⟨2, []⟩).2.1 (vm (ptStep l s5 ⟨2, []⟩).2.2 ((1 : Nat) : Int))) := hid (by rw [pt_none l s5 2]; exact Qz.out)
            have HL6 : Hid ((ptStep l s5 ⟨2, []⟩).2.2.length = 11) := by rw [Hid, pt_none l s5 2]; simp [HL5.out]
            have HT6 : Hid ((ptStep l s5 ⟨2, []⟩).2.2.getD 10 0 = 0) := by rw [Hid, pt_none l s5 2]; have := HT5.out; simpa [List.getD_eq_getElem?_getD, List.getElem?_set] using this
            generalize hs6 : ptStep l s5 ⟨2, []⟩ = s6 at *
            have HS6 := hid hs6
            clear hs6 Qz HQ5 HL5 HT5
            go_wp2_with fail
            go_meet
            case rel => exact ⟨s6, rfl, hid (by rw [← HS6.out, ← HS5.out, ← HS4.out, ← HS3.out, ← HS2.out, ← HS1.out, HS0.out]; rfl), HQ6.out, HL6.out⟩
        · have eb : (b / 64 % 2 == 1) = false := by simp [hbit]
          have HP := hid (HP.out.trans (by rw [if_neg hbit]))
          clear hbit
          go_upto_region 23 with fail
          clear eb
          have c9 := (Q1.out.msg.cell 9).trans (Mv.at9 _)
          have f9 := Q1.out.msg.frozen 9
          have Q9 := hid (Q1.out.setM 9 (.bool (b / 128 == 1)) (vs_9 s3.2.2 HL3.out (b / 128) ((1 : Nat) : Int)))
          have c4 := (Q9.out.msg.cell 4).trans (Mv.at4 _)
          have f4 := Q9.out.msg.frozen 4
          have Q4 := hid (Q9.out.setM 4 (.int .i64 (b / 8 % 8)) (vs_4 (s3.2.2.set 3 (b / 128)) (by simp [HL3.out]) (b / 8 % 8) ((1 : Nat) : Int)))
          have c5 := (Q4.out.msg.cell 5).trans (Mv.at5 _)
          have f5 := Q4.out.msg.frozen 5
          have Qz := hid (Q4.out.setM 5 (.int .i64 (b % 8)) (vs_5 ((s3.2.2.set 3 (b / 128)).set 4 (b / 8 % 8)) (by simp [HL3.out]) (b % 8) ((1 : Nat) : Int)))
          clear Q1 Q9 Q4
          have HQ4 : Hid (QAt w _ d g4 (d + 1) l (ptStep l s3 ⟨1, [⟨3, 7, 1⟩, ⟨4, 3, 7⟩, ⟨5, 0, 7⟩]⟩).1 (ptStep l s3 ⟨1, [⟨3, 7, 1⟩, ⟨4, 3, 7⟩, ⟨5, 0, 7⟩]⟩).2.1 (vm (ptStep l s3 ⟨1, [⟨3, 7, 1⟩, ⟨4, 3, 7⟩, ⟨5, 0, 7⟩]⟩).2.2 ((1 : Nat) : Int))) := hid (by rw [HP.out]; exact Qz.out)
          have HL4 : Hid ((ptStep l s3 ⟨1, [⟨3, 7, 1⟩, ⟨4, 3, 7⟩, ⟨5, 0, 7⟩]⟩).2.2.length = 11) := by rw [Hid, HP.out]; simp [HL3.out]
          have HT4 : Hid ((ptStep l s3 ⟨1, [⟨3, 7, 1⟩, ⟨4, 3, 7⟩, ⟨5, 0, 7⟩]⟩).2.2.getD 10 0 = 0) := by rw [Hid, HP.out]; have := HT3.out; simpa [List.getD_eq_getElem?_getD, List.getElem?_set] using this
          generalize hs4 : ptStep l s3 ⟨1, [⟨3, 7, 1⟩, ⟨4, 3, 7⟩, ⟨5, 0, 7⟩]⟩ = s4 at *
          have HS4 := hid hs4
          clear hs4 Qz HQ3 HL3 HT3
          try clear c2
          go_wp2_with fail
          refine (q_take w _ d g4 (d + 1) l s4.1 s4.2.1 _ 1 (by decide) HQ4.out).mono ?_
          rintro e w8 ⟨rfl, Q1⟩
          have cc := (Q1.out.msg.cell 6).trans (Mv.at6 _)
          have ff := Q1.out.msg.frozen 6
          have Qz := hid (Q1.out.setM 6 (.int .i64 (takeV 1 l s4.1 l.length s4.2.1)) (vs_6 s4.2.2 HL4.out (takeV 1 l s4.1 l.length s4.2.1) ((1 : Nat) : Int)))
          clear Q1
          have HQ5 : Hid (QAt w _ d g4 (d + 1) l (ptStep l s4 ⟨1, [⟨6, 0, 255⟩]⟩).1 (ptStep l s4 ⟨1, [⟨6, 0, 255⟩]⟩).2.1 (vm (ptStep l s4 ⟨1, [⟨6, 0, 255⟩]⟩).2.2 ((1 : Nat) : Int))) := hid (by rw [pt_full l HO.out s4 1 6 255 (by decide)]; exact Qz.out)
          have HL5 : Hid ((ptStep l s4 ⟨1, [⟨6, 0, 255⟩]⟩).2.2.length = 11) := by rw [Hid, pt_full l HO.out s4 1 6 255 (by decide)]; simp [HL4.out]
          have HT5 : Hid ((ptStep l s4 ⟨1, [⟨6, 0, 255⟩]⟩).2.2.getD 10 0 = 0) := by rw [Hid, pt_full l HO.out s4 1 6 255 (by decide)]; have := HT4.out; simpa [List.getD_eq_getElem?_getD, List.getElem?_set] using this
          generalize hs5 : ptStep l s4 ⟨1, [⟨6, 0, 255⟩]⟩ = s5 at *
          have HS5 := hid hs5
          clear hs5 Qz HQ4 HL4 HT4
          go_wp2_with fail
          refine (q_zeros w _ d g4 (d + 1) l s5.1 s5.2.1 _ 2 (by decide) HQ5.out).mono ?_
          rintro e w9 ⟨rfl, Qz⟩
          have HQ6 : Hid (QAt w _ d g4 (d + 1) l (ptStep l s5 ⟨2, []⟩).1 (ptStep l s5 ⟨2, []⟩).2.1 (vm (ptStep l s5 ⟨2, []⟩).2.2 ((1 : Nat) : Int))) := hid (by rw [pt_none l s5 2]; exact Qz.out)
          have HL6 : Hid ((ptStep l s5 ⟨2, []⟩).2.2.length = 11) := by rw [Hid, pt_none l s5 2]; simp [HL5.out]
          have HT6 : Hid ((ptStep l s5 ⟨2, []⟩).2.2.getD 10 0 = 0) := by rw [Hid, pt_none l s5 2]; have := HT5.out; simpa [List.getD_eq_getElem?_getD, List.getElem?_set] using this
          generalize hs6 : ptStep l s5 ⟨2, []⟩ = s6 at *
          have HS6 := hid hs6
          clear hs6 Qz HQ5 HL5 HT5
          go_wp2_with fail
          go_meet
          case rel => exact ⟨s6, rfl, hid (by rw [← HS6.out, ← HS5.out, ← HS4.out, ← HS3.out, ← HS2.out, ← HS1.out, HS0.out]; rfl), HQ6.out, HL6.out⟩
    · as_aux_lemma =>
        obtain ⟨s0, hs0⟩ : ∃ s : Nat × Int × List Int, s = (0, 0, zer11) := ⟨_, rfl⟩
        have HQ0 : Hid (QAt w _ d g4 (d + 1) l s0.1 s0.2.1 (vm s0.2.2 ((2 : Nat) : Int))) := hid (by rw [hs0]; exact Q0.out)
        have HL0 : Hid (s0.2.2.length = 11) := by rw [Hid, hs0]; rfl
        have HT0 : Hid (s0.2.2.getD 10 0 = 0) := by rw [Hid, hs0]; rfl
        have HS0 := hid hs0
        clear hs0 Q0
        have f0 : (((2 : Nat) : Int) == 0) = false := rfl
        have f1 : (((2 : Nat) : Int) == 1) = false := rfl
        have f2 : (((2 : Nat) : Int) == 2) = true := rfl
        go_wp2_with fail
        refine (q_take w _ d g4 (d + 1) l s0.1 s0.2.1 _ 1 (by decide) HQ0.out).mono ?_
        rintro e w4 ⟨rfl, Q1⟩
        have cc := (Q1.out.msg.cell 1).trans (Mv.at1 _)
        have ff := Q1.out.msg.frozen 1
        have Qz := hid (Q1.out.setM 1 (.int .i64 (takeV 1 l s0.1 l.length s0.2.1)) (vs_1 s0.2.2 HL0.out (takeV 1 l s0.1 l.length s0.2.1) ((2 : Nat) : Int)))
        clear Q1
        have HQ1 : Hid (QAt w _ d g4 (d + 1) l (ptStep l s0 ⟨1, [⟨0, 0, 255⟩]⟩).1 (ptStep l s0 ⟨1, [⟨0, 0, 255⟩]⟩).2.1 (vm (ptStep l s0 ⟨1, [⟨0, 0, 255⟩]⟩).2.2 ((2 : Nat) : Int))) := hid (by rw [pt_full l HO.out s0 1 0 255 (by decide)]; exact Qz.out)
        have HL1 : Hid ((ptStep l s0 ⟨1, [⟨0, 0, 255⟩]⟩).2.2.length = 11) := by rw [Hid, pt_full l HO.out s0 1 0 255 (by decide)]; simp [HL0.out]
        have HT1 : Hid ((ptStep l s0 ⟨1, [⟨0, 0, 255⟩]⟩).2.2.getD 10 0 = 0) := by rw [Hid, pt_full l HO.out s0 1 0 255 (by decide)]; have := HT0.out; simpa [List.getD_eq_getElem?_getD, List.getElem?_set] using this
        generalize hs1 : ptStep l s0 ⟨1, [⟨0, 0, 255⟩]⟩ = s1 at *
        have HS1 := hid hs1
        clear hs1 Qz HQ0 HL0 HT0
        go_wp2_with fail
        refine (q_take w _ d g4 (d + 1) l s1.1 s1.2.1 _ 1 (by decide) HQ1.out).mono ?_
        rintro e w5 ⟨rfl, Q1⟩
        have hbd := takeV_bd1 l HO.out 1 s1.1 l.length s1.2.1 (.inl rfl)
        generalize hb : takeV 1 l s1.1 l.length s1.2.1 = b at *
        try rw [show takeV ((1 : Nat) : Int) l s1.1 l.length s1.2.1 = b from hb] at hbd
        obtain ⟨t64, t128, t8, m2, m8, mb8, m64, m128⟩ := flb b hbd.1 (hbd.2.2 rfl)
        have HP := hid (pt_fl2 l HO.out s1 b hb)
        clear hb hbd
        have Q1 : Hid (QAt w w5 d g4 (d + 1) l (s1.1 + rdN 1 1 (l.length - s1.1) s1.2.1) (rdE 1 1 (l.length - s1.1) s1.2.1) (vm s1.2.2 ((2 : Nat) : Int))) := Q1
        generalize rdE 1 1 (l.length - s1.1) s1.2.1 = E at *
        have c2 := Q1.out.c2
        by_cases hbit : b % 64 = 0
        · have eb : (b % 64 != 0) = false := by simp [hbit]
          have HP := hid (HP.out.trans (by rw [if_pos hbit]))
          clear hbit
          go_upto_region 31 with fail
          clear eb
          have c10 := (Q1.out.msg.cell 10).trans (Mv.at10 _)
          have f10 := Q1.out.msg.frozen 10
          have Qz := hid (Q1.out.setM 10 (.bool (b / 128 == 1)) (vs_10 s1.2.2 HL1.out (b / 128) ((2 : Nat) : Int)))
          rw [← vs_10no _ (by simp [HL1.out]) (b / 64 % 2)] at Qz
          clear Q1
          have HQ2 : Hid (QAt w _ d g4 (d + 1) l (ptStep l s1 ⟨1, [⟨7, 7, 1⟩, ⟨10, 6, 1⟩]⟩).1 (ptStep l s1 ⟨1, [⟨7, 7, 1⟩, ⟨10, 6, 1⟩]⟩).2.1 (vm (ptStep l s1 ⟨1, [⟨7, 7, 1⟩, ⟨10, 6, 1⟩]⟩).2.2 ((2 : Nat) : Int))) := hid (by rw [HP.out]; exact Qz.out)
          have HL2 : Hid ((ptStep l s1 ⟨1, [⟨7, 7, 1⟩, ⟨10, 6, 1⟩]⟩).2.2.length = 11) := by rw [Hid, HP.out]; simp [HL1.out]
          have HT2 : Hid ((ptStep l s1 ⟨1, [⟨7, 7, 1⟩, ⟨10, 6, 1⟩]⟩).2.2.getD 10 0 = b / 64 % 2) := by rw [Hid, HP.out]; simp [HL1.out]
          generalize hs2 : ptStep l s1 ⟨1, [⟨7, 7, 1⟩, ⟨10, 6, 1⟩]⟩ = s2 at *
          have HS2 := hid hs2
          clear hs2 Qz HQ1 HL1 HT1
          try clear c2
          go_wp2_with fail
          refine (q_zeros w _ d g4 (d + 1) l s2.1 s2.2.1 _ 1 (by decide) HQ2.out).mono ?_
          rintro e w6 ⟨rfl, Qz⟩
          have HQ3 : Hid (QAt w _ d g4 (d + 1) l (ptStep l s2 ⟨1, []⟩).1 (ptStep l s2 ⟨1, []⟩).2.1 (vm (ptStep l s2 ⟨1, []⟩).2.2 ((2 : Nat) : Int))) := hid (by rw [pt_none l s2 1]; exact Qz.out)
          have HL3 : Hid ((ptStep l s2 ⟨1, []⟩).2.2.length = 11) := by rw [Hid, pt_none l s2 1]; simp [HL2.out]
          have HT3 : Hid ((ptStep l s2 ⟨1, []⟩).2.2.getD 10 0 = b / 64 % 2) := by rw [Hid, pt_none l s2 1]; have := HT2.out; simpa [List.getD_eq_getElem?_getD, List.getElem?_set] using this
          generalize hs3 : ptStep l s2 ⟨1, []⟩ = s3 at *
          have HS3 := hid hs3
          clear hs3 Qz HQ2 HL2 HT2
          go_wp2_with fail
          refine (q_take w _ d g4 (d + 1) l s3.1 s3.2.1 _ 1 (by decide) HQ3.out).mono ?_
          rintro e w7 ⟨rfl, Q1⟩
          have cc := (Q1.out.msg.cell 7).trans (Mv.at7 _)
          have ff := Q1.out.msg.frozen 7
          have Qz := hid (Q1.out.setM 7 (.int .i64 (takeV 1 l s3.1 l.length s3.2.1)) (vs_7 s3.2.2 HL3.out (takeV 1 l s3.1 l.length s3.2.1) ((2 : Nat) : Int)))
          clear Q1
          have HQ4 : Hid (QAt w _ d g4 (d + 1) l (ptStep l s3 ⟨1, [⟨8, 0, 255⟩]⟩).1 (ptStep l s3 ⟨1, [⟨8, 0, 255⟩]⟩).2.1 (vm (ptStep l s3 ⟨1, [⟨8, 0, 255⟩]⟩).2.2 ((2 : Nat) : Int))) := hid (by rw [pt_full l HO.out s3 1 8 255 (by decide)]; exact Qz.out)
          have HL4 : Hid ((ptStep l s3 ⟨1, [⟨8, 0, 255⟩]⟩).2.2.length = 11) := by rw [Hid, pt_full l HO.out s3 1 8 255 (by decide)]; simp [HL3.out]
          have HT4 : Hid ((ptStep l s3 ⟨1, [⟨8, 0, 255⟩]⟩).2.2.getD 10 0 = b / 64 % 2) := by rw [Hid, pt_full l HO.out s3 1 8 255 (by decide)]; have := HT3.out; simpa [List.getD_eq_getElem?_getD, List.getElem?_set] using this
          generalize hs4 : ptStep l s3 ⟨1, [⟨8, 0, 255⟩]⟩ = s4 at *
          have HS4 := hid hs4
          clear hs4 Qz HQ3 HL3 HT3
          go_wp2_with fail
          go_meet
          case rel => exact ⟨s4, (by rw [rdB, HT4.out]; rfl), hid (by rw [← HS4.out, ← HS3.out, ← HS2.out, ← HS1.out, HS0.out]; rfl), HQ4.out, HL4.out⟩
        · have eb : (b % 64 != 0) = true := by simp [hbit]
          have HP := hid (HP.out.trans (by rw [if_neg hbit]))
          clear hbit
          by_cases he : E = 0
          · have ee : (E == 0) = true := by simp [he]
            have f2 := Q1.out.soft 2
            have QE := hid (Q1.out.setE 3)
            have HP := hid (HP.out.trans (by rw [spE, if_pos he]))
            clear he
            go_upto_region 31 with fail
            generalize w5.setCell ⟨d, 2, none⟩ (.int .i64 3) = wE at *
            clear c2 f2 Q1 ee eb
            have c10 := (QE.out.msg.cell 10).trans (Mv.at10 _)
            have f10 := QE.out.msg.frozen 10
            have Qz := hid (QE.out.setM 10 (.bool (b / 128 == 1)) (vs_10 s1.2.2 HL1.out (b / 128) ((2 : Nat) : Int)))
            rw [← vs_10no _ (by simp [HL1.out]) (b / 64 % 2)] at Qz
            clear QE
            have HQ2 : Hid (QAt w _ d g4 (d + 1) l (ptStep l s1 ⟨1, [⟨7, 7, 1⟩, ⟨10, 6, 1⟩]⟩).1 (ptStep l s1 ⟨1, [⟨7, 7, 1⟩, ⟨10, 6, 1⟩]⟩).2.1 (vm (ptStep l s1 ⟨1, [⟨7, 7, 1⟩, ⟨10, 6, 1⟩]⟩).2.2 ((2 : Nat) : Int))) := hid (by rw [HP.out]; exact Qz.out)
            have HL2 : Hid ((ptStep l s1 ⟨1, [⟨7, 7, 1⟩, ⟨10, 6, 1⟩]⟩).2.2.length = 11) := by rw [Hid, HP.out]; simp [HL1.out]
            have HT2 : Hid ((ptStep l s1 ⟨1, [⟨7, 7, 1⟩, ⟨10, 6, 1⟩]⟩).2.2.getD 10 0 = b / 64 % 2) := by rw [Hid, HP.out]; simp [HL1.out]
            generalize hs2 : ptStep l s1 ⟨1, [⟨7, 7, 1⟩, ⟨10, 6, 1⟩]⟩ = s2 at *
            have HS2 := hid hs2
            clear hs2 Qz HQ1 HL1 HT1
            try clear c2
            go_wp2_with fail
            refine (q_zeros w _ d g4 (d + 1) l s2.1 s2.2.1 _ 1 (by decide) HQ2.out).mono ?_
            rintro e w6 ⟨rfl, Qz⟩
            have HQ3 : Hid (QAt w _ d g4 (d + 1) l (ptStep l s2 ⟨1, []⟩).1 (ptStep l s2 ⟨1, []⟩).2.1 (vm (ptStep l s2 ⟨1, []⟩).2.2 ((2 : Nat) : Int))) := hid (by rw [pt_none l s2 1]; exact Qz.out)
            have HL3 : Hid ((ptStep l s2 ⟨1, []⟩).2.2.length = 11) := by rw [Hid, pt_none l s2 1]; simp [HL2.out]
            have HT3 : Hid ((ptStep l s2 ⟨1, []⟩).2.2.getD 10 0 = b / 64 % 2) := by rw [Hid, pt_none l s2 1]; have := HT2.out; simpa [List.getD_eq_getElem?_getD, List.getElem?_set] using this
            generalize hs3 : ptStep l s2 ⟨1, []⟩ = s3 at *
            have HS3 := hid hs3
            clear hs3 Qz HQ2 HL2 HT2
            go_wp2_with fail
            refine (q_take w _ d g4 (d + 1) l s3.1 s3.2.1 _ 1 (by decide) HQ3.out).mono ?_
            rintro e w7 ⟨rfl, Q1⟩
            have cc := (Q1.out.msg.cell 7).trans (Mv.at7 _)
            have ff := Q1.out.msg.frozen 7
            have Qz := hid (Q1.out.setM 7 (.int .i64 (takeV 1 l s3.1 l.length s3.2.1)) (vs_7 s3.2.2 HL3.out (takeV 1 l s3.1 l.length s3.2.1) ((2 : Nat) : Int)))
            clear Q1
            have HQ4 : Hid (QAt w _ d g4 (d + 1) l (ptStep l s3 ⟨1, [⟨8, 0, 255⟩]⟩).1 (ptStep l s3 ⟨1, [⟨8, 0, 255⟩]⟩).2.1 (vm (ptStep l s3 ⟨1, [⟨8, 0, 255⟩]⟩).2.2 ((2 : Nat) : Int))) := hid (by rw [pt_full l HO.out s3 1 8 255 (by decide)]; exact Qz.out)
            have HL4 : Hid ((ptStep l s3 ⟨1, [⟨8, 0, 255⟩]⟩).2.2.length = 11) := by rw [Hid, pt_full l HO.out s3 1 8 255 (by decide)]; simp [HL3.out]
            have HT4 : Hid ((ptStep l s3 ⟨1, [⟨8, 0, 255⟩]⟩).2.2.getD 10 0 = b / 64 % 2) := by rw [Hid, pt_full l HO.out s3 1 8 255 (by decide)]; have := HT3.out; simpa [List.getD_eq_getElem?_getD, List.getElem?_set] using this
            generalize hs4 : ptStep l s3 ⟨1, [⟨8, 0, 255⟩]⟩ = s4 at *
            have HS4 := hid hs4
            clear hs4 Qz HQ3 HL3 HT3
            go_wp2_with fail
            go_meet
            case rel => exact ⟨s4, (by rw [rdB, HT4.out]; rfl), hid (by rw [← HS4.out, ← HS3.out, ← HS2.out, ← HS1.out, HS0.out]; rfl), HQ4.out, HL4.out⟩
          · have ee : (E == 0) = false := by simp [he]
            have HP := hid (HP.out.trans (by rw [spE, if_neg he]))
            clear he
            go_upto_region 31 with fail
            clear ee eb
            have c10 := (Q1.out.msg.cell 10).trans (Mv.at10 _)
            have f10 := Q1.out.msg.frozen 10
            have Qz := hid (Q1.out.setM 10 (.bool (b / 128 == 1)) (vs_10 s1.2.2 HL1.out (b / 128) ((2 : Nat) : Int)))
            rw [← vs_10no _ (by simp [HL1.out]) (b / 64 % 2)] at Qz
            clear Q1
            have HQ2 : Hid (QAt w _ d g4 (d + 1) l (ptStep l s1 ⟨1, [⟨7, 7, 1⟩, ⟨10, 6, 1⟩]⟩).1 (ptStep l s1 ⟨1, [⟨7, 7, 1⟩, ⟨10, 6, 1⟩]⟩).2.1 (vm (ptStep l s1 ⟨1, [⟨7, 7, 1⟩, ⟨10, 6, 1⟩]⟩).2.2 ((2 : Nat) : Int))) := hid (by rw [HP.out]; exact Qz.out)
            have HL2 : Hid ((ptStep l s1 ⟨1, [⟨7, 7, 1⟩, ⟨10, 6, 1⟩]⟩).2.2.length = 11) := by rw [Hid, HP.out]; simp [HL1.out]
            have HT2 : Hid ((ptStep l s1 ⟨1, [⟨7, 7, 1⟩, ⟨10, 6, 1⟩]⟩).2.2.getD 10 0 = b / 64 % 2) := by rw [Hid, HP.out]; simp [HL1.out]
            generalize hs2 : ptStep l s1 ⟨1, [⟨7, 7, 1⟩, ⟨10, 6, 1⟩]⟩ = s2 at *
            have HS2 := hid hs2
            clear hs2 Qz HQ1 HL1 HT1
            try clear c2
            go_wp2_with fail
            refine (q_zeros w _ d g4 (d + 1) l s2.1 s2.2.1 _ 1 (by decide) HQ2.out).mono ?_
            rintro e w6 ⟨rfl, Qz⟩
            have HQ3 : Hid (QAt w _ d g4 (d + 1) l (ptStep l s2 ⟨1, []⟩).1 (ptStep l s2 ⟨1, []⟩).2.1 (vm (ptStep l s2 ⟨1, []⟩).2.2 ((2 : Nat) : Int))) := hid (by rw [pt_none l s2 1]; exact Qz.out)
            have HL3 : Hid ((ptStep l s2 ⟨1, []⟩).2.2.length = 11) := by rw [Hid, pt_none l s2 1]; simp [HL2.out]
            have HT3 : Hid ((ptStep l s2 ⟨1, []⟩).2.2.getD 10 0 = b / 64 % 2) := by rw [Hid, pt_none l s2 1]; have := HT2.out; simpa [List.getD_eq_getElem?_getD, List.getElem?_set] using this
            generalize hs3 : ptStep l s2 ⟨1, []⟩ = s3 at *
            have HS3 := hid hs3
            clear hs3 Qz HQ2 HL2 HT2
            go_wp2_with fail
            refine (q_take w _ d g4 (d + 1) l s3.1 s3.2.1 _ 1 (by decide) HQ3.out).mono ?_
            rintro e w7 ⟨rfl, Q1⟩
            have cc := (Q1.out.msg.cell 7).trans (Mv.at7 _)
            have ff := Q1.out.msg.frozen 7
            have Qz := hid (Q1.out.setM 7 (.int .i64 (takeV 1 l s3.1 l.length s3.2.1)) (vs_7 s3.2.2 HL3.out (takeV 1 l s3.1 l.length s3.2.1) ((2 : Nat) : Int)))
            clear Q1
            have HQ4 : Hid (QAt w _ d g4 (d + 1) l (ptStep l s3 ⟨1, [⟨8, 0, 255⟩]⟩).1 (ptStep l s3 ⟨1, [⟨8, 0, 255⟩]⟩).2.1 (vm (ptStep l s3 ⟨1, [⟨8, 0, 255⟩]⟩).2.2 ((2 : Nat) : Int))) := hid (by rw [pt_full l HO.out s3 1 8 255 (by decide)]; exact Qz.out)
            have HL4 : Hid ((ptStep l s3 ⟨1, [⟨8, 0, 255⟩]⟩).2.2.length = 11) := by rw [Hid, pt_full l HO.out s3 1 8 255 (by decide)]; simp [HL3.out]
            have HT4 : Hid ((ptStep l s3 ⟨1, [⟨8, 0, 255⟩]⟩).2.2.getD 10 0 = b / 64 % 2) := by rw [Hid, pt_full l HO.out s3 1 8 255 (by decide)]; have := HT3.out; simpa [List.getD_eq_getElem?_getD, List.getElem?_set] using this
            generalize hs4 : ptStep l s3 ⟨1, [⟨8, 0, 255⟩]⟩ = s4 at *
            have HS4 := hid hs4
            clear hs4 Qz HQ3 HL3 HT3
            go_wp2_with fail
            go_meet
            case rel => exact ⟨s4, (by rw [rdB, HT4.out]; rfl), hid (by rw [← HS4.out, ← HS3.out, ← HS2.out, ← HS1.out, HS0.out]; rfl), HQ4.out, HL4.out⟩
    · as_aux_lemma =>
        obtain ⟨s0, hs0⟩ : ∃ s : Nat × Int × List Int, s = (0, 0, zer11) := ⟨_, rfl⟩
        have HQ0 : Hid (QAt w _ d g4 (d + 1) l s0.1 s0.2.1 (vm s0.2.2 ((3 : Nat) : Int))) := hid (by rw [hs0]; exact Q0.out)
        have HL0 : Hid (s0.2.2.length = 11) := by rw [Hid, hs0]; rfl
        have HT0 : Hid (s0.2.2.getD 10 0 = 0) := by rw [Hid, hs0]; rfl
        have HS0 := hid hs0
        clear hs0 Q0
        have f0 : (((3 : Nat) : Int) == 0) = false := rfl
        have f1 : (((3 : Nat) : Int) == 1) = false := rfl
        have f2 : (((3 : Nat) : Int) == 2) = false := rfl
        go_wp2_with fail
        refine (q_take w _ d g4 (d + 1) l s0.1 s0.2.1 _ 1 (by decide) HQ0.out).mono ?_
        rintro e w4 ⟨rfl, Q1⟩
        have cc := (Q1.out.msg.cell 1).trans (Mv.at1 _)
        have ff := Q1.out.msg.frozen 1
        have Qz := hid (Q1.out.setM 1 (.int .i64 (takeV 1 l s0.1 l.length s0.2.1)) (vs_1 s0.2.2 HL0.out (takeV 1 l s0.1 l.length s0.2.1) ((3 : Nat) : Int)))
        clear Q1
        have HQ1 : Hid (QAt w _ d g4 (d + 1) l (ptStep l s0 ⟨1, [⟨0, 0, 255⟩]⟩).1 (ptStep l s0 ⟨1, [⟨0, 0, 255⟩]⟩).2.1 (vm (ptStep l s0 ⟨1, [⟨0, 0, 255⟩]⟩).2.2 ((3 : Nat) : Int))) := hid (by rw [pt_full l HO.out s0 1 0 255 (by decide)]; exact Qz.out)
        have HL1 : Hid ((ptStep l s0 ⟨1, [⟨0, 0, 255⟩]⟩).2.2.length = 11) := by rw [Hid, pt_full l HO.out s0 1 0 255 (by decide)]; simp [HL0.out]
        have HT1 : Hid ((ptStep l s0 ⟨1, [⟨0, 0, 255⟩]⟩).2.2.getD 10 0 = 0) := by rw [Hid, pt_full l HO.out s0 1 0 255 (by decide)]; have := HT0.out; simpa [List.getD_eq_getElem?_getD, List.getElem?_set] using this
        generalize hs1 : ptStep l s0 ⟨1, [⟨0, 0, 255⟩]⟩ = s1 at *
        have HS1 := hid hs1
        clear hs1 Qz HQ0 HL0 HT0
        go_wp2_with fail
        refine (q_take w _ d g4 (d + 1) l s1.1 s1.2.1 _ 1 (by decide) HQ1.out).mono ?_
        rintro e w5 ⟨rfl, Q1⟩
        have hbd := takeV_bd1 l HO.out 1 s1.1 l.length s1.2.1 (.inl rfl)
        generalize hb : takeV 1 l s1.1 l.length s1.2.1 = b at *
        try rw [show takeV ((1 : Nat) : Int) l s1.1 l.length s1.2.1 = b from hb] at hbd
        obtain ⟨t64, t128, t8, m2, m8, mb8, m64, m128⟩ := flb b hbd.1 (hbd.2.2 rfl)
        have HP := hid (pt_fl3 l HO.out s1 b hb)
        clear hb hbd
        have Q1 : Hid (QAt w w5 d g4 (d + 1) l (s1.1 + rdN 1 1 (l.length - s1.1) s1.2.1) (rdE 1 1 (l.length - s1.1) s1.2.1) (vm s1.2.2 ((3 : Nat) : Int))) := Q1
        generalize rdE 1 1 (l.length - s1.1) s1.2.1 = E at *
        have c2 := Q1.out.c2
        by_cases hbit : b % 128 = 0
        · have eb : (b % 128 != 0) = false := by simp [hbit]
          have HP := hid (HP.out.trans (by rw [if_pos hbit]))
          clear hbit
          go_upto_region 11 with fail
          clear eb
          have Qz := Q1
          rw [← vs_10no _ HL1.out (b / 128)] at Qz
          clear Q1
          have HQ2 : Hid (QAt w _ d g4 (d + 1) l (ptStep l s1 ⟨1, [⟨10, 7, 1⟩]⟩).1 (ptStep l s1 ⟨1, [⟨10, 7, 1⟩]⟩).2.1 (vm (ptStep l s1 ⟨1, [⟨10, 7, 1⟩]⟩).2.2 ((3 : Nat) : Int))) := hid (by rw [HP.out]; exact Qz.out)
          have HL2 : Hid ((ptStep l s1 ⟨1, [⟨10, 7, 1⟩]⟩).2.2.length = 11) := by rw [Hid, HP.out]; simp [HL1.out]
          have HT2 : Hid ((ptStep l s1 ⟨1, [⟨10, 7, 1⟩]⟩).2.2.getD 10 0 = b / 128) := by rw [Hid, HP.out]; simp [HL1.out]
          generalize hs2 : ptStep l s1 ⟨1, [⟨10, 7, 1⟩]⟩ = s2 at *
          have HS2 := hid hs2
          clear hs2 Qz HQ1 HL1 HT1
          try clear c2
          go_wp2_with fail
          refine (q_take w _ d g4 (d + 1) l s2.1 s2.2.1 _ 1 (by decide) HQ2.out).mono ?_
          rintro e w6 ⟨rfl, Q1⟩
          have cc := (Q1.out.msg.cell 7).trans (Mv.at7 _)
          have ff := Q1.out.msg.frozen 7
          have Qz := hid (Q1.out.setM 7 (.int .i64 (takeV 1 l s2.1 l.length s2.2.1)) (vs_7 s2.2.2 HL2.out (takeV 1 l s2.1 l.length s2.2.1) ((3 : Nat) : Int)))
          clear Q1
          have HQ3 : Hid (QAt w _ d g4 (d + 1) l (ptStep l s2 ⟨1, [⟨8, 0, 255⟩]⟩).1 (ptStep l s2 ⟨1, [⟨8, 0, 255⟩]⟩).2.1 (vm (ptStep l s2 ⟨1, [⟨8, 0, 255⟩]⟩).2.2 ((3 : Nat) : Int))) := hid (by rw [pt_full l HO.out s2 1 8 255 (by decide)]; exact Qz.out)
          have HL3 : Hid ((ptStep l s2 ⟨1, [⟨8, 0, 255⟩]⟩).2.2.length = 11) := by rw [Hid, pt_full l HO.out s2 1 8 255 (by decide)]; simp [HL2.out]
          have HT3 : Hid ((ptStep l s2 ⟨1, [⟨8, 0, 255⟩]⟩).2.2.getD 10 0 = b / 128) := by rw [Hid, pt_full l HO.out s2 1 8 255 (by decide)]; have := HT2.out; simpa [List.getD_eq_getElem?_getD, List.getElem?_set] using this
          generalize hs3 : ptStep l s2 ⟨1, [⟨8, 0, 255⟩]⟩ = s3 at *
          have HS3 := hid hs3
          clear hs3 Qz HQ2 HL2 HT2
          go_wp2_with fail
          refine (q_take w _ d g4 (d + 1) l s3.1 s3.2.1 _ 1 (by decide) HQ3.out).mono ?_
          rintro e w7 ⟨rfl, Q1⟩
          have cc := (Q1.out.msg.cell 8).trans (Mv.at8 _)
          have ff := Q1.out.msg.frozen 8
          have Qz := hid (Q1.out.setM 8 (.int .i64 (takeV 1 l s3.1 l.length s3.2.1)) (vs_8 s3.2.2 HL3.out (takeV 1 l s3.1 l.length s3.2.1) ((3 : Nat) : Int)))
          clear Q1
          have HQ4 : Hid (QAt w _ d g4 (d + 1) l (ptStep l s3 ⟨1, [⟨9, 0, 255⟩]⟩).1 (ptStep l s3 ⟨1, [⟨9, 0, 255⟩]⟩).2.1 (vm (ptStep l s3 ⟨1, [⟨9, 0, 255⟩]⟩).2.2 ((3 : Nat) : Int))) := hid (by rw [pt_full l HO.out s3 1 9 255 (by decide)]; exact Qz.out)
          have HL4 : Hid ((ptStep l s3 ⟨1, [⟨9, 0, 255⟩]⟩).2.2.length = 11) := by rw [Hid, pt_full l HO.out s3 1 9 255 (by decide)]; simp [HL3.out]
          have HT4 : Hid ((ptStep l s3 ⟨1, [⟨9, 0, 255⟩]⟩).2.2.getD 10 0 = b / 128) := by rw [Hid, pt_full l HO.out s3 1 9 255 (by decide)]; have := HT3.out; simpa [List.getD_eq_getElem?_getD, List.getElem?_set] using this
          generalize hs4 : ptStep l s3 ⟨1, [⟨9, 0, 255⟩]⟩ = s4 at *
          have HS4 := hid hs4
          clear hs4 Qz HQ3 HL3 HT3
          go_wp2_with fail
          go_meet
          case rel => exact ⟨s4, (by rw [rdB, HT4.out]; rfl), hid (by rw [← HS4.out, ← HS3.out, ← HS2.out, ← HS1.out, HS0.out]; rfl), HQ4.out, HL4.out⟩
        · have eb : (b % 128 != 0) = true := by simp [hbit]
          have HP := hid (HP.out.trans (by rw [if_neg hbit]))
          clear hbit
          by_cases he : E = 0
          · have ee : (E == 0) = true := by simp [he]
            have f2 := Q1.out.soft 2
            have QE := hid (Q1.out.setE 3)
            have HP := hid (HP.out.trans (by rw [spE, if_pos he]))
            clear he
            go_upto_region 11 with fail
            generalize w5.setCell ⟨d, 2, none⟩ (.int .i64 3) = wE at *
            clear c2 f2 Q1 ee eb
            have Qz := QE
            rw [← vs_10no _ HL1.out (b / 128)] at Qz
            clear QE
            have HQ2 : Hid (QAt w _ d g4 (d + 1) l (ptStep l s1 ⟨1, [⟨10, 7, 1⟩]⟩).1 (ptStep l s1 ⟨1, [⟨10, 7, 1⟩]⟩).2.1 (vm (ptStep l s1 ⟨1, [⟨10, 7, 1⟩]⟩).2.2 ((3 : Nat) : Int))) := hid (by rw [HP.out]; exact Qz.out)
            have HL2 : Hid ((ptStep l s1 ⟨1, [⟨10, 7, 1⟩]⟩).2.2.length = 11) := by rw [Hid, HP.out]; simp [HL1.out]
            have HT2 : Hid ((ptStep l s1 ⟨1, [⟨10, 7, 1⟩]⟩).2.2.getD 10 0 = b / 128) := by rw [Hid, HP.out]; simp [HL1.out]
            generalize hs2 : ptStep l s1 ⟨1, [⟨10, 7, 1⟩]⟩ = s2 at *
            have HS2 := hid hs2
            clear hs2 Qz HQ1 HL1 HT1
            try clear c2
            go_wp2_with fail
            refine (q_take w _ d g4 (d + 1) l s2.1 s2.2.1 _ 1 (by decide) HQ2.out).mono ?_
            rintro e w6 ⟨rfl, Q1⟩
            have cc := (Q1.out.msg.cell 7).trans (Mv.at7 _)
            have ff := Q1.out.msg.frozen 7
            have Qz := hid (Q1.out.setM 7 (.int .i64 (takeV 1 l s2.1 l.length s2.2.1)) (vs_7 s2.2.2 HL2.out (takeV 1 l s2.1 l.length s2.2.1) ((3 : Nat) : Int)))
            clear Q1
            have HQ3 : Hid (QAt w _ d g4 (d + 1) l (ptStep l s2 ⟨1, [⟨8, 0, 255⟩]⟩).1 (ptStep l s2 ⟨1, [⟨8, 0, 255⟩]⟩).2.1 (vm (ptStep l s2 ⟨1, [⟨8, 0, 255⟩]⟩).2.2 ((3 : Nat) : Int))) := hid (by rw [pt_full l HO.out s2 1 8 255 (by decide)]; exact Qz.out)
            have HL3 : Hid ((ptStep l s2 ⟨1, [⟨8, 0, 255⟩]⟩).2.2.length = 11) := by rw [Hid, pt_full l HO.out s2 1 8 255 (by decide)]; simp [HL2.out]
            have HT3 : Hid ((ptStep l s2 ⟨1, [⟨8, 0, 255⟩]⟩).2.2.getD 10 0 = b / 128) := by rw [Hid, pt_full l HO.out s2 1 8 255 (by decide)]; have := HT2.out; simpa [List.getD_eq_getElem?_getD, List.getElem?_set] using this
            generalize hs3 : ptStep l s2 ⟨1, [⟨8, 0, 255⟩]⟩ = s3 at *
            have HS3 := hid hs3
            clear hs3 Qz HQ2 HL2 HT2
            go_wp2_with fail
            refine (q_take w _ d g4 (d + 1) l s3.1 s3.2.1 _ 1 (by decide) HQ3.out).mono ?_
            rintro e w7 ⟨rfl, Q1⟩
            have cc := (Q1.out.msg.cell 8).trans (Mv.at8 _)
            have ff := Q1.out.msg.frozen 8
            have Qz := hid (Q1.out.setM 8 (.int .i64 (takeV 1 l s3.1 l.length s3.2.1)) (vs_8 s3.2.2 HL3.out (takeV 1 l s3.1 l.length s3.2.1) ((3 : Nat) : Int)))
            clear Q1
            have HQ4 : Hid (QAt w _ d g4 (d + 1) l (ptStep l s3 ⟨1, [⟨9, 0, 255⟩]⟩).1 (ptStep l s3 ⟨1, [⟨9, 0, 255⟩]⟩).2.1 (vm (ptStep l s3 ⟨1, [⟨9, 0, 255⟩]⟩).2.2 ((3 : Nat) : Int))) := hid (by rw [pt_full l HO.out s3 1 9 255 (by decide)]; exact Qz.out)
            have HL4 : Hid ((ptStep l s3 ⟨1, [⟨9, 0, 255⟩]⟩).2.2.length = 11) := by rw [Hid, pt_full l HO.out s3 1 9 255 (by decide)]; simp [HL3.out]
            have HT4 : Hid ((ptStep l s3 ⟨1, [⟨9, 0, 255⟩]⟩).2.2.getD 10 0 = b / 128) := by rw [Hid, pt_full l HO.out s3 1 9 255 (by decide)]; have := HT3.out; simpa [List.getD_eq_getElem?_getD, List.getElem?_set] using this
            generalize hs4 : ptStep l s3 ⟨1, [⟨9, 0, 255⟩]⟩ = s4 at *
            have HS4 := hid hs4
            clear hs4 Qz HQ3 HL3 HT3
            go_wp2_with fail
            go_meet
            case rel => exact ⟨s4, (by rw [rdB, HT4.out]; rfl), hid (by rw [← HS4.out, ← HS3.out, ← HS2.out, ← HS1.out, HS0.out]; rfl), HQ4.out, HL4.out⟩
          · have ee : (E == 0) = false := by simp [he]
            have HP := hid (HP.out.trans (by rw [spE, if_neg he]))
            clear he
            go_upto_region 11 with fail
            clear ee eb
            have Qz := Q1
            rw [← vs_10no _ HL1.out (b / 128)] at Qz
            clear Q1
            have HQ2 : Hid (QAt w _ d g4 (d + 1) l (ptStep l s1 ⟨1, [⟨10, 7, 1⟩]⟩).1 (ptStep l s1 ⟨1, [⟨10, 7, 1⟩]⟩).2.1 (vm (ptStep l s1 ⟨1, [⟨10, 7, 1⟩]⟩).2.2 ((3 : Nat) : Int))) := hid (by rw [HP.out]; exact Qz.out)
            have HL2 : Hid ((ptStep l s1 ⟨1, [⟨10, 7, 1⟩]⟩).2.2.length = 11) := by rw [Hid, HP.out]; simp [HL1.out]
            have HT2 : Hid ((ptStep l s1 ⟨1, [⟨10, 7, 1⟩]⟩).2.2.getD 10 0 = b / 128) := by rw [Hid, HP.out]; simp [HL1.out]
            generalize hs2 : ptStep l s1 ⟨1, [⟨10, 7, 1⟩]⟩ = s2 at *
            have HS2 := hid hs2
            clear hs2 Qz HQ1 HL1 HT1
            try clear c2
            go_wp2_with fail
            refine (q_take w _ d g4 (d + 1) l s2.1 s2.2.1 _ 1 (by decide) HQ2.out).mono ?_
            rintro e w6 ⟨rfl, Q1⟩
            have cc := (Q1.out.msg.cell 7).trans (Mv.at7 _)
            have ff := Q1.out.msg.frozen 7
            have Qz := hid (Q1.out.setM 7 (.int .i64 (takeV 1 l s2.1 l.length s2.2.1)) (vs_7 s2.2.2 HL2.out (takeV 1 l s2.1 l.length s2.2.1) ((3 : Nat) : Int)))
            clear Q1
            have HQ3 : Hid (QAt w _ d g4 (d + 1) l (ptStep l s2 ⟨1, [⟨8, 0, 255⟩]⟩).1 (ptStep l s2 ⟨1, [⟨8, 0, 255⟩]⟩).2.1 (vm (ptStep l s2 ⟨1, [⟨8, 0, 255⟩]⟩).2.2 ((3 : Nat) : Int))) := hid (by rw [pt_full l HO.out s2 1 8 255 (by decide)]; exact Qz.out)
            have HL3 : Hid ((ptStep l s2 ⟨1, [⟨8, 0, 255⟩]⟩).2.2.length = 11) := by rw [Hid, pt_full l HO.out s2 1 8 255 (by decide)]; simp [HL2.out]
            have HT3 : Hid ((ptStep l s2 ⟨1, [⟨8, 0, 255⟩]⟩).2.2.getD 10 0 = b / 128) := by rw [Hid, pt_full l HO.out s2 1 8 255 (by decide)]; have := HT2.out; simpa [List.getD_eq_getElem?_getD, List.getElem?_set] using this
            generalize hs3 : ptStep l s2 ⟨1, [⟨8, 0, 255⟩]⟩ = s3 at *
            have HS3 := hid hs3
            clear hs3 Qz HQ2 HL2 HT2
            go_wp2_with fail
            refine (q_take w _ d g4 (d + 1) l s3.1 s3.2.1 _ 1 (by decide) HQ3.out).mono ?_
            rintro e w7 ⟨rfl, Q1⟩
            have cc := (Q1.out.msg.cell 8).trans (Mv.at8 _)
            have ff := Q1.out.msg.frozen 8
            have Qz := hid (Q1.out.setM 8 (.int .i64 (takeV 1 l s3.1 l.length s3.2.1)) (vs_8 s3.2.2 HL3.out (takeV 1 l s3.1 l.length s3.2.1) ((3 : Nat) : Int)))
            clear Q1
            have HQ4 : Hid (QAt w _ d g4 (d + 1) l (ptStep l s3 ⟨1, [⟨9, 0, 255⟩]⟩).1 (ptStep l s3 ⟨1, [⟨9, 0, 255⟩]⟩).2.1 (vm (ptStep l s3 ⟨1, [⟨9, 0, 255⟩]⟩).2.2 ((3 : Nat) : Int))) := hid (by rw [pt_full l HO.out s3 1 9 255 (by decide)]; exact Qz.out)
            have HL4 : Hid ((ptStep l s3 ⟨1, [⟨9, 0, 255⟩]⟩).2.2.length = 11) := by rw [Hid, pt_full l HO.out s3 1 9 255 (by decide)]; simp [HL3.out]
            have HT4 : Hid ((ptStep l s3 ⟨1, [⟨9, 0, 255⟩]⟩).2.2.getD 10 0 = b / 128) := by rw [Hid, pt_full l HO.out s3 1 9 255 (by decide)]; have := HT3.out; simpa [List.getD_eq_getElem?_getD, List.getElem?_set] using this
            generalize hs4 : ptStep l s3 ⟨1, [⟨9, 0, 255⟩]⟩ = s4 at *
            have HS4 := hid hs4
            clear hs4 Qz HQ3 HL3 HT3
            go_wp2_with fail
            go_meet
            case rel => exact ⟨s4, (by rw [rdB, HT4.out]; rfl), hid (by rw [← HS4.out, ← HS3.out, ← HS2.out, ← HS1.out, HS0.out]; rfl), HQ4.out, HL4.out⟩
  case rest =>
    obtain ⟨s, rfl, hs, Qc, hL⟩ := hcut
    have HS := hid hs.out
    go_upto_if 140 with fail
    go_cut [8] from 9 (fun v wx => Hid (QAt w wx d g4 (d + 1) l (rdT k l).1 (rdT k l).2.1 ({ vm s.2.2 k with ro := (rdT k l).2.2 } : Mv)) ∧ Hid (Adr (rdT k l).2.2))
    case first =>
      as_aux_lemma =>
        cases hrb : rdB k s
        · have HRT : Hid (rdT k l = (s.1, s.2.1, zeros)) := by rw [Hid, rdT, ← HS.out, if_neg (by rw [hrb]; decide)]
          go_wp2_with fail
          go_meet
          case rel => exact ⟨hid (by rw [HRT.out]; exact Qc.out), hid (by rw [HRT.out]; exact adr_zeros)⟩
        · have HRT : Hid (rdT k l = (adA l s.1 s.2.1, adE l s.1 s.2.1, adR l s.1 s.2.1)) := by rw [Hid, rdT, ← HS.out, if_pos hrb]
          have hrb2 := hrb
          rw [hrb] at *
          clear hrb hrb2
          go_wp2_with fail
          refine (q_bytes w _ d g4 (d + 1) l s.1 s.2.1 _ 16 Qc.out).mono ?_
          rintro e w4 ⟨a1, c1, rfl, hl1, hbk, Q1⟩
          dsimp only
          generalize hNN : rdN 1 ((16 : Nat) : Int) (l.length - s.1) s.2.1 = NN at *
          generalize hEE : rdE 1 ((16 : Nat) : Int) (l.length - s.1) s.2.1 = EE at *
          have HAR : Hid (adR l s.1 s.2.1 = if EE = 0 then (l.drop s.1).take 16 else zeros) := hid (by rw [← hEE]; rfl)
          have HAE : Hid (adE l s.1 s.2.1 = if adR l s.1 s.2.1 = zeros then spE EE 1 else EE) := hid (by rw [← hEE]; rfl)
          have HAA : Hid (adA l s.1 s.2.1 = s.1 + NN) := hid (by rw [← hNN]; rfl)
          have hNE : NN = if EE = 0 then 16 else 0 := by rw [← hNN, ← hEE]; rfl
          clear hNN hEE
          have HFO : Hid (Oct ((l.drop s.1).take 16)) := (HO.out.cut _ _)
          by_cases hE : EE = 0
          · rw [if_pos hE] at hNE
            have HAR := hid (HAR.out.trans (by rw [if_pos hE]))
            subst hNE
            subst hE
            have HF := hid hl1.out.1
            generalize (l.drop s.1).take 16 = F at *
            have HARF : Hid (adR l s.1 s.2.1 = F) := hid (HAR.out.trans (by simp))
            have Q1 : Hid (QAt w w4 d g4 (d + 1) l (s.1 + 16) 0 (({ vm s.2.2 k with ro := mix F 0 } : Mv))) := Q1
            go_wp2_with fail
            go_loopw [13, 14] (fun zv iv wr => ∃ i : Nat, i ≤ 16 ∧ iv = .int .i64 i ∧ zv = .bool (zb F i) ∧ Hid (QAt w wr d g4 (d + 1) l (s.1 + 16) 0 (({ vm s.2.2 k with ro := mix F i } : Mv))) ∧ Hid (Lies .u8 wr a1 16 c1 F)) (fun _ iv _ => 16 - (intOf iv).toNat)
            case atStart => exact ⟨0, by omega, rfl, rfl, Q1, hl1⟩
            case round =>
              obtain ⟨i, hi, rfl, rfl, QI, LI⟩ := hrel
              by_cases hlt : i < 16
              · have hlt' : (i : Int) < 16 := by omega
                obtain ⟨b, off, ha1, hc⟩ := LI.out.2.2.2.2 i hlt
                have HZ := hid (zb_succ F i (by rw [HF.out]; exact hlt))
                have HX := hid (mix_succ F HF.out i hlt)
                have hAd := mix_adr F HF.out HFO.out i (by omega)
                have cc := (QI.out.msg.cell (11 + i)).trans (Mv.atA (m := ({ vm s.2.2 k with ro := mix F i } : Mv)) hAd i hlt)
                have ff := QI.out.msg.frozen (11 + i)
                have Q2a := hid (QI.out.setM (11 + i) (.int .u8 (F.getD i 0)) (put_ro (({ vm s.2.2 k with ro := mix F i } : Mv)) hAd.1 i hlt (F.getD i 0)))
                have L2 := hid (lies_kept LI.out hbk.out (grownBy_setCell wr (d + 1) (11 + i) (.int .u8 (F.getD i 0))) (by have := QI.out.lo7; exact this) QI.out.below.size)
                obtain ⟨b2, off2, ha2, hc2⟩ := L2.out.2.2.2.2 i hlt
                rw [ha1] at ha2
                injection ha2 with ha3
                injection ha3 with hb2 ho2
                subst hb2; subst ho2; subst ha1
                have Q2 : Hid (QAt w _ d g4 (d + 1) l (s.1 + 16) 0 (({ vm s.2.2 k with ro := mix F (i + 1) } : Mv))) := hid (by rw [HX.out]; exact Q2a.out)
                clear QI LI hAd Q2a
                generalize F.getD i 0 = x at *
                generalize mix F i = mi at *
                cases hzb : zb F i
                · rw [hzb] at HZ
                  have HZ := hid (HZ.out.trans (Bool.false_and _))
                  go_wp2_with fail
                  go_roundw
                  case rel => exact ⟨i + 1, by omega, by go_num, by rw [HZ.out], Q2.out, L2.out⟩
                  case measure => simp [intOf]; omega
                · rw [hzb] at HZ
                  have HZ := hid (HZ.out.trans (Bool.true_and _))
                  go_wp2_with fail
                  go_roundw
                  case rel => exact ⟨i + 1, by omega, by go_num, by rw [HZ.out], Q2.out, L2.out⟩
                  case measure => simp [intOf]; omega
              · obtain rfl : i = 16 := by omega
                rw [zb_16 F HF.out]
                have Q3 : Hid (QAt w wr d g4 (d + 1) l (s.1 + 16) 0 ({ vm s.2.2 k with ro := F } : Mv)) := hid (by have := QI.out; rw [mix_16 F HF.out] at this; exact this)
                have c2 := Q3.out.c2
                have hAF : Adr F := ⟨HF.out, HFO.out⟩
                clear QI LI
                by_cases hz0 : F = zeros
                · have HZ0 := hid hz0
                  have ez : decide (F = zeros) = true := decide_eq_true hz0
                  have f2 := Q3.out.soft 2
                  have QE := hid (Q3.out.setE 1)
                  have HAEf : Hid (adE l s.1 s.2.1 = 1) := by rw [Hid, HAE.out, HARF.out]; simp [hz0, spE]
                  clear hz0
                  go_wp2_with fail
                  go_meet
                  case rel => exact ⟨hid (by rw [HRT.out, HAA.out, HAEf.out, HARF.out]; exact QE.out), hid (by rw [HRT.out, HARF.out]; exact hAF)⟩
                · have ez : decide (F = zeros) = false := decide_eq_false hz0
                  have HAEf : Hid (adE l s.1 s.2.1 = 0) := by rw [Hid, HAE.out, HARF.out]; simp [hz0]
                  clear hz0
                  go_wp2_with fail
                  go_meet
                  case rel => exact ⟨hid (by rw [HRT.out, HAA.out, HAEf.out, HARF.out]; exact Q3.out), hid (by rw [HRT.out, HARF.out]; exact hAF)⟩
          · rw [if_neg hE] at hNE
            have HAR := hid (HAR.out.trans (by rw [if_neg hE]))
            have HAE := hid (HAE.out.trans (by rw [HAR.out, if_pos rfl, spE, if_neg hE]))
            have ee : (EE == 0) = false := by simp [hE]
            subst hNE
            have c2 := Q1.out.c2
            clear hE
            go_wp2_with fail
            go_loopw [13, 14] (fun zv iv wr => iv = .int .i64 0 ∧ zv = .bool true ∧ wr = w4) (fun _ iv _ => 0)
            case atStart => exact ⟨rfl, rfl, rfl⟩
            case round =>
              obtain ⟨rfl, rfl, rfl⟩ := hrel
              go_wp2_with fail
              go_meet
              case rel => exact ⟨hid (by rw [HRT.out, HAA.out, HAE.out, HAR.out]; exact Q1.out), hid (by rw [HRT.out, HAR.out]; exact adr_zeros)⟩
    case rest =>
      obtain ⟨Qd, HRO⟩ := hcut
      have HDE : Hid (dcE k l = opE k l (rdT k l).1 (rdT k l).2.1) := rfl
      have HDM : Hid (dcM k l = { (vm s.2.2 k).p with ro := (rdT k l).2.2, o := opP l (rdT k l).1 (rdT k l).2.1 }) := by rw [Hid, dcM, dcP, ← HS.out]
      generalize (rdT k l).2.2 = ro at *
      generalize (rdT k l).2.1 = er3 at *
      generalize (rdT k l).1 = at3 at *
      have HG := hid Qd.out.lo4
      have c2 := Qd.out.c2
      by_cases hE : er3 = 0
      · subst hE
        have HDE := hid (HDE.out.trans (opE0 k l at3))
        obtain ⟨a2, cap2, hr, ha2⟩ := Qd.out.cur
        have hle3 := Qd.out.le
        have c0 := hr.cell0
        go_wp2_with fail
        refine (refDecO_any w.heap.size a2 (l.length - at3) cap2 (l.drop at3) _ hr.lies hr.oct (by omega) (fun x e _ => ha2 x e)).mono ?_
        rintro e w5 ⟨v, L, rfl, hb5, ho5, hm5, hp5, ht5⟩
        obtain ⟨oa, oc, rfl⟩ := owns_len ho5
        have Q5 := hid (Qd.out.on hb5)
        have O5 := hid ho5
        have M5 := hid hm5
        have B5 := hid hb5
        have T5 := hid ht5
        clear c0 c2 hr ha2 hb5 ho5 hm5 ht5
        have HP5 := hid hp5
        have hL1 := (opts_own rfl O5.out (fun o ho => (M5.out o ho).ok B5.out)).le
        have hL2 := (opts_own rfl O5.out (fun o ho => (M5.out o ho).ok B5.out)).max
        unfold maxLen at hL2
        clear hp5
        by_cases h5 : (dec 0 (l.drop at3)).2 = 0
        · have HE5 := hid h5
          have HP5 := hid (HP5.out.trans (if_pos h5))
          rw [h5]
          clear h5
          as_aux_lemma =>
            go_wp2_with fail
            go_loopw [17] (fun iv wr => ∃ j : Nat, j ≤ L.length ∧ iv = .int .i64 j ∧ Hid (∀ i, i < j → mayB k (L.getD i Ov.zero).k = true) ∧ Hid (Below w5.heap.size w5 wr)) (fun iv _ => L.length - (intOf iv).toNat)
            case atStart => exact ⟨0, Nat.zero_le _, rfl, hid (fun i hi => by omega), hid (Below.refl _ _)⟩
            case round =>
              obtain ⟨j, hj, rfl, hno, hb⟩ := hrel
              have Qr := hid (Q5.out.on hb.out)
              have Or := hid (own_below O5.out hb.out)
              have Mr := hid (fun o ho => (M5.out o ho).below hb.out)
              have Br := hid (bthen B5.out hb.out)
              have HBr := hid hb.out
              clear hb
              by_cases hlt : j < L.length
              · have hlt' : (j : Int) < (L.length : Int) := by omega
                obtain ⟨b1, off1, ha1, hp1⟩ := (opts_own rfl Or.out (fun o ho => (Mr.out o ho).ok Br.out)).cell j hlt
                have OBJ := hid Or.out
                generalize hoo : L.getD j Ov.zero = o at *
                have HOO := hid hoo
                have ck : wr.cell? ⟨b1, off1 + j * 19, none⟩ = some (.int .i64 o.k) := hp1 0 _ o.at0
                have HK := hid (show o ∈ L by rw [← hoo]; simp [hlt])
                clear hp1 hoo
                subst ha1
                go_wp2_with fail
                refine (refMay_any k o.k _).mono ?_
                rintro e w6 ⟨rfl, hb6⟩
                have Q6 := hid (Qr.out.on hb6)
                have B6 := hid (bthen Br.out hb6)
                have R6 := hid (own_below Or.out hb6)
                have HB6 := hid hb6
                clear ck hb6
                cases hh : mayB k o.k
                · have HE2 : Hid (dE k l = 6) := by rw [Hid, HE.out, HDE.out, if_pos HE5.out, if_neg]; rw [← HP5.out]; exact allM_no HK.out hh
                  have HM2 : Hid (dM k l = Pm.zero) := by rw [Hid, HM.out, ← HE.out, HE2.out]; rfl
                  have RZ := hid Q6.out.res
                  have BZ := hid Q6.out.below
                  have HG := hid Q6.out.lo4
                  go_wp2_with (first | ((with_reducible refine wpl_id ?_); refine bdMz m25 rfl rfl ?_) | ((with_reducible refine wpl_id ?_); refine stM m25 _ _ rfl rfl g4 Mv.zero adr_zeros rfl rfl 25 Mv.zero adr_zeros RZ.out ?_))
                  exact bodyPost_ret (resMe m25 rfl _ _ g4 25 Mv.zero adr_zeros (.int .i64 6) rfl rfl (RZ.out.setRow _)) rfl ⟨Mv.zero, by rw [HE2.out], Mv.zero_ok _, by rw [HM2.out]; rfl, below_setRow' BZ.out HG.out _⟩
                · go_wp2_with fail
                  go_roundw
                  case rel =>
                    refine ⟨j + 1, by omega, by go_num, hid ?_, hid (bthen HBr.out HB6.out)⟩
                    intro i hi
                    by_cases hij : i = j
                    · rw [hij, HOO.out]; exact hh
                    · exact hno.out i (by omega)
                  case measure => simp [intOf]; omega
              · obtain rfl : j = L.length := by omega
                have HAL : Hid (allM k (pos L) = true) := hid (allM_yes hno.out)
                have HE2 : Hid (dE k l = 0) := by rw [Hid, HE.out, HDE.out, if_pos HE5.out, if_pos]; rw [← HP5.out]; exact HAL.out
                have HM2 : Hid (dM k l = dcM k l) := by rw [Hid, HM.out, ← HE.out, HE2.out]; rfl
                have c27 := (Qr.out.msg.cell 27).trans (Mv.at27 HRO.out)
                have f27 := Qr.out.msg.frozen 27
                have G7 := hid (grownBy_setCell wr (d + 1) 27 (.slice oa L.length oc))
                have Q7 := hid (Qr.out.setM 27 (.slice oa L.length oc) (put27 _ HRO.out.1 oa L.length oc L))
                have O7 := hid (Or.out.kept G7.out (.inr (own_row Or.out Qr.out.msg (by decide))))
                have M7 := hid (fun o ho => (Mk.of (Mr.out o ho) Br.out (T5.out o ho)).row Qr.out.msg G7.out Qr.out.lo7 Qr.out.below.size)
                have c27r := c27
                go_upto_region 55 with fail
                generalize wr.setCell ⟨d + 1, 27, none⟩ (.slice oa L.length oc) = w7 at *
                clear c27 c27r f27 Qr Or Mr G7
                have HMP : Hid (({ vm s.2.2 k with ro := ro, oa := oa, on := L.length, oc := oc, L := L } : Mv).p = dcM k l) := by
                  rw [Hid, HDM.out, opP0, if_pos HE5.out, ← HP5.out]
                  rfl
                have HA7 : Hid (Adr ({ vm s.2.2 k with ro := ro, oa := oa, on := L.length, oc := oc, L := L } : Mv).ro) := HRO.out
                have HL7 : Hid (({ vm s.2.2 k with ro := ro, oa := oa, on := L.length, oc := oc, L := L } : Mv).L.length = ({ vm s.2.2 k with ro := ro, oa := oa, on := L.length, oc := oc, L := L } : Mv).on) := rfl
                have O7 : Hid (w7.ownsRow _ 57 19 (.slice ({ vm s.2.2 k with ro := ro, oa := oa, on := L.length, oc := oc, L := L } : Mv).oa ({ vm s.2.2 k with ro := ro, oa := oa, on := L.length, oc := oc, L := L } : Mv).on ({ vm s.2.2 k with ro := ro, oa := oa, on := L.length, oc := oc, L := L } : Mv).oc) ({ vm s.2.2 k with ro := ro, oa := oa, on := L.length, oc := oc, L := L } : Mv).on (ocs ({ vm s.2.2 k with ro := ro, oa := oa, on := L.length, oc := oc, L := L } : Mv).L)) := O7
                have M7 : Hid (∀ o ∈ ({ vm s.2.2 k with ro := ro, oa := oa, on := L.length, oc := oc, L := L } : Mv).L, Mk _ w.heap.size w7 o) := M7
                have Q7 : Hid (QAt w w7 d g4 (d + 1) l at3 0 ({ vm s.2.2 k with ro := ro, oa := oa, on := L.length, oc := oc, L := L } : Mv)) := Q7
                generalize ({ vm s.2.2 k with ro := ro, oa := oa, on := L.length, oc := oc, L := L } : Mv) = m at *
                have G8 := hid (grownBy_setRow w7 g4 m.cs)
                have O8 := hid (O7.out.kept G8.out (.inr (own_row O7.out Q7.out.res (by decide))))
                have M8 := hid (fun o ho => (M7.out o ho).row Q7.out.res G8.out Q7.out.lo4 Q7.out.below.size)
                have B8 := hid (bgrown Q7.out.below G8.out Q7.out.lo4)
                go_wp2_with (first | ((with_reducible refine wpl_id ?_); refine ldM m25 _ rfl rfl _ _ rfl m HA7.out Q7.out.msg.part ?_) | ((with_reducible refine wpl_id ?_); refine stM m25 _ _ rfl rfl g4 m HA7.out rfl rfl 25 Mv.zero adr_zeros Q7.out.res ?_))
                refine bodyPost_ret (resMe m25 rfl _ _ g4 25 m HA7.out (.int .i64 0) rfl rfl (Q7.out.res.setRow _)) rfl ⟨m, by rw [HE2.out], hid ⟨HA7.out, opts_own HL7.out O8.out (fun o ho => (M8.out o ho).ok)⟩, by rw [HM2.out]; exact HMP, B8⟩
        · have HE2 : Hid (dE k l = (dec 0 (l.drop at3)).2) := by rw [Hid, HE.out, HDE.out, if_neg h5]
          have HM2 : Hid (dM k l = Pm.zero) := by rw [Hid, HM.out, ← HE.out, HE2.out, if_neg h5]
          generalize (dec 0 (l.drop at3)).2 = e5 at *
          have e5b : (e5 != 0) = true := bne_iff_ne.2 h5
          have RZ := hid Q5.out.res
          have BZ := hid Q5.out.below
          clear h5
          as_aux_lemma =>
            go_wp2_with (first | ((with_reducible refine wpl_id ?_); refine bdMz m25 rfl rfl ?_) | ((with_reducible refine wpl_id ?_); refine stM m25 _ _ rfl rfl g4 Mv.zero adr_zeros rfl rfl 25 Mv.zero adr_zeros RZ.out ?_))
            exact bodyPost_ret (resMe m25 rfl _ _ g4 25 Mv.zero adr_zeros (.int .i64 e5) rfl rfl (RZ.out.setRow _)) rfl ⟨Mv.zero, by rw [HE2.out], Mv.zero_ok _, by rw [HM2.out]; rfl, below_setRow' BZ.out HG.out _⟩
      · have e3 : (er3 != 0) = true := bne_iff_ne.2 hE
        have HE2 : Hid (dE k l = er3) := by rw [Hid, HE.out, HDE.out, opE_bad hE]
        have HM2 : Hid (dM k l = Pm.zero) := by rw [Hid, HM.out, ← HE.out, HE2.out, if_neg hE]
        clear hE
        as_aux_lemma =>
          go_wp2_with fail
          refine wp_region_held_drew (S := fun w' => w'.cell? ⟨d, 2, none⟩ = some (.int .i64 er3)) (by kernel_rfl) ?_ (fun hHeld => ?_)
          · exact Qd.out.c2
          have RZ : Hid (Row wc.drew g4 25 Mv.zero.cs) := Qd.out.res
          have BZ : Hid (Below w.heap.size w wc.drew) := hid (bdrew Qd.out.below 1)
          have HDG : Hid (d ≠ g4) := hid (fun e => Qd.out.n4d e.symm)
          generalize wc.drew = wd at *
          refine wpAnyH_take (i := 0) (oi := _) (v := .agg Mv.zero.cs) rfl (by kernel_rfl) (by kernel_rfl) (by kernel_rfl) (fun _ _ _ h => h) (ybdMz m25 (by rfl) rfl) (by assumption) ?_
          try simp only [List.getElem_toArray, List.getElem_cons_zero, List.getElem_cons_succ, Act.put, List.setIfInBounds_toArray, List.set_cons_zero, List.set_cons_succ]
          refine wpAnyH_take (i := 1) (oi := _) (v := ?vz1) rfl (by kernel_rfl) (by kernel_rfl) (by kernel_rfl) (fun _ _ _ h => h) (Or.inl ⟨by rfl, ?hyz1⟩) (by assumption) ?restz1
          case hyz1 => (intro w hSw; (try dsimp only at hSw); go_split_ands; go_simp; try (with_reducible rfl))
          try simp only [List.getElem_toArray, List.getElem_cons_zero, List.getElem_cons_succ, Act.put, List.setIfInBounds_toArray, List.set_cons_zero, List.set_cons_succ]
          refine wpAnyH_take (i := 2) (oi := _) (v := ?vz2) rfl (by kernel_rfl) (by kernel_rfl) (by kernel_rfl) (fun _ _ _ h => h) (Or.inl ⟨by rfl, ?hyz2⟩) (by assumption) ?restz2
          case hyz2 => (intro w hSw; (try dsimp only at hSw); go_split_ands; go_simp; try (with_reducible rfl))
          try simp only [List.getElem_toArray, List.getElem_cons_zero, List.getElem_cons_succ, Act.put, List.setIfInBounds_toArray, List.set_cons_zero, List.set_cons_succ]
          refine wpAnyH_take (i := 3) (oi := _) (v := ?vz3) rfl (by kernel_rfl) (by kernel_rfl) (by kernel_rfl) (fun _ _ _ h => h) (Or.inl ⟨by rfl, ?hyz3⟩) (by assumption) ?restz3
          case hyz3 => (intro w hSw; (try dsimp only at hSw); go_split_ands; go_simp; try (with_reducible rfl))
          try simp only [List.getElem_toArray, List.getElem_cons_zero, List.getElem_cons_succ, Act.put, List.setIfInBounds_toArray, List.set_cons_zero, List.set_cons_succ]
          refine wpAnyH_take (i := 4) (oi := _) (v := ?vz4) rfl (by kernel_rfl) (by kernel_rfl) (by kernel_rfl) (fun _ _ _ h => h) (Or.inl ⟨by rfl, ?hyz4⟩) (by assumption) ?restz4
          case hyz4 => (intro w hSw; (try dsimp only at hSw); go_split_ands; go_simp; try (with_reducible rfl))
          try simp only [List.getElem_toArray, List.getElem_cons_zero, List.getElem_cons_succ, Act.put, List.setIfInBounds_toArray, List.set_cons_zero, List.set_cons_succ]
          refine wpAnyH_ready (rs := [5]) (by kernel_rfl) (by simp) ?_
          refine AllReadyH.cons (o := _) rfl (fun K hK => ?_) AllReadyH.nil
          refine step_st rfl 25 _ _ rfl g4 Mv.zero.cs rfl rfl 25 Mv.zero.cs RZ.out m25.info rfl Mv.zero.one ?_
          have CZ : (wd.setRow g4 Mv.zero.cs).cell? ⟨d, 2, none⟩ = some (.int .i64 er3) := by
            have := setRow_other wd g4 d Mv.zero.cs HDG.out
            simp only [World.cell?, this]
            exact hHeld
          refine hK.out _ _ CZ (fun hHeld => ?_)
          clear hK K
          try simp only [List.getElem_toArray, List.getElem_cons_zero, List.getElem_cons_succ, Act.put, List.setIfInBounds_toArray, List.set_cons_zero, List.set_cons_succ]
          refine wpAnyH_take (i := 6) (oi := _) (v := ?vy6) rfl (by kernel_rfl) (by kernel_rfl) (by kernel_rfl) (fun _ _ _ h => h) (Or.inl ⟨by rfl, ?hyy6⟩) (by assumption) ?resty6
          case hyy6 => (intro w hSw; (try dsimp only at hSw); go_split_ands; go_simp; try (with_reducible rfl))
          try simp only [List.getElem_toArray, List.getElem_cons_zero, List.getElem_cons_succ, Act.put, List.setIfInBounds_toArray, List.set_cons_zero, List.set_cons_succ]
          refine wpAnyH_done (by kernel_rfl) ?_ _
          go_wp2_with fail
          exact bodyPost_ret (resMe m25 rfl _ _ g4 25 Mv.zero adr_zeros (.int .i64 er3) rfl rfl (RZ.out.setRow _)) rfl ⟨Mv.zero, by rw [HE2.out], Mv.zero_ok _, by rw [HM2.out]; rfl, below_setRow' BZ.out HG.out _⟩
end Go.Proofs.YtbfjkhafdkhhmaaDoor
