/- Reading: Decode. · The reader: address, options. · The reader: options. · A message of values. · What the reader makes of bytes; small laws. · Packets in memory. · Reading a header. -/
import Derived.Test.YtbklpelikaapoaaGreatDoorM8
import Derived.Test.YtbklpelikaapoaaGreatDoorM4
import Derived.Test.YtbklpelikaapoaaGreatDoorM5
import Derived.Deep.MidRow
import Derived.Test.YtbklpelikaapoaaGreatDoorM6
namespace Go.Proofs.YtbklpelikaapoaaGreatDoor
open Go.ChangeShapes Go.WideShapes Go.ChangeAt Go.RowKit Go.Deep
set_option linter.unusedVariables false
set_option linter.unusedSimpArgs false

theorem next_any {B base : Nat} (w w0 : World) (p c : Nat) (a : Option Addr) (len cap : Nat) (l : List Int) (at_ : Nat) (gv : Value) (L : List Ov) (h : NxAt base w w0 p c a len cap l at_ 0 gv L) (hV : Vars B w0) (hB : B ≤ base) (hat : at_ < len) (hL : L.length ≤ 16) :
    Calls Tryz.prog 163 #[.pointer (some ⟨p, 0, none⟩)] w0 fun e w' => e = .returned (.tuple #[]) ∧ Hid (NxOk base w w' p c a len cap l at_ L) := by
  by_cases h16 : L.length = 16
  · exact next_full w w0 p c a len cap l at_ gv L h hV hB hat hL h16
  · cases hk : kndB (nxK (l.drop at_))
    · exact next_kind w w0 p c a len cap l at_ gv L h hV hB hat hL h16 hk
    · obtain ⟨k, e, hk10⟩ := knd_nat hk
      by_cases h0 : k = 0
      · exact next_pad w w0 p c a len cap l at_ gv L h hV hB hat hL h16 (by rw [e, h0]; rfl)
      · exact next_other w w0 p c a len cap l at_ gv L h hV hB hat hL h16 k hk10 h0 e
theorem nxN_pos (m : List Int) : 1 ≤ nxN m := by unfold nxN; split <;> omega
/-- The options of bytes behind n others, and what is wrong. -/
def dec (n : Nat) (m : List Int) : List Po × Int :=
  if h : m = [] then ([], 0) else if nxE n m = 0 then (nxP m :: (dec (n + 1) (m.drop (nxN m))).1, (dec (n + 1) (m.drop (nxN m))).2) else ([], nxE n m)
termination_by m.length
decreasing_by all_goals (have := nxN_pos m; have : 0 < m.length := List.length_pos_iff.2 h; simp only [List.length_drop]; omega)
theorem dec_nil (n : Nat) : dec n [] = ([], 0) := by rw [dec]; rfl
theorem decO_ok {n : Nat} {m : List Int} (hm : m ≠ []) (h : nxE n m = 0) : dec n m = (nxP m :: (dec (n + 1) (m.drop (nxN m))).1, (dec (n + 1) (m.drop (nxN m))).2) := by
  rw [dec, dif_neg hm, if_pos h]
theorem dec_bad {n : Nat} {m : List Int} (hm : m ≠ []) (h : nxE n m ≠ 0) : dec n m = ([], nxE n m) := by
  rw [dec, dif_neg hm, if_neg h]
/-- Where Decode stands. -/
def DecAt (l : List Int) (at_ : Nat) (er : Int) (L : List Ov) : Prop :=
  (er = 0 → dec 0 l = (pos L ++ (dec L.length (l.drop at_)).1, (dec L.length (l.drop at_)).2)) ∧ (er ≠ 0 → (dec 0 l).2 = er)
theorem DecAt.next {l : List Int} {at_ : Nat} {L L2 : List Ov} {at2 : Nat} {er2 : Int} (h : DecAt l at_ 0 L) (hat : at_ < l.length) (he : er2 = nxE L.length (l.drop at_)) (h2 : er2 = 0 → pos L2 = pos L ++ [nxP (l.drop at_)] ∧ at2 = at_ + nxN (l.drop at_)) : DecAt l at2 er2 L2 := by
  have hm : l.drop at_ ≠ [] := fun e => by have := congrArg List.length e; simp at this; omega
  have h0 := h.1 rfl
  constructor
  · intro e
    obtain ⟨e1, e2⟩ := h2 e
    have hl : L2.length = L.length + 1 := by rw [← pos_len L2, e1, List.length_append, pos_len]; rfl
    rw [h0, decO_ok hm (he.symm.trans e), hl, e1, e2, List.drop_drop]; simp
  · intro e
    rw [h0, dec_bad hm (fun e3 => e (he.trans e3)), he]
def mz (er : Int) (len at_ : Nat) : Nat := if er = 0 then len - at_ + 1 else 0
/-- What Decode answers. -/
def DecOk (w : World) (l : List Int) (e : Ending) (w' : World) : Prop :=
  ∃ v L, e = .returned (.tuple #[v, .int .i64 (dec 0 l).2]) ∧ Below w.heap.size w w' ∧ w'.ownsRow w.heap.size 140 19 v L.length (ocs L) ∧ (∀ o ∈ L, Own2 w.heap.size w' o) ∧ pos L = (if (dec 0 l).2 = 0 then (dec 0 l).1 else []) ∧ L.length ≤ 16
set_option maxRecDepth 100000 in
set_option maxHeartbeats 1600000 in
theorem optDecode_any {B : Nat} (a : Option Addr) (len cap : Nat) (l : List Int) (w : World) (h : Lies .u8 w a len cap l) (ho : Oct l) (hl : len ≤ 100000) (hV : Vars B w) :
    Calls Tryz.prog 158 #[.slice a len cap] w (DecOk w l) := by
  have HL := hid h
  have HO := hid ho
  have HV := hid hV
  have HLl := hid h.1
  have hB : Hid (B ≤ w.heap.size) := hV.le
  clear h ho hV
  go_enter Tryz.func158, Tryz.ntmps158
  go_wp2_with fail
  refine (over_own a len cap l w HL.out HO.out hl).mono ?_
  rintro e w1 ⟨c, a2, cap2, rfl, hc, hb, hc1, hc2, hw⟩
  have N1 : Hid (NxAt w.heap.size w ((w1.alloc (.cells #[.pointer (some ⟨c, 0, none⟩), .slice none 0 0] 243))) w1.heap.size c a2 len cap2 l 0 0 (.slice none 0 0) []) := by
    have ba := balloc (Below.refl w1.heap.size w1) (.cells #[.pointer (some ⟨c, 0, none⟩), .slice none 0 0] 243)
    exact ⟨Row.new _ _ _, hc.below ba, own_below hw ba, World.ownsRow_nil _ _ _ _, fun o ho => (by cases ho), bthen hb ba, hc1, hb.size⟩
  clear hc hb hc1 hc2 hw
  go_wp2_with fail
  generalize w1.alloc (.cells #[.pointer (some ⟨c, 0, none⟩), .slice none 0 0] 243) = ws at *
  generalize w1.heap.size = p at *
  go_loopg [] (mz 0 len 0) (fun g wr => ∃ at2 er2 gv L, g = mz er2 len at2 ∧ L.length ≤ 16 ∧ Hid (NxAt w.heap.size w wr p c a2 len cap2 l at2 er2 gv L) ∧ Hid (DecAt l at2 er2 L))
  case atStart => exact ⟨0, 0, _, [], rfl, by simp, N1.out, fun _ => by simp [pos], fun e => absurd rfl e⟩
  case round =>
    obtain ⟨at2, er2, gv, L, hg, hL16, hN, hD⟩ := hrel
    have HG := hid hg
    have HL16 := hid hL16
    have r0 := hN.out.r.cell 0
    simp only [List.getElem?_toArray, List.getElem?_cons_zero] at r0
    have e0 := hN.out.cur.cell2
    clear hg hL16 N1
    by_cases her : er2 = 0
    · subst her
      by_cases hat : at2 < len
      · have hat1 : decide ((0 : Int) < (len : Int) - at2) = true := decide_eq_true (by omega)
        have HAt := hid hat
        clear hat
        go_wp2_with fail
        refine (err_any _ c 0 e0).mono ?_
        rintro e w2 ⟨rfl, rfl⟩
        go_wp2_with fail
        refine (left_any _ c a2 len cap2 at2 l 0 hN.out.cur).mono ?_
        rintro e w3 ⟨rfl, q, rfl⟩
        have r1 : (w2.drewN q).cell? ⟨p, 0, none⟩ = _ := r0
        have HNq := hid (hN.out.drewN q)
        generalize w2.drewN q = w4 at *
        go_wp2_with fail
        refine (next_any (B := B) w w4 p c a2 len cap2 l at2 gv L HNq.out (HV.out.rd (Below.refl _ _) HNq.out.below hB.out HNq.out.size) hB.out HAt.out HL16.out).mono ?_
        rintro e w5 ⟨rfl, hx⟩
        obtain ⟨at3, er3, gv3, L3, h1, h2, h3, h4⟩ := hx.out
        go_wp2_with fail
        go_roundg (mz er3 len at3)
        case measure =>
          rw [HG.out, mz, mz, if_pos rfl]
          have := h1.cur.le
          have := nxN_pos (l.drop at2)
          split
          · rename_i e; have := (h4 e).2; have := HAt.out; omega
          · omega
        case rel => exact ⟨at3, er3, gv3, L3, rfl, h3, h1, hD.out.next (by rw [HLl.out]; exact HAt.out) h2 h4⟩
      · have hle := hN.out.cur.le
        have hat1 : decide ((0 : Int) < (len : Int) - at2) = false := decide_eq_false (by omega)
        have hat2 : decide (at2 < len) = false := decide_eq_false hat
        have HAt : Hid (at2 = len) := by rw [Hid]; omega
        clear hat hle
        obtain ⟨ga, gc, rfl⟩ := owns_len hN.out.got
        go_wp2_with fail
        refine (err_any _ c 0 e0).mono ?_
        rintro e w2 ⟨rfl, rfl⟩
        go_wp2_with fail
        refine (left_any _ c a2 len cap2 at2 l 0 hN.out.cur).mono ?_
        rintro e w3 ⟨rfl, q, rfl⟩
        have r1 : (w2.drewN q).cell? ⟨p, 0, none⟩ = _ := r0
        have e1 : (w2.drewN q).cell? ⟨c, 2, none⟩ = _ := e0
        have HNq := hid (hN.out.drewN q)
        generalize w2.drewN q = w4 at *
        go_wp2_with fail
        refine (err_any _ c 0 e1).mono ?_
        rintro e w2 ⟨rfl, rfl⟩
        have r2 := HNq.out.r.cell 1
        simp only [List.getElem?_toArray, List.getElem?_cons_zero, List.getElem?_cons_succ] at r2
        go_wp2_with fail
        go_returns
        have hd : dec 0 l = (pos L, 0) := by
          have := hD.out.1 rfl
          rw [HAt.out, List.drop_of_length_le (by rw [HLl.out]; exact Nat.le_refl _), dec_nil] at this
          simpa using this
        refine ⟨.slice ga L.length gc, L, by rw [hd]; rfl, HNq.out.below, HNq.out.got, HNq.out.own, by rw [hd]; simp, HL16.out⟩
    · have he1 : (er2 == 0) = false := by simp [her]
      have he2 : (er2 != 0) = true := by rw [bne_iff_ne]; exact her
      have HER := hid her
      clear her
      go_wp2_with fail
      refine (err_any _ c er2 e0).mono ?_
      rintro e w2 ⟨rfl, rfl⟩
      go_wp2_with fail
      refine (err_any _ c er2 e0).mono ?_
      rintro e w2 ⟨rfl, rfl⟩
      go_wp2_with fail
      go_returns
      have hd := hD.out.2 HER.out
      refine ⟨.slice none 0 0, [], by rw [hd]; rfl, hN.out.below, World.ownsRow_nil _ _ _ _, fun o ho => (by cases ho), by rw [hd, if_neg HER.out]; rfl, by simp⟩
end Go.Proofs.YtbklpelikaapoaaGreatDoor

namespace Go.Proofs.YtbklpelikaapoaaGreatDoor
open Go.ChangeShapes Go.WideShapes Go.ChangeAt Go.RowKit Go.Deep
set_option linter.unusedVariables false
set_option linter.unusedSimpArgs false

/-- copy(a[:], ..) of a whole address, as one step of a region that draws its order. -/
theorem step_copy16 {ops : Array Oper} {op : Oper} {a : Act} {w : World} {K : Act → World → Prop} {Q : Exit → Act → World → Prop} {E : Prop} (hgd : op.guard = none) (d s : Operand)
    (hop : op.op = .call { callee := .builtin .copy, args := #[d, s], argTypes := #[30, 30] }) (g dCap sCap : Nat) (sp : Option Addr) (hd : a.eval d = .slice (some ⟨g, 0, none⟩) 16 dCap) (hs : a.eval s = .slice sp 16 sCap)
    {l0 : List Int} (hr : Row w g 33 (arr l0)) (F : List Int) (hl : Lies .u8 w sp 16 sCap F) (h0 : l0.length = 16)
    (h : K (a.put op.dst (goInt 16)) (w.setRow g (arr F))) :
    if Region.wanted op (yielded ops a.tmps) = true then Oper.wp Tryz.prog op a w K Q else E := by
  have hw : Region.wanted op (yielded ops a.tmps) = true := by simp [Region.wanted, hgd]
  rw [if_pos hw]
  have hF : F.length = 16 := hl.1
  have l2 : (u8s F).length = 16 := by rw [u8s_len, hF]
  obtain ⟨b, off, e, _⟩ := hl.2.2.2.2 0 (by omega)
  subst e
  have hrun := run_copy_row (P := Tryz.prog) w 30 30 op.type 5 g 0 16 dCap ⟨b, off, none⟩ 16 sCap (arr l0) 33 (u8s F) Tryz.underlying30 (by kernel_rfl) hr (by rw [l2]; rfl) (hl.cells _ rfl) (by rw [l2, arr_size, h0]; decide) (ints_oneCell8 F .u8)
  have e2 : ((arr l0).toList.take 0 ++ (u8s F ++ (arr l0).toList.drop (0 + (u8s F).length))).toArray = arr F := by
    rw [l2, List.take_zero, List.nil_append, List.drop_of_length_le (by rw [Array.length_toList, arr_size, h0]; decide), List.append_nil]; rfl
  first
    | rw [e2, l2] at hrun
    | (rw [List.append_assoc, e2, l2] at hrun)
  unfold Oper.wp
  simp [execOp, hop, resolve, invoke, builtin, hd, hs, hrun, Result.andThen]
  exact h
theorem step_copy0 {ops : Array Oper} {op : Oper} {a : Act} {w : World} {K : Act → World → Prop} {Q : Exit → Act → World → Prop} {E : Prop} (hgd : op.guard = none) (d s : Operand)
    (hop : op.op = .call { callee := .builtin .copy, args := #[d, s], argTypes := #[30, 30] }) (dp sp : Option Addr) (dLen dCap sCap : Nat) (hd : a.eval d = .slice dp dLen dCap) (hs : a.eval s = .slice sp 0 sCap)
    (h : K (a.put op.dst (goInt 0)) w) :
    if Region.wanted op (yielded ops a.tmps) = true then Oper.wp Tryz.prog op a w K Q else E := by
  have hw : Region.wanted op (yielded ops a.tmps) = true := by simp [Region.wanted, hgd]
  rw [if_pos hw]
  have hrun := run_copy_none (P := Tryz.prog) w 30 30 op.type 5 dp sp dLen dCap 0 sCap Tryz.underlying30 (by kernel_rfl) (by simp)
  unfold Oper.wp
  simp [execOp, hop, resolve, invoke, builtin, hd, hs, hrun, Result.andThen]
  exact h
theorem st26 {ops : Array Oper} {rest : List Oper} {o : Oper} {a : Act} {w : World} {Q : Exit → Act → World → Prop} (x y : Operand) (ho : o.op = .store 33 x y) (hgd : o.guard = none) (g : Nat) (l : List Int) (hl : l.length = 16) (hx : a.eval x = .pointer (some ⟨g, 0, none⟩)) (hy : a.eval y = .agg (arr l)) (t' : TypeId) (old : List Int) (hlo : old.length = 16) (hg : Row w g t' (arr old))
    (hn : wpList Tryz.prog ops Q rest (a.put o.dst undef) (w.setRow g (arr l))) : wpList Tryz.prog ops Q (o :: rest) a w :=
  wp_st 33 x y ho hgd g (arr l) hx hy (by rw [arr_size, hl]; exact size41) (arr_one _) t' (arr old) (by rw [arr_size, arr_size, hl, hlo]) hg hn
theorem res26 {fn : Func} {p : Tmp} (hf : fn.results = #[.cell p 33]) (tmps : Array Value) (w : World) (g : Nat) (t' : TypeId) (l : List Int) (hl : l.length = 16)
    (hp : tmps.getD p undef = .pointer (some ⟨g, 0, none⟩)) (hg : Row w g t' (arr l)) : (results fn tmps).run Tryz.prog w = .ok (.agg (arr l)) w :=
  results_cell_row hf tmps w g t' (arr l) (0, 0) _ hp hg Tryz.underlying33 rfl (by rw [arr_size, hl]; exact size41)
set_option maxRecDepth 100000 in
set_option maxHeartbeats 1600000 in
theorem address_yes (W w : World) (c : Nat) (a : Option Addr) (len cap : Nat) (l : List Int) (at_ : Nat) (er : Int) (h : DAt W w c a len cap l at_ er) (hE : rdE 1 16 (len - at_) er = 0) (F : List Int) (hF : F = (l.drop at_).take 16) (e2 : Int) (he2 : e2 = if F = zeros then spE 0 1 else 0) :
    Calls Tryz.prog 147 #[.agg #[.pointer (some ⟨c, 0, none⟩)]] w fun x w' => x = .returned (.agg (arr F)) ∧ Hid (DAt W w' c a len cap l (at_ + 16) e2) ∧ Hid (Oth c c w w') := by
  have hz := zarr
  have HE2 := hid he2
  clear he2
  have HF := hid hF
  have HN : Hid (rdN 1 16 (len - at_) er = 16) := by rw [Hid, rdN, if_pos hE]; rfl
  have HE : Hid (rdE 1 16 (len - at_) er = 0) := hE
  have HL16 : Hid (F.length = 16) := by
    rw [Hid, hF]
    have h1 := rdN_le 1 16 (len - at_) er
    have h2 := h.cur.lies.1
    rw [HN.out] at h1
    rw [List.length_take, List.length_drop]; omega
  have HAd : Hid (Adr F) := ⟨HL16.out, by rw [hF]; exact h.cur.oct.cut _ _⟩
  clear hE hF
  have hAd : Adr F := HAd.out
  have hq := eq41 F zeros hAd.1 adr_zeros.1
  have hcl : c < w.heap.size := h.cur.lt
  have hW : W.heap.size ≤ w.heap.size := h.below.size
  have R1 := hid (((Row.new w 213 #[.pointer (some ⟨c, 0, none⟩)]).alloc (.cells (arr zeros) 33)).alloc (.cells (arr zeros) 33))
  have Y1 := hid ((Row.new (w.alloc (.cells #[.pointer (some ⟨c, 0, none⟩)] 213)) 33 (arr zeros)).alloc (.cells (arr zeros) 33))
  have Z1 := hid (Row.new ((w.alloc (.cells #[.pointer (some ⟨c, 0, none⟩)] 213)).alloc (.cells (arr zeros) 33)) 33 (arr zeros))
  have B1 := hid (balloc (balloc (balloc (Below.refl w.heap.size w) (.cells #[.pointer (some ⟨c, 0, none⟩)] 213)) (.cells (arr zeros) 33)) (.cells (arr zeros) 33))
  have hs1 : (w.alloc (.cells #[.pointer (some ⟨c, 0, none⟩)] 213)).heap.size = w.heap.size + 1 := World.size_alloc ..
  have hs2 : ((w.alloc (.cells #[.pointer (some ⟨c, 0, none⟩)] 213)).alloc (.cells (arr zeros) 33)).heap.size = w.heap.size + 2 := by rw [World.size_alloc, hs1]
  rw [hs1] at Y1
  rw [hs2] at Z1
  have H1 := hid (h.on B1.out)
  have T1 : Hid (Oth c c w _) := hid (Oth.below B1.out)
  clear h
  go_enter Tryz.func147, Tryz.ntmps147
  go_upto_region 2 with fail
  generalize ((w.alloc (.cells #[.pointer (some ⟨c, 0, none⟩)] 213)).alloc (.cells (arr zeros) 33)).alloc (.cells (arr zeros) 33) = w1 at *
  have H1 : Hid (DAt W w1.drew c a len cap l at_ er) := hid (H1.out.on (bdrew (Below.refl _ _) 1))
  have T1 : Hid (Oth c c w w1.drew) := hid (T1.out.trans (Oth.below (bdrew (Below.refl _ _) 1)))
  have R1 : Hid (Row w1.drew w.heap.size 213 #[.pointer (some ⟨c, 0, none⟩)]) := R1
  have Y1 : Hid (Row w1.drew (w.heap.size + 1) 33 (arr zeros)) := Y1
  have Z1 : Hid (Row w1.drew (w.heap.size + 2) 33 (arr zeros)) := Z1
  generalize hg1 : w.heap.size = g1 at *
  clear hs1 hs2 hz B1
  refine wp_region_held_drew (S := fun w' => w'.cell? ⟨g1, 0, none⟩ = some (.pointer (some ⟨c, 0, none⟩)) ∧ Hid (Row w' g1 213 #[.pointer (some ⟨c, 0, none⟩)])) (by kernel_rfl) ?_ (fun hHeld => ?_)
  · exact ⟨(R1.out.cell 0).trans rfl, R1.out⟩
  refine wpAnyH_take (i := 0) (oi := _) (v := ?va0) rfl (by kernel_rfl) (by kernel_rfl) (by kernel_rfl) (fun _ _ _ h => h) (Or.inl ⟨by rfl, ?hya0⟩) (by assumption) ?resta0
  case hya0 => (intro w hSw; (try dsimp only at hSw); go_split_ands; go_simp; try (with_reducible rfl))
  try simp only [List.getElem_toArray, List.getElem_cons_zero, List.getElem_cons_succ, Act.put, List.setIfInBounds_toArray, List.set_cons_zero, List.set_cons_succ]
  refine wpAnyH_take (i := 1) (oi := _) (v := ?va1) rfl (by kernel_rfl) (by kernel_rfl) (by kernel_rfl) (fun _ _ _ h => h) (Or.inl ⟨by rfl, ?hya1⟩) (by assumption) ?resta1
  case hya1 => (intro w hSw; (try dsimp only at hSw); go_split_ands; go_simp; try (with_reducible rfl))
  try simp only [List.getElem_toArray, List.getElem_cons_zero, List.getElem_cons_succ, Act.put, List.setIfInBounds_toArray, List.set_cons_zero, List.set_cons_succ]
  refine wpAnyH_take (i := 2) (oi := _) (v := ?va2) rfl (by kernel_rfl) (by kernel_rfl) (by kernel_rfl) (fun _ _ _ h => h) (Or.inl ⟨by rfl, ?hya2⟩) (by assumption) ?resta2
  case hya2 => (intro w hSw; (try dsimp only at hSw); go_split_ands; go_simp; try (with_reducible rfl))
  try simp only [List.getElem_toArray, List.getElem_cons_zero, List.getElem_cons_succ, Act.put, List.setIfInBounds_toArray, List.set_cons_zero, List.set_cons_succ]
  refine wpAnyH_ready (rs := [3]) (by kernel_rfl) (by simp) ?_
  refine AllReadyH.cons (o := _) rfl (fun K hK => ?_) AllReadyH.nil
  go_simp
  refine (bytes_any _ c a len cap at_ l er 16 H1.out.cur).mono ?_
  rintro e w2 ⟨v2, rfl, hown2, hc2, hg2⟩
  have H2 := hid (H1.out.step hc2 hg2)
  have T2 := hid (T1.out.trans (Oth.grown hg2 (.inl rfl)))
  rw [HN.out, HE.out] at H2
  have R2 := hid (R1.out.kept hg2 (fun e => by have := Option.some.inj e; omega))
  have Y2 := hid (Y1.out.kept hg2 (fun e => by have := Option.some.inj e; omega))
  have Z2 := hid (Z1.out.kept hg2 (fun e => by have := Option.some.inj e; omega))
  rw [HN.out] at hown2
  obtain ⟨va, vc, rfl⟩ := owns_len hown2
  have O2 := hid hown2
  clear hc2 hg2 hown2 H1 R1 Y1 Z1
  go_wp2_with fail
  refine hK.out _ _ ⟨(R2.out.cell 0).trans rfl, R2.out⟩ (fun hHeld => ?_)
  clear hK K
  try simp only [List.getElem_toArray, List.getElem_cons_zero, List.getElem_cons_succ, Act.put, List.setIfInBounds_toArray, List.set_cons_zero, List.set_cons_succ]
  refine wpAnyH_ready (rs := [4]) (by kernel_rfl) (by simp) ?_
  refine AllReadyH.cons (o := _) rfl (fun K hK => ?_) AllReadyH.nil
  have T3 := hid (T2.out.new (grownBy_setRow w2 (g1 + 2) (arr F)) (by omega))
  have hL2 : Lies .u8 w2 va 16 vc F := lies_own HL16.out (by rw [HF.out]; exact O2.out)
  refine step_copy16 rfl _ _ rfl (g1 + 2) _ _ va rfl rfl Z2.out F hL2 rfl ?_
  have H3 : Hid (DAt W (w2.setRow (g1 + 2) (arr F)) c a len cap l (at_ + 16) 0) := hid (H2.out.other Z2.out (by decide) (by omega) (by omega) (grownBy_setRow ..))
  have R3 := hid (R2.out.rowOther (g1 + 2) (arr F) (by omega))
  have Y3 := hid (Y2.out.rowOther (g1 + 2) (arr F) (by omega))
  have Z3 := hid (Z2.out.setRow (arr F))
  generalize w2.setRow (g1 + 2) (arr F) = w3 at *
  refine hK.out _ _ ⟨(R3.out.cell 0).trans rfl, R3.out⟩ (fun hHeld => ?_)
  clear hK K
  try simp only [List.getElem_toArray, List.getElem_cons_zero, List.getElem_cons_succ, Act.put, List.setIfInBounds_toArray, List.set_cons_zero, List.set_cons_succ]
  refine wpAnyH_done (by kernel_rfl) ?_ _
  have r0 := (R3.out.cell 0).trans rfl
  have HZ3 := Z3
  by_cases hzz : F = zeros
  · subst hzz
    have e0 : (zeros == zeros) = true := by simp
    rw [e0] at hq
    clear e0
    go_wp2_with (first | (with_reducible refine wpl_id ?_; refine ld41 _ rfl rfl _ _ rfl zeros HAd.out HZ3.out.part ?_) | (with_reducible refine wpl_id ?_; refine bd41 rfl rfl ?_))
    refine (spoil_spE _ c a len cap _ l _ 1 H3.out.cur).mono ?_
    rintro e w4 ⟨rfl, hc4, hg4, _⟩
    have H4 := hid (H3.out.step hc4 hg4)
    have T4 := hid (T3.out.trans (Oth.grown hg4 (.inl rfl)))
    have Y4 := hid (Y3.out.kept hg4 (fun e => by have := Option.some.inj e; omega))
    have Z4 := hid (HZ3.out.kept hg4 (fun e => by have := Option.some.inj e; omega))
    clear hc4 hg4
    have H5 := hid (H4.out.other Y4.out (by decide) (by omega) (by omega) (grownBy_setRow w4 (g1 + 1) (arr zeros)))
    have Y5 := hid (Y4.out.setRow (arr zeros))
    have T5 := hid (T4.out.new (grownBy_setRow w4 (g1 + 1) (arr zeros)) (by omega))
    go_wp2_with (first | (with_reducible refine wpl_id ?_; refine ld41 _ rfl rfl _ _ rfl zeros HAd.out Z4.out.part ?_) | ((with_reducible refine wpl_id ?_); refine st26 _ _ rfl rfl (g1 + 1) zeros HAd.out.1 rfl rfl 33 zeros rfl Y4.out ?_))
    refine bodyPost_ret (res26 rfl _ _ (g1 + 1) 33 zeros HAd.out.1 rfl Y5.out) rfl ⟨rfl, ?_, T5⟩
    rw [HE2.out]; simp only [if_true]; exact H5
  · have HZ := hid hzz
    have e0 : (F == zeros) = false := by simp [hzz]
    rw [e0] at hq
    clear hzz e0
    have H5 := hid (H3.out.other Y3.out (by decide) (by omega) (by omega) (grownBy_setRow w3 (g1 + 1) (arr F)))
    have Y5 := hid (Y3.out.setRow (arr F))
    have T5 := hid (T3.out.new (grownBy_setRow w3 (g1 + 1) (arr F)) (by omega))
    go_wp2_with (first | (with_reducible refine wpl_id ?_; refine ld41 _ rfl rfl _ _ rfl F HAd.out HZ3.out.part ?_) | (with_reducible refine wpl_id ?_; refine bd41 rfl rfl ?_) | ((with_reducible refine wpl_id ?_); refine st26 _ _ rfl rfl (g1 + 1) F HAd.out.1 rfl rfl 33 zeros rfl Y3.out ?_))
    refine bodyPost_ret (res26 rfl _ _ (g1 + 1) 33 F HAd.out.1 rfl Y5.out) rfl ⟨rfl, ?_, T5⟩
    rw [HE2.out, if_neg HZ.out]; exact H5
set_option maxRecDepth 100000 in
set_option maxHeartbeats 1600000 in
theorem address_no (W w : World) (c : Nat) (a : Option Addr) (len cap : Nat) (l : List Int) (at_ : Nat) (er : Int) (h : DAt W w c a len cap l at_ er) (e1 : Int) (hE : rdE 1 16 (len - at_) er = e1) (he : e1 ≠ 0) (e2 : Int) (he2 : e2 = if zeros = zeros then spE e1 1 else e1) :
    Calls Tryz.prog 147 #[.agg #[.pointer (some ⟨c, 0, none⟩)]] w fun x w' => x = .returned (.agg (arr zeros)) ∧ Hid (DAt W w' c a len cap l (at_ + 0) e2) ∧ Hid (Oth c c w w') := by
  have hz := zarr
  have HE2 := hid he2
  clear he2
  have HN : Hid (rdN 1 16 (len - at_) er = 0) := by rw [Hid, rdN, hE, if_neg he]
  have HE : Hid (rdE 1 16 (len - at_) er = e1) := hE
  have HAd : Hid (Adr zeros) := adr_zeros
  clear hE he
  have hAd : Adr zeros := HAd.out
  have hq := eq41 zeros zeros hAd.1 adr_zeros.1
  have hcl : c < w.heap.size := h.cur.lt
  have hW : W.heap.size ≤ w.heap.size := h.below.size
  have R1 := hid (((Row.new w 213 #[.pointer (some ⟨c, 0, none⟩)]).alloc (.cells (arr zeros) 33)).alloc (.cells (arr zeros) 33))
  have Y1 := hid ((Row.new (w.alloc (.cells #[.pointer (some ⟨c, 0, none⟩)] 213)) 33 (arr zeros)).alloc (.cells (arr zeros) 33))
  have Z1 := hid (Row.new ((w.alloc (.cells #[.pointer (some ⟨c, 0, none⟩)] 213)).alloc (.cells (arr zeros) 33)) 33 (arr zeros))
  have B1 := hid (balloc (balloc (balloc (Below.refl w.heap.size w) (.cells #[.pointer (some ⟨c, 0, none⟩)] 213)) (.cells (arr zeros) 33)) (.cells (arr zeros) 33))
  have hs1 : (w.alloc (.cells #[.pointer (some ⟨c, 0, none⟩)] 213)).heap.size = w.heap.size + 1 := World.size_alloc ..
  have hs2 : ((w.alloc (.cells #[.pointer (some ⟨c, 0, none⟩)] 213)).alloc (.cells (arr zeros) 33)).heap.size = w.heap.size + 2 := by rw [World.size_alloc, hs1]
  rw [hs1] at Y1
  rw [hs2] at Z1
  have H1 := hid (h.on B1.out)
  have T1 : Hid (Oth c c w _) := hid (Oth.below B1.out)
  clear h
  go_enter Tryz.func147, Tryz.ntmps147
  go_upto_region 2 with fail
  generalize ((w.alloc (.cells #[.pointer (some ⟨c, 0, none⟩)] 213)).alloc (.cells (arr zeros) 33)).alloc (.cells (arr zeros) 33) = w1 at *
  have H1 : Hid (DAt W w1.drew c a len cap l at_ er) := hid (H1.out.on (bdrew (Below.refl _ _) 1))
  have T1 : Hid (Oth c c w w1.drew) := hid (T1.out.trans (Oth.below (bdrew (Below.refl _ _) 1)))
  have R1 : Hid (Row w1.drew w.heap.size 213 #[.pointer (some ⟨c, 0, none⟩)]) := R1
  have Y1 : Hid (Row w1.drew (w.heap.size + 1) 33 (arr zeros)) := Y1
  have Z1 : Hid (Row w1.drew (w.heap.size + 2) 33 (arr zeros)) := Z1
  generalize hg1 : w.heap.size = g1 at *
  clear hs1 hs2 hz B1
  refine wp_region_held_drew (S := fun w' => w'.cell? ⟨g1, 0, none⟩ = some (.pointer (some ⟨c, 0, none⟩)) ∧ Hid (Row w' g1 213 #[.pointer (some ⟨c, 0, none⟩)])) (by kernel_rfl) ?_ (fun hHeld => ?_)
  · exact ⟨(R1.out.cell 0).trans rfl, R1.out⟩
  refine wpAnyH_take (i := 0) (oi := _) (v := ?va0) rfl (by kernel_rfl) (by kernel_rfl) (by kernel_rfl) (fun _ _ _ h => h) (Or.inl ⟨by rfl, ?hya0⟩) (by assumption) ?resta0
  case hya0 => (intro w hSw; (try dsimp only at hSw); go_split_ands; go_simp; try (with_reducible rfl))
  try simp only [List.getElem_toArray, List.getElem_cons_zero, List.getElem_cons_succ, Act.put, List.setIfInBounds_toArray, List.set_cons_zero, List.set_cons_succ]
  refine wpAnyH_take (i := 1) (oi := _) (v := ?va1) rfl (by kernel_rfl) (by kernel_rfl) (by kernel_rfl) (fun _ _ _ h => h) (Or.inl ⟨by rfl, ?hya1⟩) (by assumption) ?resta1
  case hya1 => (intro w hSw; (try dsimp only at hSw); go_split_ands; go_simp; try (with_reducible rfl))
  try simp only [List.getElem_toArray, List.getElem_cons_zero, List.getElem_cons_succ, Act.put, List.setIfInBounds_toArray, List.set_cons_zero, List.set_cons_succ]
  refine wpAnyH_take (i := 2) (oi := _) (v := ?va2) rfl (by kernel_rfl) (by kernel_rfl) (by kernel_rfl) (fun _ _ _ h => h) (Or.inl ⟨by rfl, ?hya2⟩) (by assumption) ?resta2
  case hya2 => (intro w hSw; (try dsimp only at hSw); go_split_ands; go_simp; try (with_reducible rfl))
  try simp only [List.getElem_toArray, List.getElem_cons_zero, List.getElem_cons_succ, Act.put, List.setIfInBounds_toArray, List.set_cons_zero, List.set_cons_succ]
  refine wpAnyH_ready (rs := [3]) (by kernel_rfl) (by simp) ?_
  refine AllReadyH.cons (o := _) rfl (fun K hK => ?_) AllReadyH.nil
  go_simp
  refine (bytes_any _ c a len cap at_ l er 16 H1.out.cur).mono ?_
  rintro e w2 ⟨v2, rfl, hown2, hc2, hg2⟩
  have H2 := hid (H1.out.step hc2 hg2)
  have T2 := hid (T1.out.trans (Oth.grown hg2 (.inl rfl)))
  rw [HN.out, HE.out] at H2
  have R2 := hid (R1.out.kept hg2 (fun e => by have := Option.some.inj e; omega))
  have Y2 := hid (Y1.out.kept hg2 (fun e => by have := Option.some.inj e; omega))
  have Z2 := hid (Z1.out.kept hg2 (fun e => by have := Option.some.inj e; omega))
  rw [HN.out] at hown2
  obtain ⟨va, vc, rfl⟩ := owns_len hown2
  have O2 := hid hown2
  clear hc2 hg2 hown2 H1 R1 Y1 Z1
  go_wp2_with fail
  refine hK.out _ _ ⟨(R2.out.cell 0).trans rfl, R2.out⟩ (fun hHeld => ?_)
  clear hK K
  try simp only [List.getElem_toArray, List.getElem_cons_zero, List.getElem_cons_succ, Act.put, List.setIfInBounds_toArray, List.set_cons_zero, List.set_cons_succ]
  refine wpAnyH_ready (rs := [4]) (by kernel_rfl) (by simp) ?_
  refine AllReadyH.cons (o := _) rfl (fun K hK => ?_) AllReadyH.nil
  have T3 := T2
  refine step_copy0 rfl _ _ rfl _ _ _ _ _ rfl rfl ?_
  have H3 := H2
  have R3 := R2
  have Y3 := Y2
  have Z3 := Z2
  generalize w2 = w3 at *
  refine hK.out _ _ ⟨(R3.out.cell 0).trans rfl, R3.out⟩ (fun hHeld => ?_)
  clear hK K
  try simp only [List.getElem_toArray, List.getElem_cons_zero, List.getElem_cons_succ, Act.put, List.setIfInBounds_toArray, List.set_cons_zero, List.set_cons_succ]
  refine wpAnyH_done (by kernel_rfl) ?_ _
  have r0 := (R3.out.cell 0).trans rfl
  have HZ3 := Z3
  · have e0 : (zeros == zeros) = true := by simp
    rw [e0] at hq
    clear e0
    go_wp2_with (first | (with_reducible refine wpl_id ?_; refine ld41 _ rfl rfl _ _ rfl zeros HAd.out HZ3.out.part ?_) | (with_reducible refine wpl_id ?_; refine bd41 rfl rfl ?_))
    refine (spoil_spE _ c a len cap _ l _ 1 H3.out.cur).mono ?_
    rintro e w4 ⟨rfl, hc4, hg4, _⟩
    have H4 := hid (H3.out.step hc4 hg4)
    have T4 := hid (T3.out.trans (Oth.grown hg4 (.inl rfl)))
    have Y4 := hid (Y3.out.kept hg4 (fun e => by have := Option.some.inj e; omega))
    have Z4 := hid (HZ3.out.kept hg4 (fun e => by have := Option.some.inj e; omega))
    clear hc4 hg4
    have H5 := hid (H4.out.other Y4.out (by decide) (by omega) (by omega) (grownBy_setRow w4 (g1 + 1) (arr zeros)))
    have Y5 := hid (Y4.out.setRow (arr zeros))
    have T5 := hid (T4.out.new (grownBy_setRow w4 (g1 + 1) (arr zeros)) (by omega))
    go_wp2_with (first | (with_reducible refine wpl_id ?_; refine ld41 _ rfl rfl _ _ rfl zeros HAd.out Z4.out.part ?_) | ((with_reducible refine wpl_id ?_); refine st26 _ _ rfl rfl (g1 + 1) zeros HAd.out.1 rfl rfl 33 zeros rfl Y4.out ?_))
    refine bodyPost_ret (res26 rfl _ _ (g1 + 1) 33 zeros HAd.out.1 rfl Y5.out) rfl ⟨rfl, ?_, T5⟩
    rw [HE2.out]; simp only [if_true]; exact H5
end Go.Proofs.YtbklpelikaapoaaGreatDoor

namespace Go.Proofs.YtbklpelikaapoaaGreatDoor
open Go.ChangeShapes Go.WideShapes Go.ChangeAt Go.RowKit Go.Deep
set_option linter.unusedVariables false
set_option linter.unusedSimpArgs false

/-- The bytes that are left to the options. -/
def rst (l : List Int) (at_ : Nat) (er : Int) : List Int := if er = 0 then l.drop at_ else []
theorem rst_read (l : List Int) (len at_ : Nat) (er : Int) (hl : l.length = len) (hat : at_ ≤ len) : (l.drop at_).take (rdN 1 ((len : Int) - at_) (len - at_) er) = rst l at_ er ∧ rdN 1 ((len : Int) - at_) (len - at_) er = (rst l at_ er).length ∧ rdE 1 ((len : Int) - at_) (len - at_) er = er := by
  have hE : rdE 1 ((len : Int) - at_) (len - at_) er = er := by
    unfold rdE
    by_cases h : er = 0
    · rw [if_pos h, if_neg (by simp [sizeB]; omega), if_neg (by omega), h]
    · rw [if_neg h]
  refine ⟨?_, ?_, hE⟩
  all_goals
    unfold rdN rst
    rw [hE]
    by_cases h : er = 0
    · simp only [h, if_true]
      first
        | (apply List.take_of_length_le; rw [List.length_drop]; omega)
        | (rw [List.length_drop]; omega)
    · simp only [h, if_false]; first | rfl | simp
/-- The options that are read, and what is wrong behind them. -/
def opP (l : List Int) (at_ : Nat) (er : Int) : List Po := if (dec 0 (rst l at_ er)).2 = 0 then (dec 0 (rst l at_ er)).1 else []
def opE (code : Int) (l : List Int) (at_ : Nat) (er : Int) : Int := if allM code (opP l at_ er) = true then spE er (dec 0 (rst l at_ er)).2 else spE (spE er (dec 0 (rst l at_ er)).2) 6
/-- Options of the call's own. -/
def OwnsO (base : Nat) (w : World) (v : Value) (P : List Po) : Prop := ∃ L, w.ownsRow base 140 19 v L.length (ocs L) ∧ (∀ o ∈ L, Own2 base w o) ∧ pos L = P ∧ L.length ≤ 16
set_option maxRecDepth 100000 in
set_option maxHeartbeats 3200000 in
theorem options_any {B : Nat} (W w : World) (c : Nat) (a : Option Addr) (len cap : Nat) (l : List Int) (at_ : Nat) (er code : Int) (h : DAt W w c a len cap l at_ er) (hV : CV B W) :
    Calls Tryz.prog 148 #[.agg #[.pointer (some ⟨c, 0, none⟩)], .int .i64 code] w fun x w' => ∃ v, x = .returned v ∧ Hid (OwnsO w.heap.size w' v (opP l at_ er)) ∧ Hid (DAt W w' c a len cap l (at_ + (rst l at_ er).length) (opE code l at_ er)) ∧ Hid (Oth c c w w') := by
  have HV := hid hV
  have HR := hid (rst_read l len at_ er h.cur.lies.1 h.cur.le)
  have HO : Hid (Oct (rst l at_ er)) := by rw [Hid, ← HR.out.1]; exact h.cur.oct.cut _ _
  have HS : Hid ((rst l at_ er).length ≤ 100000) := by
    have h1 := rdN_le 1 ((len : Int) - at_) (len - at_) er
    have h2 := h.cur.small
    rw [Hid, ← HR.out.2.1]; omega
  have HPE : Hid (opP l at_ er = if (dec 0 (rst l at_ er)).2 = 0 then (dec 0 (rst l at_ er)).1 else []) := rfl
  have HEE : Hid (opE code l at_ er = if allM code (opP l at_ er) = true then spE er (dec 0 (rst l at_ er)).2 else spE (spE er (dec 0 (rst l at_ er)).2) 6) := rfl
  have hcl : c < w.heap.size := h.cur.lt
  have hW : W.heap.size ≤ w.heap.size := h.below.size
  have R1 := hid (Row.new w 213 #[.pointer (some ⟨c, 0, none⟩)])
  have B1 := hid (balloc (Below.refl w.heap.size w) (.cells #[.pointer (some ⟨c, 0, none⟩)] 213))
  have H1 := hid (h.on B1.out)
  have T1 : Hid (Oth c c w _) := hid (Oth.below B1.out)
  have hs1 : (w.alloc (.cells #[.pointer (some ⟨c, 0, none⟩)] 213)).heap.size = w.heap.size + 1 := World.size_alloc ..
  clear h hV
  go_enter Tryz.func148, Tryz.ntmps148
  go_upto_region 1 with fail
  generalize w.alloc (.cells #[.pointer (some ⟨c, 0, none⟩)] 213) = w1 at *
  have H1 : Hid (DAt W w1.drew c a len cap l at_ er) := hid (H1.out.on (bdrew (Below.refl _ _) 1))
  have T1 : Hid (Oth c c w w1.drew) := hid (T1.out.trans (Oth.below (bdrew (Below.refl _ _) 1)))
  have R1 : Hid (Row w1.drew w.heap.size 213 #[.pointer (some ⟨c, 0, none⟩)]) := R1
  generalize hg1 : w.heap.size = g1 at *
  clear B1
  refine wp_region_held_drew (S := fun w' => w'.cell? ⟨g1, 0, none⟩ = some (.pointer (some ⟨c, 0, none⟩)) ∧ Hid (Row w' g1 213 #[.pointer (some ⟨c, 0, none⟩)])) (by kernel_rfl) ?_ (fun hHeld => ?_)
  · exact ⟨(R1.out.cell 0).trans rfl, R1.out⟩
  refine wpAnyH_take (i := 0) (oi := _) (v := ?va0) rfl (by kernel_rfl) (by kernel_rfl) (by kernel_rfl) (fun _ _ _ h => h) (Or.inl ⟨by rfl, ?hya0⟩) (by assumption) ?resta0
  case hya0 => (intro w hSw; (try dsimp only at hSw); go_split_ands; go_simp; try (with_reducible rfl))
  try simp only [List.getElem_toArray, List.getElem_cons_zero, List.getElem_cons_succ, Act.put, List.setIfInBounds_toArray, List.set_cons_zero, List.set_cons_succ]
  refine wpAnyH_take (i := 1) (oi := _) (v := ?va1) rfl (by kernel_rfl) (by kernel_rfl) (by kernel_rfl) (fun _ _ _ h => h) (Or.inl ⟨by rfl, ?hya1⟩) (by assumption) ?resta1
  case hya1 => (intro w hSw; (try dsimp only at hSw); go_split_ands; go_simp; try (with_reducible rfl))
  try simp only [List.getElem_toArray, List.getElem_cons_zero, List.getElem_cons_succ, Act.put, List.setIfInBounds_toArray, List.set_cons_zero, List.set_cons_succ]
  refine wpAnyH_take (i := 2) (oi := _) (v := ?va2) rfl (by kernel_rfl) (by kernel_rfl) (by kernel_rfl) (fun _ _ _ h => h) (Or.inl ⟨by rfl, ?hya2⟩) (by assumption) ?resta2
  case hya2 => (intro w hSw; (try dsimp only at hSw); go_split_ands; go_simp; try (with_reducible rfl))
  try simp only [List.getElem_toArray, List.getElem_cons_zero, List.getElem_cons_succ, Act.put, List.setIfInBounds_toArray, List.set_cons_zero, List.set_cons_succ]
  refine wpAnyH_take (i := 3) (oi := _) (v := ?va3) rfl (by kernel_rfl) (by kernel_rfl) (by kernel_rfl) (fun _ _ _ h => h) (Or.inl ⟨by rfl, ?hya3⟩) (by assumption) ?resta3
  case hya3 => (intro w hSw; (try dsimp only at hSw); go_split_ands; go_simp; try (with_reducible rfl))
  try simp only [List.getElem_toArray, List.getElem_cons_zero, List.getElem_cons_succ, Act.put, List.setIfInBounds_toArray, List.set_cons_zero, List.set_cons_succ]
  refine wpAnyH_ready (rs := [4]) (by kernel_rfl) (by simp) ?_
  refine AllReadyH.cons (o := _) rfl (fun K hK => ?_) AllReadyH.nil
  go_simp
  refine (left_any _ c a len cap at_ l er H1.out.cur).mono ?_
  rintro e w2 ⟨rfl, q, rfl⟩
  have H2 := hid (H1.out.on (bdrew (Below.refl _ _) q))
  have T2 := hid (T1.out.trans (Oth.below (bdrew (Below.refl _ _) q)))
  have R2 := hid (R1.out.below (bdrew (Below.refl _ _) q))
  have hs2 : (w1.drew.drewN q).heap.size = w1.heap.size := rfl
  generalize w1.drew.drewN q = w2 at *
  clear H1 T1 R1
  go_wp2_with fail
  refine hK.out _ _ ⟨(R2.out.cell 0).trans rfl, R2.out⟩ (fun hHeld => ?_)
  clear hK K
  try simp only [List.getElem_toArray, List.getElem_cons_zero, List.getElem_cons_succ, Act.put, List.setIfInBounds_toArray, List.set_cons_zero, List.set_cons_succ]
  refine wpAnyH_ready (rs := [5]) (by kernel_rfl) (by simp) ?_
  refine AllReadyH.cons (o := _) rfl (fun K hK => ?_) AllReadyH.nil
  go_simp
  refine (bytes_any _ c a len cap at_ l er ((len : Int) - at_) H2.out.cur).mono ?_
  rintro e w3 ⟨v3, rfl, hown3, hc3, hg3⟩
  have HRE := HR.out
  rw [HRE.1, HRE.2.1] at hown3
  rw [HRE.2.1, HRE.2.2] at hc3
  have H3 := hid (H2.out.step hc3 hg3)
  have T3 := hid (T2.out.trans (Oth.grown hg3 (.inl rfl)))
  have R3 := hid (R2.out.kept hg3 (fun e => by have := Option.some.inj e; omega))
  obtain ⟨va, vc, rfl⟩ := owns_len hown3
  have L3 := hid (lies_own rfl hown3)
  have hs3 : w1.heap.size ≤ w3.heap.size := by have := hg3.size; omega
  clear hc3 hg3 hown3 HRE H2 T2 R2
  go_wp2_with fail
  refine hK.out _ _ ⟨(R3.out.cell 0).trans rfl, R3.out⟩ (fun hHeld => ?_)
  clear hK K
  try simp only [List.getElem_toArray, List.getElem_cons_zero, List.getElem_cons_succ, Act.put, List.setIfInBounds_toArray, List.set_cons_zero, List.set_cons_succ]
  refine wpAnyH_ready (rs := [6]) (by kernel_rfl) (by simp) ?_
  refine AllReadyH.cons (o := _) rfl (fun K hK => ?_) AllReadyH.nil
  go_simp
  refine (optDecode_any va (rst l at_ er).length vc (rst l at_ er) _ L3.out HO.out HS.out (HV.out.below H3.out.below).o).mono ?_
  rintro e w4 ⟨v4, L, rfl, hb4, hown4, hL4, hp4, h16⟩
  have H4 := hid (H3.out.on hb4)
  have T4 := hid (T3.out.trans (Oth.below hb4))
  have R4 := hid (R3.out.below hb4)
  have O4 := hid (own_mono hown4 hs3)
  have X4 := hid (fun o ho => (hL4 o ho).mono hs3)
  have HP := hid hp4
  have hs4 : w3.heap.size ≤ w4.heap.size := hb4.size
  obtain ⟨oa, oc, rfl⟩ := owns_len hown4
  clear hb4 hown4 hL4 hp4 H3 T3 R3 L3
  go_wp2_with fail
  refine hK.out _ _ ⟨(R4.out.cell 0).trans rfl, R4.out⟩ (fun hHeld => ?_)
  clear hK K
  try simp only [List.getElem_toArray, List.getElem_cons_zero, List.getElem_cons_succ, Act.put, List.setIfInBounds_toArray, List.set_cons_zero, List.set_cons_succ]
  refine wpAnyH_take (i := 7) (oi := _) (v := ?vd7) rfl (by kernel_rfl) (by kernel_rfl) (by kernel_rfl) (fun _ _ _ h => h) (Or.inl ⟨by rfl, ?hyd7⟩) (by assumption) ?restd7
  case hyd7 => (intro w hSw; (try dsimp only at hSw); go_split_ands; go_simp; try (with_reducible rfl))
  try simp only [List.getElem_toArray, List.getElem_cons_zero, List.getElem_cons_succ, Act.put, List.setIfInBounds_toArray, List.set_cons_zero, List.set_cons_succ]
  refine wpAnyH_take (i := 8) (oi := _) (v := ?vd8) rfl (by kernel_rfl) (by kernel_rfl) (by kernel_rfl) (fun _ _ _ h => h) (Or.inl ⟨by rfl, ?hyd8⟩) (by assumption) ?restd8
  case hyd8 => (intro w hSw; (try dsimp only at hSw); go_split_ands; go_simp; try (with_reducible rfl))
  try simp only [List.getElem_toArray, List.getElem_cons_zero, List.getElem_cons_succ, Act.put, List.setIfInBounds_toArray, List.set_cons_zero, List.set_cons_succ]
  refine wpAnyH_take (i := 9) (oi := _) (v := ?vd9) rfl (by kernel_rfl) (by kernel_rfl) (by kernel_rfl) (fun _ _ _ h => h) (Or.inl ⟨by rfl, ?hyd9⟩) (by assumption) ?restd9
  case hyd9 => (intro w hSw; (try dsimp only at hSw); go_split_ands; go_simp; try (with_reducible rfl))
  try simp only [List.getElem_toArray, List.getElem_cons_zero, List.getElem_cons_succ, Act.put, List.setIfInBounds_toArray, List.set_cons_zero, List.set_cons_succ]
  refine wpAnyH_take (i := 10) (oi := _) (v := ?vd10) rfl (by kernel_rfl) (by kernel_rfl) (by kernel_rfl) (fun _ _ _ h => h) (Or.inl ⟨by rfl, ?hyd10⟩) (by assumption) ?restd10
  case hyd10 => (intro w hSw; (try dsimp only at hSw); go_split_ands; go_simp; try (with_reducible rfl))
  try simp only [List.getElem_toArray, List.getElem_cons_zero, List.getElem_cons_succ, Act.put, List.setIfInBounds_toArray, List.set_cons_zero, List.set_cons_succ]
  refine wpAnyH_take (i := 11) (oi := _) (v := ?vd11) rfl (by kernel_rfl) (by kernel_rfl) (by kernel_rfl) (fun _ _ _ h => h) (Or.inl ⟨by rfl, ?hyd11⟩) (by assumption) ?restd11
  case hyd11 => (intro w hSw; (try dsimp only at hSw); go_split_ands; go_simp; try (with_reducible rfl))
  try simp only [List.getElem_toArray, List.getElem_cons_zero, List.getElem_cons_succ, Act.put, List.setIfInBounds_toArray, List.set_cons_zero, List.set_cons_succ]
  refine wpAnyH_done (by kernel_rfl) ?_ _
  have r0 := (R4.out.cell 0).trans rfl
  have O4 := hid (own_mono O4.out (show g1 ≤ w1.heap.size by omega))
  have X4 := hid (fun o ho => (X4.out o ho).mono (show g1 ≤ w1.heap.size by omega))
  clear hHeld HR HO HS
  rw [← HPE.out] at HP
  generalize hP0 : opP l at_ er = P at *
  have HP0 := hid hP0
  clear hP0
  generalize (dec 0 (rst l at_ er)).2 = e1 at *
  clear HPE
  go_wp2_with fail
  refine (spoil_spE _ c a len cap _ l _ e1 H4.out.cur).mono ?_
  rintro e w5 ⟨rfl, hc5, hg5, hz5⟩
  have H5 := hid (H4.out.step hc5 hg5)
  have T5 := hid (T4.out.trans (Oth.grown hg5 (.inl rfl)))
  have R5 := hid (R4.out.kept hg5 (fun e => by have := Option.some.inj e; omega))
  have O5 := hid (O4.out.kept hg5 (.inr (own_row O4.out H4.out.crow (by decide))))
  have X5 := hid (fun o ho => (X4.out o ho).row H4.out.crow (by decide) (by decide) hg5)
  clear hc5 hg5 hz5 r0 H4 T4 R4 O4 X4
  have r0 := (R5.out.cell 0).trans rfl
  go_wp2_with fail
  refine (allMay_any code oa L.length oc L _ (opts_own rfl O5.out (fun o ho => (X5.out o ho).ok)) (HV.out.below H5.out.below)).mono ?_
  rintro e w6 ⟨rfl, hb6⟩
  have H6 := hid (H5.out.on hb6)
  have T6 := hid (T5.out.trans (Oth.below hb6))
  have R6 := hid (R5.out.below hb6)
  have O6 := hid (own_below O5.out hb6)
  have X6 := hid (fun o ho => (X5.out o ho).below hb6)
  clear hb6 r0 H5 T5 R5 O5 X5
  have r0 := (R6.out.cell 0).trans rfl
  rw [HP.out]
  cases hall : allM code P
  · have HEF : Hid (opE code l at_ er = spE (spE er e1) 6) := by rw [Hid, HEE.out, hall]; rfl
    clear HEE
    go_wp2_with fail
    refine (spoil_spE _ c a len cap _ l _ 6 H6.out.cur).mono ?_
    rintro e w7 ⟨rfl, hc7, hg7, hz7⟩
    have H7 := hid (H6.out.step hc7 hg7)
    have T7 := hid (T6.out.trans (Oth.grown hg7 (.inl rfl)))
    have O7 := hid (O6.out.kept hg7 (.inr (own_row O6.out H6.out.crow (by decide))))
    have X7 := hid (fun o ho => (X6.out o ho).row H6.out.crow (by decide) (by decide) hg7)
    clear hc7 hg7 hz7 r0 H6 T6 R6 O6 X6
    go_wp2_with fail
    go_returns
    exact ⟨_, rfl, by rw [hg1, HP0.out]; exact hid ⟨L, O7.out, X7.out, HP.out, h16⟩, by rw [HEF.out]; exact H7, T7⟩
  · have HEF : Hid (opE code l at_ er = spE er e1) := by rw [Hid, HEE.out, hall]; rfl
    clear HEE
    go_wp2_with fail
    go_returns
    exact ⟨_, rfl, by rw [hg1, HP0.out]; exact hid ⟨L, O6.out, X6.out, HP.out, h16⟩, by rw [HEF.out]; exact H6, T6⟩
end Go.Proofs.YtbklpelikaapoaaGreatDoor

namespace Go.Proofs.YtbklpelikaapoaaGreatDoor
open Go.ChangeShapes Go.WideShapes Go.ChangeAt Go.RowKit Go.Deep
set_option linter.unusedVariables false
set_option linter.unusedSimpArgs false

/-- The message of values. -/
def vm (v : List Int) (code : Int) : Mv := ⟨code, v.getD 0 0, v.getD 1 0, v.getD 2 0, v.getD 4 0, v.getD 5 0, v.getD 6 0, v.getD 8 0, v.getD 9 0, v.getD 3 0 == 1, v.getD 7 0 == 1, zeros, none, 0, 0, []⟩
set_option maxRecDepth 100000 in
set_option maxHeartbeats 1600000 in
theorem vmsg_any (v : List Int) (hv : v.length = 11) (code : Int) (w : World) : Calls Tryz.prog 146 #[.agg (nArr v), .int .i64 code] w fun x w' => x = .returned (.agg (vm v code).cs) ∧ Below w.heap.size w w' := by
  have hz := zmv
  have HV := hid hv
  have hs1 : (w.alloc (.cells (nArr v) 103)).heap.size = w.heap.size + 1 := World.size_alloc ..
  have R1 := hid ((Row.new w 103 (nArr v)).alloc (.cells Mv.zero.cs 38))
  have Z1 := hid (Row.new (w.alloc (.cells (nArr v) 103)) 38 Mv.zero.cs)
  have B1 := hid (balloc (balloc (Below.refl w.heap.size w) (.cells (nArr v) 103)) (.cells Mv.zero.cs 38))
  rw [hs1] at Z1
  clear hv
  go_enter Tryz.func146, Tryz.ntmps146
  go_upto_region 1 with fail
  generalize (w.alloc (.cells (nArr v) 103)).alloc (.cells Mv.zero.cs 38) = w1 at *
  generalize hg0 : w.heap.size = g0 at *
  clear hs1 hz
  have e0 := (R1.out.cell 0).trans (nArr_at v 0 (by rw [HV.out]; decide))
  have e1 := (R1.out.cell 1).trans (nArr_at v 1 (by rw [HV.out]; decide))
  have e2 := (R1.out.cell 2).trans (nArr_at v 2 (by rw [HV.out]; decide))
  have e3 := (R1.out.cell 3).trans (nArr_at v 3 (by rw [HV.out]; decide))
  have e4 := (R1.out.cell 4).trans (nArr_at v 4 (by rw [HV.out]; decide))
  have e5 := (R1.out.cell 5).trans (nArr_at v 5 (by rw [HV.out]; decide))
  have e6 := (R1.out.cell 6).trans (nArr_at v 6 (by rw [HV.out]; decide))
  have e7 := (R1.out.cell 7).trans (nArr_at v 7 (by rw [HV.out]; decide))
  have e8 := (R1.out.cell 8).trans (nArr_at v 8 (by rw [HV.out]; decide))
  have e9 := (R1.out.cell 9).trans (nArr_at v 9 (by rw [HV.out]; decide))
  go_wp2_with (first | ((with_reducible refine wpl_id ?_); refine bdMp m29 _ _ _ _ _ _ _ _ _ _ _ rfl rfl (vm v code) rfl rfl rfl rfl rfl rfl rfl rfl rfl rfl rfl rfl rfl rfl rfl ?_) | ((with_reducible refine wpl_id ?_); refine stM m29 _ _ rfl rfl (g0 + 1) (vm v code) adr_zeros rfl rfl 38 Mv.zero adr_zeros Z1.out ?_))
  exact bodyPost_ret (resM m29 rfl _ _ (g0 + 1) 38 (vm v code) adr_zeros rfl (Z1.out.setRow _)) rfl ⟨rfl, by rw [hg0]; exact below_setRow' B1.out (by omega) _⟩
end Go.Proofs.YtbklpelikaapoaaGreatDoor

namespace Go.Proofs.YtbklpelikaapoaaGreatDoor
open Go.ChangeShapes Go.WideShapes Go.ChangeAt Go.RowKit Go.Deep
set_option linter.unusedVariables false
set_option linter.unusedSimpArgs false

def ptStep (l : List Int) (s : Nat × Int × List Int) (p : Pa) : Nat × Int × List Int := (ptA p s.1 l.length s.2.1, ptE p l s.1 l.length s.2.1 s.2.2, (ptS p l s.1 l.length s.2.1 s.2.2).2)
/-- The reader behind parts. -/
def rdP (l : List Int) (ps : List Pa) : Nat × Int × List Int := ps.foldl (ptStep l) (0, 0, zer11)
theorem rdP_succ (l : List Int) (ps : List Pa) (j : Nat) (h : j < ps.length) : rdP l (ps.take (j + 1)) = ptStep l (rdP l (ps.take j)) (ps.getD j Pa.none) := by
  rw [List.take_succ_eq_append_getElem h, rdP, List.foldl_append]
  simp [rdP, h]
/-- What an address reads: its place behind, what is wrong, the address. -/
def adR (l : List Int) (at_ : Nat) (er : Int) : List Int := if rdE 1 16 (l.length - at_) er = 0 then (l.drop at_).take 16 else zeros
def adE (l : List Int) (at_ : Nat) (er : Int) : Int := if adR l at_ er = zeros then spE (rdE 1 16 (l.length - at_) er) 1 else rdE 1 16 (l.length - at_) er
def adA (l : List Int) (at_ : Nat) (er : Int) : Nat := at_ + rdN 1 16 (l.length - at_) er
/-- Is an address there? -/
def rdB (k : Nat) (s : Nat × Int × List Int) : Bool := crt k || s.2.2.getD 10 0 == 1
/-- The reader behind an address that may be there. -/
def rdT (k : Nat) (l : List Int) : Nat × Int × List Int := if rdB k (rdP l (cpa k)) = true then (adA l (rdP l (cpa k)).1 (rdP l (cpa k)).2.1, adE l (rdP l (cpa k)).1 (rdP l (cpa k)).2.1, adR l (rdP l (cpa k)).1 (rdP l (cpa k)).2.1) else ((rdP l (cpa k)).1, (rdP l (cpa k)).2.1, zeros)
/-- What is wrong with bytes, and their message. -/
def ctE (k : Nat) (l : List Int) : Int := opE k l (rdT k l).1 (rdT k l).2.1
def dcP (k : Nat) (l : List Int) : List Po := opP l (rdT k l).1 (rdT k l).2.1
def dcM (k : Nat) (l : List Int) : Pm := { (vm (rdP l (cpa k)).2.2 k).p with ro := (rdT k l).2.2, o := dcP k l }
/-- A message whose options are the call's own. -/
structure MOwn (base : Nat) (w : World) (m : Mv) : Prop where
  ro : Adr m.ro
  own : w.ownsRow base 140 19 (.slice m.oa m.on m.oc) m.on (ocs m.L)
  own2 : ∀ o ∈ m.L, Own2 base w o
  len : m.L.length = m.on
  le : m.on ≤ 16
theorem MOwn.ok {base : Nat} {w : World} {m : Mv} (h : MOwn base w m) : m.ok w := ⟨h.ro, opts_own h.len h.own (fun o ho => (h.own2 o ho).ok)⟩
theorem address_any (W w : World) (c : Nat) (a : Option Addr) (cap : Nat) (l : List Int) (at_ : Nat) (er : Int) (h : DAt W w c a l.length cap l at_ er) :
    Calls Tryz.prog 147 #[.agg #[.pointer (some ⟨c, 0, none⟩)]] w fun x w' => x = .returned (.agg (arr (adR l at_ er))) ∧ Hid (Adr (adR l at_ er)) ∧ Hid (DAt W w' c a l.length cap l (adA l at_ er) (adE l at_ er)) ∧ Hid (Oth c c w w') := by
  by_cases hE : rdE 1 16 (l.length - at_) er = 0
  · have hN : rdN 1 16 (l.length - at_) er = 16 := by rw [rdN, if_pos hE]; rfl
    have hR : adR l at_ er = (l.drop at_).take 16 := by rw [adR, if_pos hE]
    have hl : Adr (adR l at_ er) := by
      rw [hR]
      refine ⟨?_, h.cur.oct.cut _ _⟩
      have h1 := rdN_le 1 16 (l.length - at_) er
      rw [hN] at h1
      rw [List.length_take, List.length_drop]; omega
    refine (address_yes W w c a l.length cap l at_ er h hE (adR l at_ er) hR (adE l at_ er) (by rw [adE, hE])).mono ?_
    rintro x w' ⟨rfl, h1, h2⟩
    exact ⟨rfl, hl, by rw [adA, hN]; exact h1, h2⟩
  · have hN : rdN 1 16 (l.length - at_) er = 0 := by rw [rdN, if_neg hE]
    have hR : adR l at_ er = zeros := by rw [adR, if_neg hE]
    refine (address_no W w c a l.length cap l at_ er h _ rfl hE (adE l at_ er) (by rw [adE, hR])).mono ?_
    rintro x w' ⟨rfl, h1, h2⟩
    exact ⟨by rw [hR], by rw [hR]; exact adr_zeros, by rw [adA, hN]; exact h1, h2⟩
/-! A store of an address into a message. -/
def putA : Array Value → Nat → List Value → Array Value
  | cs, _, [] => cs
  | cs, o, v :: r => putA (cs.setIfInBounds o v) (o + 1) r
theorem Row.setCells {g : Nat} {t : TypeId} : ∀ (vs : List Value) (o : Nat) (w : World) (cs : Array Value), Row w g t cs → Row (w.setCells g o vs) g t (putA cs o vs)
  | [], _, _, _, h => h
  | v :: r, o, w, cs, h => Row.setCells r (o + 1) _ _ (h.set o v)
theorem grownBy_setCells (g : Nat) : ∀ (vs : List Value) (o : Nat) (w : World), w.grownBy (w.setCells g o vs) (some g)
  | [], _, w => World.grownBy.refl _ _
  | v :: r, o, w => (grownBy_setCell w g o v).trans (grownBy_setCells g r (o + 1) _)
set_option maxRecDepth 100000 in
theorem putA_lit (c i v r mo pf d sq st : Int) (g a : Bool) (a0 a1 a2 a3 a4 a5 a6 a7 a8 a9 a10 a11 a12 a13 a14 a15 : Int) (oa : Option Addr) (on oc : Nat) (L : List Ov) : putA (Mv.cs ⟨c, i, v, r, mo, pf, d, sq, st, g, a, zeros, oa, on, oc, L⟩) 11 (arr [a0, a1, a2, a3, a4, a5, a6, a7, a8, a9, a10, a11, a12, a13, a14, a15]).toList = Mv.cs ⟨c, i, v, r, mo, pf, d, sq, st, g, a, [a0, a1, a2, a3, a4, a5, a6, a7, a8, a9, a10, a11, a12, a13, a14, a15], oa, on, oc, L⟩ := by kernel_rfl
set_option maxRecDepth 100000 in
theorem put27_lit (c i v r mo pf d sq st : Int) (g a : Bool) (a0 a1 a2 a3 a4 a5 a6 a7 a8 a9 a10 a11 a12 a13 a14 a15 : Int) (oa0 : Option Addr) (on0 oc0 : Nat) (L0 : List Ov) (oa : Option Addr) (on oc : Nat) (L : List Ov) : (Mv.cs ⟨c, i, v, r, mo, pf, d, sq, st, g, a, [a0, a1, a2, a3, a4, a5, a6, a7, a8, a9, a10, a11, a12, a13, a14, a15], oa0, on0, oc0, L0⟩).setIfInBounds 27 (.slice oa on oc) = Mv.cs ⟨c, i, v, r, mo, pf, d, sq, st, g, a, [a0, a1, a2, a3, a4, a5, a6, a7, a8, a9, a10, a11, a12, a13, a14, a15], oa, on, oc, L⟩ := by kernel_rfl
theorem putA_ro (m : Mv) (ro : List Int) (hm : m.ro = zeros) (h : ro.length = 16) : putA m.cs 11 (arr ro).toList = ({ m with ro := ro } : Mv).cs := by
  obtain ⟨c, i, v, r, mo, pf, d, sq, st, g, a, ro0, oa, on, oc, L⟩ := m
  simp only at hm
  subst hm
  match ro, h with
  | [a0, a1, a2, a3, a4, a5, a6, a7, a8, a9, a10, a11, a12, a13, a14, a15], _ => exact putA_lit c i v r mo pf d sq st g a a0 a1 a2 a3 a4 a5 a6 a7 a8 a9 a10 a11 a12 a13 a14 a15 oa on oc L
theorem put27 (m : Mv) (hm : m.ro.length = 16) (oa : Option Addr) (on oc : Nat) (L : List Ov) : m.cs.setIfInBounds 27 (.slice oa on oc) = ({ m with oa := oa, on := on, oc := oc, L := L } : Mv).cs := by
  obtain ⟨c, i, v, r, mo, pf, d, sq, st, g, a, ro, oa0, on0, oc0, L0⟩ := m
  simp only at hm
  match ro, hm with
  | [a0, a1, a2, a3, a4, a5, a6, a7, a8, a9, a10, a11, a12, a13, a14, a15], _ => exact put27_lit c i v r mo pf d sq st g a a0 a1 a2 a3 a4 a5 a6 a7 a8 a9 a10 a11 a12 a13 a14 a15 oa0 on0 oc0 L0 oa on oc L
theorem stRo {ops : Array Oper} {rest : List Oper} {o : Oper} {a : Act} {w : World} {Q : Exit → Act → World → Prop} (x y : Operand) (ho : o.op = .store 33 x y) (hgd : o.guard = none) (g : Nat) (m : Mv) (ro : List Int) (hm : Adr m.ro) (hro : ro.length = 16) (hx : a.eval x = .pointer (some ⟨g, 11, none⟩)) (hy : a.eval y = .agg (arr ro)) (t' : TypeId) (hg : Row w g t' m.cs)
    (hn : wpList Tryz.prog ops Q rest (a.put o.dst undef) (w.setCells g 11 (arr ro).toList)) : wpList Tryz.prog ops Q (o :: rest) a w :=
  wpList_store_mid hgd 33 x y ho g 11 (arr ro) hx hy (fun j hj => by
    rw [arr_size, hro] at hj
    refine ⟨?_, hg.frozen _⟩
    rw [hg.cell, Mv.atA hm j hj]; rfl) (by rw [arr_size, hro]; exact size41) (arr_one _) hn
theorem Oth.news {c g : Nat} {w w1 w2 : World} (h : Oth c c w w1) (hg : w.heap.size ≤ g) (h2 : Oth c g w1 w2) : Oth c c w w2 := ⟨Nat.le_trans h.1 h2.1, fun k hk h3 _ => (h2.2 k (Nat.lt_of_lt_of_le hk h.1) h3 (by omega)).trans (h.2 k hk h3 h3)⟩
end Go.Proofs.YtbklpelikaapoaaGreatDoor

namespace Go.Proofs.YtbklpelikaapoaaGreatDoor
open Go.ChangeShapes Go.WideShapes Go.ChangeAt Go.RowKit Go.Deep
set_option linter.unusedVariables false
set_option linter.unusedSimpArgs false

/-- A packet as it lies. -/
structure Pv where
  h : Hd
  d : Bool
  m : Mv
  o : Ho
  n : Int
  t : Txt
def Pv.tl (p : Pv) : Array Value := #[.int .i64 p.n, p.t.v]
/-- Its cells. -/
def Pv.cs (p : Pv) : Array Value := p.h.cs ++ (#[.bool p.d] ++ (p.m.cs ++ (p.o.cs ++ p.tl)))
structure Pv.ok (w : World) (p : Pv) : Prop where
  h : p.h.ok
  m : p.m.ok w
  t : p.t.ok w
def Pv.zero : Pv := ⟨Hd.zero, false, Mv.zero, Ho.zero, 0, Txt.none⟩
theorem Txt.none_ok (w : World) : Txt.none.ok w := ⟨⟨rfl, Nat.le_refl _, by decide, fun _ => rfl, fun k hk => by simp [Txt.none] at hk⟩, fun x hx => by cases hx⟩
theorem Pv.zero_ok (w : World) : Pv.zero.ok w := ⟨Hd.zero_ok, Mv.zero_ok w, Txt.none_ok w⟩
theorem Pv.ok.below {w w' : World} {p : Pv} (h : p.ok w) (hb : Below w.heap.size w w') : p.ok w' := ⟨h.h, h.m.below hb, h.t.below hb⟩
/-- What sizes want of a packet. -/
def Pv.fit (p : Pv) : Prop := p.h.ok ∧ Adr p.m.ro
theorem Pv.ok.fit {w : World} {p : Pv} (h : p.ok w) : p.fit := ⟨h.h, h.m.ro⟩
theorem Pv.zero_fit : Pv.zero.fit := ⟨Hd.zero_ok, adr_zeros⟩
theorem Pv.size {p : Pv} (k : p.fit) : p.cs.size = 73 := by simp [Pv.cs, Pv.tl, Hd.size k.1, Mv.size k.2, Ho.size]
theorem Pv.one (p : Pv) : p.cs.all (·.oneCell') = true := by
  rw [Pv.cs, Array.all_append, Array.all_append, Array.all_append, Array.all_append, Hd.one, Mv.one, Ho.one]; simp [Pv.tl, Txt.v, Value.oneCell']
theorem lt_of_at {c : Array Value} {j : Nat} {v : Value} (h : c[j]? = some v) : j < c.size := (Array.getElem?_eq_some_iff.1 h).1
theorem Part.left {w : World} {b off : Nat} {x y : Array Value} (h : Part w b off (x ++ y)) : Part w b off x := fun j v hv => h j v (by rw [Array.getElem?_append_left (lt_of_at hv)]; exact hv)
theorem Part.right {w : World} {b off : Nat} {x y : Array Value} (h : Part w b off (x ++ y)) (n : Nat) (hn : x.size = n) : Part w b (off + n) y := fun j v hv => by
  rw [Nat.add_assoc]
  refine h (n + j) v ?_
  rw [Array.getElem?_append_right (by omega), show n + j - x.size = j by omega]; exact hv
theorem Part.at {w : World} {b off : Nat} {c : Array Value} (h : Part w b off c) (j : Nat) (v : Value) (hv : c[j]? = some v) : w.cell? ⟨b, off + j, none⟩ = some v := h j v hv
section
variable {w : World} {g : Nat} {t : TypeId} {p : Pv}
theorem Pv.rH (k : p.fit) (r : Row w g t p.cs) : Part w g 0 p.h.cs := r.part.left
theorem Pv.rD (k : p.fit) (r : Row w g t p.cs) : w.cell? ⟨g, 37, none⟩ = some (.bool p.d) := by
  have := (r.part.right 37 (Hd.size k.1)).left 0 (.bool p.d) rfl
  simpa using this
theorem Pv.rM (k : p.fit) (r : Row w g t p.cs) : Part w g 38 p.m.cs := by
  have := ((r.part.right 37 (Hd.size k.1)).right 1 rfl).left
  simpa using this
theorem Pv.rO (k : p.fit) (r : Row w g t p.cs) : Part w g 66 p.o.cs := by
  have := (((r.part.right 37 (Hd.size k.1)).right 1 rfl).right 28 (Mv.size k.2)).left
  simpa using this
theorem Pv.rN (k : p.fit) (r : Row w g t p.cs) : w.cell? ⟨g, 71, none⟩ = some (.int .i64 p.n) := by
  have := (((r.part.right 37 (Hd.size k.1)).right 1 rfl).right 28 (Mv.size k.2)).right 5 (Ho.size p.o) 0 (.int .i64 p.n) rfl
  simpa using this
theorem Pv.rT (k : p.fit) (r : Row w g t p.cs) : w.cell? ⟨g, 72, none⟩ = some p.t.v := by
  have := (((r.part.right 37 (Hd.size k.1)).right 1 rfl).right 28 (Mv.size k.2)).right 5 (Ho.size p.o) 1 p.t.v rfl
  simpa using this
theorem Hd.pF {h : Hd} {off : Nat} (r : Part w g off h.cs) : Part w g (off + 5) (arr h.f) := (Part.right r 5 rfl).left
theorem Hd.pT {h : Hd} (k : h.ok) {off : Nat} (r : Part w g off h.cs) : Part w g (off + 21) (arr h.t) := by
  have := (Part.right r 5 rfl).right 16 (by rw [arr_size, k.1.1])
  simpa [Nat.add_assoc] using this
end
/-! Writes. -/
theorem set_left {x y : Array Value} {i : Nat} (v : Value) (h : i < x.size) : (x ++ y).setIfInBounds i v = x.setIfInBounds i v ++ y := by
  apply Array.ext'; simp [List.set_append, h]
def Pv.setNx (p : Pv) (x : Int) : Pv := ⟨p.h.setNx x, p.d, p.m, p.o, p.n, p.t⟩
def Pv.setD (p : Pv) (x : Bool) : Pv := ⟨p.h, x, p.m, p.o, p.n, p.t⟩
def Pv.setN (p : Pv) (x : Int) : Pv := ⟨p.h, p.d, p.m, p.o, x, p.t⟩
def Pv.setT (p : Pv) (x : Txt) : Pv := ⟨p.h, p.d, p.m, p.o, p.n, x⟩
theorem Pv.put3 {p : Pv} (k : p.fit) (x : Int) : p.cs.setIfInBounds 3 (.int .i64 x) = (p.setNx x).cs := by
  rw [Pv.cs, set_left _ (by rw [Hd.size k.1]; decide), Hd.set3]; rfl
/-- A type of packets. -/
structure PT (t : TypeId) : Prop where
  desc : ∃ fs, Tryz.prog.underlying t = some (.struct fs)
  info : (Tryz.prog.info? t).map (·.size) = some 73
  full : ∀ p : Pv, p.fit → Tryz.prog.built t [(0, .agg p.h.cs), (1, .bool p.d), (2, .agg p.m.cs), (3, .agg p.o.cs), (4, .int .i64 p.n), (5, p.t.v)] = some p.cs
  ctl : ∀ (h : Hd) (m : Mv), h.ok → Adr m.ro → Tryz.prog.built t [(0, .agg h.cs), (2, .agg m.cs)] = some (Pv.cs ⟨h, false, m, Ho.zero, 0, Txt.none⟩)
  dat : ∀ (h : Hd) (o : Ho) (n : Int) (x : Txt), h.ok → Tryz.prog.built t [(0, .agg h.cs), (1, .bool true), (3, .agg o.cs), (4, .int .i64 n), (5, x.v)] = some (Pv.cs ⟨h, true, Mv.zero, o, n, x⟩)
  head : ∀ (h : Hd), h.ok → Tryz.prog.built t [(0, .agg h.cs)] = some (Pv.cs ⟨h, false, Mv.zero, Ho.zero, 0, Txt.none⟩)
  bare : Tryz.prog.built t [] = some Pv.zero.cs
set_option maxRecDepth 100000 in
theorem pkFullP' (c fl ln nx hp a0 a1 a2 a3 a4 a5 a6 a7 a8 a9 a10 a11 a12 a13 a14 a15 b0 b1 b2 b3 b4 b5 b6 b7 b8 b9 b10 b11 b12 b13 b14 b15 : Int) (d : Bool) (mc mi mv mr mo pf md sq st : Int) (mg ma : Bool) (r0 r1 r2 r3 r4 r5 r6 r7 r8 r9 r10 r11 r12 r13 r14 r15 : Int) (oa : Option Addr) (on oc : Nat) (L : List Ov) (od ow of : Bool) (oi or : Int) (n : Int) (ta : Option Addr) (tn tc : Nat) (tl : List Int) : Tryz.prog.built 41 [(0, .agg (Hd.cs ⟨c, fl, ln, nx, hp, [a0, a1, a2, a3, a4, a5, a6, a7, a8, a9, a10, a11, a12, a13, a14, a15], [b0, b1, b2, b3, b4, b5, b6, b7, b8, b9, b10, b11, b12, b13, b14, b15]⟩)), (1, .bool d), (2, .agg (Mv.cs ⟨mc, mi, mv, mr, mo, pf, md, sq, st, mg, ma, [r0, r1, r2, r3, r4, r5, r6, r7, r8, r9, r10, r11, r12, r13, r14, r15], oa, on, oc, L⟩)), (3, .agg (Ho.cs ⟨od, ow, of, oi, or⟩)), (4, .int .i64 n), (5, Txt.v ⟨ta, tn, tc, tl⟩)] = some (Pv.cs ⟨⟨c, fl, ln, nx, hp, [a0, a1, a2, a3, a4, a5, a6, a7, a8, a9, a10, a11, a12, a13, a14, a15], [b0, b1, b2, b3, b4, b5, b6, b7, b8, b9, b10, b11, b12, b13, b14, b15]⟩, d, ⟨mc, mi, mv, mr, mo, pf, md, sq, st, mg, ma, [r0, r1, r2, r3, r4, r5, r6, r7, r8, r9, r10, r11, r12, r13, r14, r15], oa, on, oc, L⟩, ⟨od, ow, of, oi, or⟩, n, ⟨ta, tn, tc, tl⟩⟩) := by kernel_rfl
theorem pkFullP (h : Hd) (d : Bool) (m : Mv) (o : Ho) (n : Int) (x : Txt) (kh : h.ok) (km : Adr m.ro) : Tryz.prog.built 41 [(0, .agg h.cs), (1, .bool d), (2, .agg m.cs), (3, .agg o.cs), (4, .int .i64 n), (5, x.v)] = some (Pv.cs ⟨h, d, m, o, n, x⟩) := by
  obtain ⟨c, fl, ln, nx, hp, f, t⟩ := h
  obtain ⟨⟨hf, _⟩, ht, _⟩ := kh
  simp only at hf ht
  obtain ⟨mc, mi, mv, mr, mo, pf, md, sq, st, mg, ma, ro, oa, on, oc, L⟩ := m
  obtain ⟨hr, _⟩ := km
  simp only at hr
  obtain ⟨od, ow, of, oi, or⟩ := o
  obtain ⟨ta, tn, tc, tl⟩ := x
  match f, hf, t, ht, ro, hr with
  | [a0, a1, a2, a3, a4, a5, a6, a7, a8, a9, a10, a11, a12, a13, a14, a15], _, [b0, b1, b2, b3, b4, b5, b6, b7, b8, b9, b10, b11, b12, b13, b14, b15], _, [r0, r1, r2, r3, r4, r5, r6, r7, r8, r9, r10, r11, r12, r13, r14, r15], _ => exact pkFullP' c fl ln nx hp a0 a1 a2 a3 a4 a5 a6 a7 a8 a9 a10 a11 a12 a13 a14 a15 b0 b1 b2 b3 b4 b5 b6 b7 b8 b9 b10 b11 b12 b13 b14 b15 d mc mi mv mr mo pf md sq st mg ma r0 r1 r2 r3 r4 r5 r6 r7 r8 r9 r10 r11 r12 r13 r14 r15 oa on oc L od ow of oi or n ta tn tc tl
set_option maxRecDepth 100000 in
theorem pkCtlP' (c fl ln nx hp a0 a1 a2 a3 a4 a5 a6 a7 a8 a9 a10 a11 a12 a13 a14 a15 b0 b1 b2 b3 b4 b5 b6 b7 b8 b9 b10 b11 b12 b13 b14 b15 : Int) (mc mi mv mr mo pf md sq st : Int) (mg ma : Bool) (r0 r1 r2 r3 r4 r5 r6 r7 r8 r9 r10 r11 r12 r13 r14 r15 : Int) (oa : Option Addr) (on oc : Nat) (L : List Ov) : Tryz.prog.built 41 [(0, .agg (Hd.cs ⟨c, fl, ln, nx, hp, [a0, a1, a2, a3, a4, a5, a6, a7, a8, a9, a10, a11, a12, a13, a14, a15], [b0, b1, b2, b3, b4, b5, b6, b7, b8, b9, b10, b11, b12, b13, b14, b15]⟩)), (2, .agg (Mv.cs ⟨mc, mi, mv, mr, mo, pf, md, sq, st, mg, ma, [r0, r1, r2, r3, r4, r5, r6, r7, r8, r9, r10, r11, r12, r13, r14, r15], oa, on, oc, L⟩))] = some (Pv.cs ⟨⟨c, fl, ln, nx, hp, [a0, a1, a2, a3, a4, a5, a6, a7, a8, a9, a10, a11, a12, a13, a14, a15], [b0, b1, b2, b3, b4, b5, b6, b7, b8, b9, b10, b11, b12, b13, b14, b15]⟩, false, ⟨mc, mi, mv, mr, mo, pf, md, sq, st, mg, ma, [r0, r1, r2, r3, r4, r5, r6, r7, r8, r9, r10, r11, r12, r13, r14, r15], oa, on, oc, L⟩, Ho.zero, 0, Txt.none⟩) := by kernel_rfl
theorem pkCtlP (h : Hd) (m : Mv) (kh : h.ok) (km : Adr m.ro) : Tryz.prog.built 41 [(0, .agg h.cs), (2, .agg m.cs)] = some (Pv.cs ⟨h, false, m, Ho.zero, 0, Txt.none⟩) := by
  obtain ⟨c, fl, ln, nx, hp, f, t⟩ := h
  obtain ⟨⟨hf, _⟩, ht, _⟩ := kh
  simp only at hf ht
  obtain ⟨mc, mi, mv, mr, mo, pf, md, sq, st, mg, ma, ro, oa, on, oc, L⟩ := m
  obtain ⟨hr, _⟩ := km
  simp only at hr
  match f, hf, t, ht, ro, hr with
  | [a0, a1, a2, a3, a4, a5, a6, a7, a8, a9, a10, a11, a12, a13, a14, a15], _, [b0, b1, b2, b3, b4, b5, b6, b7, b8, b9, b10, b11, b12, b13, b14, b15], _, [r0, r1, r2, r3, r4, r5, r6, r7, r8, r9, r10, r11, r12, r13, r14, r15], _ => exact pkCtlP' c fl ln nx hp a0 a1 a2 a3 a4 a5 a6 a7 a8 a9 a10 a11 a12 a13 a14 a15 b0 b1 b2 b3 b4 b5 b6 b7 b8 b9 b10 b11 b12 b13 b14 b15 mc mi mv mr mo pf md sq st mg ma r0 r1 r2 r3 r4 r5 r6 r7 r8 r9 r10 r11 r12 r13 r14 r15 oa on oc L
set_option maxRecDepth 100000 in
theorem pkDatP' (c fl ln nx hp a0 a1 a2 a3 a4 a5 a6 a7 a8 a9 a10 a11 a12 a13 a14 a15 b0 b1 b2 b3 b4 b5 b6 b7 b8 b9 b10 b11 b12 b13 b14 b15 : Int) (od ow of : Bool) (oi or : Int) (n : Int) (ta : Option Addr) (tn tc : Nat) (tl : List Int) : Tryz.prog.built 41 [(0, .agg (Hd.cs ⟨c, fl, ln, nx, hp, [a0, a1, a2, a3, a4, a5, a6, a7, a8, a9, a10, a11, a12, a13, a14, a15], [b0, b1, b2, b3, b4, b5, b6, b7, b8, b9, b10, b11, b12, b13, b14, b15]⟩)), (1, .bool true), (3, .agg (Ho.cs ⟨od, ow, of, oi, or⟩)), (4, .int .i64 n), (5, Txt.v ⟨ta, tn, tc, tl⟩)] = some (Pv.cs ⟨⟨c, fl, ln, nx, hp, [a0, a1, a2, a3, a4, a5, a6, a7, a8, a9, a10, a11, a12, a13, a14, a15], [b0, b1, b2, b3, b4, b5, b6, b7, b8, b9, b10, b11, b12, b13, b14, b15]⟩, true, Mv.zero, ⟨od, ow, of, oi, or⟩, n, ⟨ta, tn, tc, tl⟩⟩) := by kernel_rfl
theorem pkDatP (h : Hd) (o : Ho) (n : Int) (x : Txt) (kh : h.ok) : Tryz.prog.built 41 [(0, .agg h.cs), (1, .bool true), (3, .agg o.cs), (4, .int .i64 n), (5, x.v)] = some (Pv.cs ⟨h, true, Mv.zero, o, n, x⟩) := by
  obtain ⟨c, fl, ln, nx, hp, f, t⟩ := h
  obtain ⟨⟨hf, _⟩, ht, _⟩ := kh
  simp only at hf ht
  obtain ⟨od, ow, of, oi, or⟩ := o
  obtain ⟨ta, tn, tc, tl⟩ := x
  match f, hf, t, ht with
  | [a0, a1, a2, a3, a4, a5, a6, a7, a8, a9, a10, a11, a12, a13, a14, a15], _, [b0, b1, b2, b3, b4, b5, b6, b7, b8, b9, b10, b11, b12, b13, b14, b15], _ => exact pkDatP' c fl ln nx hp a0 a1 a2 a3 a4 a5 a6 a7 a8 a9 a10 a11 a12 a13 a14 a15 b0 b1 b2 b3 b4 b5 b6 b7 b8 b9 b10 b11 b12 b13 b14 b15 od ow of oi or n ta tn tc tl
set_option maxRecDepth 100000 in
theorem pkHeadP' (c fl ln nx hp a0 a1 a2 a3 a4 a5 a6 a7 a8 a9 a10 a11 a12 a13 a14 a15 b0 b1 b2 b3 b4 b5 b6 b7 b8 b9 b10 b11 b12 b13 b14 b15 : Int) : Tryz.prog.built 41 [(0, .agg (Hd.cs ⟨c, fl, ln, nx, hp, [a0, a1, a2, a3, a4, a5, a6, a7, a8, a9, a10, a11, a12, a13, a14, a15], [b0, b1, b2, b3, b4, b5, b6, b7, b8, b9, b10, b11, b12, b13, b14, b15]⟩))] = some (Pv.cs ⟨⟨c, fl, ln, nx, hp, [a0, a1, a2, a3, a4, a5, a6, a7, a8, a9, a10, a11, a12, a13, a14, a15], [b0, b1, b2, b3, b4, b5, b6, b7, b8, b9, b10, b11, b12, b13, b14, b15]⟩, false, Mv.zero, Ho.zero, 0, Txt.none⟩) := by kernel_rfl
theorem pkHeadP (h : Hd) (kh : h.ok) : Tryz.prog.built 41 [(0, .agg h.cs)] = some (Pv.cs ⟨h, false, Mv.zero, Ho.zero, 0, Txt.none⟩) := by
  obtain ⟨c, fl, ln, nx, hp, f, t⟩ := h
  obtain ⟨⟨hf, _⟩, ht, _⟩ := kh
  simp only at hf ht
  match f, hf, t, ht with
  | [a0, a1, a2, a3, a4, a5, a6, a7, a8, a9, a10, a11, a12, a13, a14, a15], _, [b0, b1, b2, b3, b4, b5, b6, b7, b8, b9, b10, b11, b12, b13, b14, b15], _ => exact pkHeadP' c fl ln nx hp a0 a1 a2 a3 a4 a5 a6 a7 a8 a9 a10 a11 a12 a13 a14 a15 b0 b1 b2 b3 b4 b5 b6 b7 b8 b9 b10 b11 b12 b13 b14 b15
theorem ptP : PT 41 := ⟨⟨_, Tryz.underlying41⟩, by kernel_rfl, fun p k => pkFullP p.h p.d p.m p.o p.n p.t k.1 k.2, fun h m kh km => pkCtlP h m kh km, fun h o n x kh => pkDatP h o n x kh, fun h kh => pkHeadP h kh, by kernel_rfl⟩
section
variable {ops : Array Oper} {rest : List Oper} {o : Oper} {a : Act} {w : World} {Q : Exit → Act → World → Prop} {t : TypeId}
theorem ldP (ht : PT t) (x : Operand) (ho : o.op = .load t x) (hw : Region.wanted o (yielded ops a.tmps) = true) (g : Nat) (hx : a.eval x = .pointer (some ⟨g, 0, none⟩)) (p : Pv) (k : p.fit) (t' : TypeId) (hg : Row w g t' p.cs)
    (hn : wpList Tryz.prog ops Q rest (a.put o.dst (.agg p.cs)) w) : wpList Tryz.prog ops Q (o :: rest) a w := by
  obtain ⟨fs, h1⟩ := ht.desc
  exact wp_ld t x ho hw g 0 hx p.cs _ h1 rfl (by rw [Pv.size k]; exact ht.info) hg.part hn
theorem stP (ht : PT t) (x y : Operand) (ho : o.op = .store t x y) (hgd : o.guard = none) (g : Nat) (p : Pv) (k : p.fit) (hx : a.eval x = .pointer (some ⟨g, 0, none⟩)) (hy : a.eval y = .agg p.cs) (t' : TypeId) (old : Pv) (ko : old.fit) (hg : Row w g t' old.cs)
    (hn : wpList Tryz.prog ops Q rest (a.put o.dst undef) (w.setRow g p.cs)) : wpList Tryz.prog ops Q (o :: rest) a w :=
  wp_st t x y ho hgd g p.cs hx hy (by rw [Pv.size k]; exact ht.info) p.one t' old.cs (by rw [Pv.size k, Pv.size ko]) hg hn
theorem ldHoH (x : Operand) (ho : o.op = .load 35 x) (hw : Region.wanted o (yielded ops a.tmps) = true) (g off : Nat) (hx : a.eval x = .pointer (some ⟨g, off, none⟩)) (h : Hd) (k : h.ok) (hg : Part w g off h.cs)
    (hn : wpList Tryz.prog ops Q rest (a.put o.dst (.agg h.cs)) w) : wpList Tryz.prog ops Q (o :: rest) a w :=
  wp_ld 35 x ho hw g off hx h.cs _ Tryz.underlying35 rfl (by rw [Hd.size k]; exact sizeHd) hg hn
theorem ldOq {t : TypeId} (ht : OT t) (x : Operand) (ho : o.op = .load t x) (hw : Region.wanted o (yielded ops a.tmps) = true) (g off : Nat) (hx : a.eval x = .pointer (some ⟨g, off, none⟩)) (h : Ho) (hg : Part w g off h.cs)
    (hn : wpList Tryz.prog ops Q rest (a.put o.dst (.agg h.cs)) w) : wpList Tryz.prog ops Q (o :: rest) a w := by
  obtain ⟨fs, h1⟩ := ht.desc
  exact wp_ld t x ho hw g off hx h.cs _ h1 rfl ht.info hg hn
theorem bdPz (ht : PT t) (ho : o.op = .build t #[]) (hg : o.guard = none)
    (hn : wpList Tryz.prog ops Q rest (a.put o.dst (.agg Pv.zero.cs)) w) : wpList Tryz.prog ops Q (o :: rest) a w :=
  wp_bd t _ ho hg Pv.zero.cs (by simp only [List.map_toArray, List.map_nil]; exact ht.bare) hn
theorem bdPc (ht : PT t) (x0 x2 : Operand) (ho : o.op = .build t #[(0, x0), (2, x2)]) (hg : o.guard = none)
    (h : Hd) (m : Mv) (kh : h.ok) (km : Adr m.ro) (h0 : a.eval x0 = .agg h.cs) (h2 : a.eval x2 = .agg m.cs)
    (hn : wpList Tryz.prog ops Q rest (a.put o.dst (.agg (Pv.cs ⟨h, false, m, Ho.zero, 0, Txt.none⟩))) w) : wpList Tryz.prog ops Q (o :: rest) a w :=
  wp_bd t _ ho hg _ (by simp only [List.map_toArray, List.map_cons, List.map_nil, h0, h2]; exact ht.ctl h m kh km) hn
end
section
variable {ops : Array Oper} {S : World → Prop} {op : Oper} {a : Act} {t : TypeId}
/-! Loads in a drawn region. -/
theorem yldOq (ht : OT t) (hw : Region.wanted op (yielded ops a.tmps) = true) (x : Operand) (ho : op.op = .load t x) (g off : Nat) (hx : a.eval x = .pointer (some ⟨g, off, none⟩)) (h : Ho) (hS : ∀ w, S w → Part w g off h.cs) : YieldsIf Tryz.prog ops S op (.agg h.cs) a := by
  obtain ⟨fs, h1⟩ := ht.desc
  exact yields_ldo hw t x ho g off hx h.cs _ hS h1 rfl ht.info
theorem yldHoH (hw : Region.wanted op (yielded ops a.tmps) = true) (x : Operand) (ho : op.op = .load 35 x) (g off : Nat) (hx : a.eval x = .pointer (some ⟨g, off, none⟩)) (h : Hd) (k : h.ok) (hS : ∀ w, S w → Part w g off h.cs) : YieldsIf Tryz.prog ops S op (.agg h.cs) a :=
  yields_ldo hw 35 x ho g off hx h.cs _ hS Tryz.underlying35 rfl (by rw [Hd.size k]; exact sizeHd)
theorem ybdPc (ht : PT t) (hw : Region.wanted op (yielded ops a.tmps) = true) (x0 x2 : Operand) (ho : op.op = .build t #[(0, x0), (2, x2)])
    (h : Hd) (m : Mv) (kh : h.ok) (km : Adr m.ro) (h0 : a.eval x0 = .agg h.cs) (h2 : a.eval x2 = .agg m.cs) : YieldsIf Tryz.prog ops S op (.agg (Pv.cs ⟨h, false, m, Ho.zero, 0, Txt.none⟩)) a :=
  .inl ⟨hw, fun w _ => by
    have hf : Tryz.prog.built t ((#[(0, x0), (2, x2)] : Array (Nat × Operand)).map fun (i, x) => (i, a.eval x)).toList = some (Pv.cs ⟨h, false, m, Ho.zero, 0, Txt.none⟩) := by
      simp only [List.map_toArray, List.map_cons, List.map_nil, h0, h2]; exact ht.ctl h m kh km
    unfold execOp
    simp only [ho, Sem.run_bind, run_build w t _ _ hf, Result.andThen_ok]
    rfl⟩
theorem ybdPd (ht : PT t) (hw : Region.wanted op (yielded ops a.tmps) = true) (x0 x1 x3 x4 x5 : Operand) (ho : op.op = .build t #[(0, x0), (1, x1), (3, x3), (4, x4), (5, x5)])
    (h : Hd) (o' : Ho) (n : Int) (x : Txt) (kh : h.ok) (h0 : a.eval x0 = .agg h.cs) (h1 : a.eval x1 = .bool true) (h3 : a.eval x3 = .agg o'.cs) (h4 : a.eval x4 = .int .i64 n) (h5 : a.eval x5 = x.v) : YieldsIf Tryz.prog ops S op (.agg (Pv.cs ⟨h, true, Mv.zero, o', n, x⟩)) a :=
  .inl ⟨hw, fun w _ => by
    have hf : Tryz.prog.built t ((#[(0, x0), (1, x1), (3, x3), (4, x4), (5, x5)] : Array (Nat × Operand)).map fun (i, x) => (i, a.eval x)).toList = some (Pv.cs ⟨h, true, Mv.zero, o', n, x⟩) := by
      simp only [List.map_toArray, List.map_cons, List.map_nil, h0, h1, h3, h4, h5]; exact ht.dat h o' n x kh
    unfold execOp
    simp only [ho, Sem.run_bind, run_build w t _ _ hf, Result.andThen_ok]
    rfl⟩
end
theorem resP {fn : Func} {q : Tmp} {t : TypeId} (ht : PT t) (hf : fn.results = #[.cell q t]) (tmps : Array Value) (w : World) (g : Nat) (t' : TypeId) (p : Pv) (k : p.fit)
    (hp : tmps.getD q undef = .pointer (some ⟨g, 0, none⟩)) (hg : Row w g t' p.cs) : (results fn tmps).run Tryz.prog w = .ok (.agg p.cs) w := by
  obtain ⟨fs, h1⟩ := ht.desc
  exact results_cell_row hf tmps w g t' p.cs (0, 0) _ hp hg h1 rfl (by rw [Pv.size k]; exact ht.info)
theorem resPe {fn : Func} {q u : Tmp} {t : TypeId} (ht : PT t) (hf : fn.results = #[.cell q t, .tmp u]) (tmps : Array Value) (w : World) (g : Nat) (t' : TypeId) (p : Pv) (k : p.fit) (v : Value)
    (hp : tmps.getD q undef = .pointer (some ⟨g, 0, none⟩)) (hu : tmps.getD u undef = v) (hg : Row w g t' p.cs) : (results fn tmps).run Tryz.prog w = .ok (.tuple #[.agg p.cs, v]) w := by
  obtain ⟨fs, h1⟩ := ht.desc
  rw [results_cell_tmp hf]
  have hp' : tmps[q]?.getD undef = .pointer (some ⟨g, 0, none⟩) := by simpa using hp
  have hu' : tmps[u]?.getD undef = v := by simpa using hu
  simp [hp', hu', asAddr, run_loadVar_row w g t' t p.cs (0, 0) _ hg h1 rfl (by rw [Pv.size k]; exact ht.info)]
theorem layP_new (w : World) (t : TypeId) (p : Pv) : Row ((w.alloc (.cells Pv.zero.cs t)).setRow w.heap.size p.cs) w.heap.size t p.cs := (Row.new w t _).setRow _
theorem layP_below (w : World) (t : TypeId) (p : Pv) : Below w.heap.size w ((w.alloc (.cells Pv.zero.cs t)).setRow w.heap.size p.cs) := below_setRow' (balloc (Below.refl w.heap.size w) _) (Nat.le_refl _) _

set_option maxRecDepth 100000 in
theorem zpkP : Tryz.zeroCells41 = Pv.zero.cs := by kernel_rfl
end Go.Proofs.YtbklpelikaapoaaGreatDoor

namespace Go.Proofs.YtbklpelikaapoaaGreatDoor
open Go.ChangeShapes Go.WideShapes Go.ChangeAt Go.RowKit
set_option linter.unusedVariables false
set_option linter.unusedSimpArgs false

/-- Bytes laid over the middle of a header. -/
theorem splice_F {h : Hd} (k : h.ok) {x : List Int} (hx : x.length = 16) : splice h.cs.toList 5 (u8s x) = (h.setF x).cs.toList := by
  have : h.f.length = 16 := k.1.1
  simp [splice, Hd.cs, Hd.setF, arr, u8s, hx, List.drop_append, this]
theorem splice_T {h : Hd} (k : h.ok) {x : List Int} (hx : x.length = 16) : splice h.cs.toList 21 (u8s x) = (h.setT x).cs.toList := by
  have h1 : h.f.length = 16 := k.1.1
  have h2 : h.t.length = 16 := k.2.1
  simp [splice, Hd.cs, Hd.setT, arr, u8s, hx, List.drop_append, List.take_append, h1, h2]
theorem and8 (x : Int) (h0 : 0 ≤ x) (h1 : x < 4294967296) : bits .and .i64 (x / 1048576) 255 = x / 1048576 % 256 :=
  bits_mask .i64 62 (by decide) wraps_i64 8 (by decide) (x / 1048576) (by omega) (by omega)
theorem and20 (x : Int) (h0 : 0 ≤ x) (h1 : x < 4294967296) : bits .and .i64 x 1048575 = x % 1048576 :=
  bits_mask .i64 62 (by decide) wraps_i64 20 (by decide) x h0 (by omega)
/-- The header that bytes begin with. -/
def decH (l : List Int) : Hd := ⟨numOf (l.take 4) / 1048576 % 256, numOf (l.take 4) % 1048576, numOf ((l.drop 4).take 2), numOf ((l.drop 6).take 1), numOf ((l.drop 7).take 1), (l.drop 8).take 16, (l.drop 24).take 16⟩
theorem decH_ok {l : List Int} (ho : Oct l) (hl : 40 ≤ l.length) : (decH l).ok :=
  ⟨⟨by simp [decH]; omega, ho.cut 8 16⟩, ⟨by simp [decH]; omega, ho.cut 24 16⟩⟩
end Go.Proofs.YtbklpelikaapoaaGreatDoor
