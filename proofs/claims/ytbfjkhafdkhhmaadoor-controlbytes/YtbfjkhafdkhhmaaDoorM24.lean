/- Reading: Decode. · The reader: address, options. -/
import Derived.Test.YtbfjkhafdkhhmaaDoorOpNxo
import Derived.Test.YtbfjkhafdkhhmaaDoorM21
import Derived.Test.YtbfjkhafdkhhmaaDoorM8
import Derived.Test.YtbfjkhafdkhhmaaDoorM13
namespace Go.Proofs.YtbfjkhafdkhhmaaDoor
open Go.ChangeShapes Go.WideShapes Go.ChangeAt Go.RowKit Go.Deep
set_option linter.unusedVariables false
set_option linter.unusedSimpArgs false

theorem next_any {B base : Nat} (w w0 : World) (p c : Nat) (a : Option Addr) (len cap : Nat) (l : List Int) (at_ : Nat) (gv : Value) (L : List Ov) (h : NxAt base w w0 p c a len cap l at_ 0 gv L) (hV : Vars B w0) (hB : B ≤ base) (hat : at_ < len) (hL : L.length ≤ 16) :
    Calls Tryd.prog 99 #[.pointer (some ⟨p, 0, none⟩)] w0 fun e w' => e = .returned (.tuple #[]) ∧ Hid (NxOk base w w' p c a len cap l at_ L) := by
  by_cases h16 : L.length = 16
  · exact next_full w w0 p c a len cap l at_ gv L h hV hB hat hL h16
  · cases hk : kndB (nxK (l.drop at_))
    · exact next_kind w w0 p c a len cap l at_ gv L h hV hB hat hL h16 hk
    · obtain ⟨k, e, hk10⟩ := knd_nat hk
      by_cases h0 : k = 0
      · exact next_pad w w0 p c a len cap l at_ gv L h hV hB hat hL h16 (by rw [e, h0]; rfl)
      · exact next_other w w0 p c a len cap l at_ gv L h hV hB hat hL h16 k hk10 h0 e
theorem nxN_pos (m : List Int) : 1 ≤ nxN m := by unfold nxN; split <;> omega
/-- The options of bytes behind n others, and what is wrong. -/
def dec (n : Nat) (m : List Int) : List Po × Int :=
  if h : m = [] then ([], 0) else if nxE n m = 0 then (nxP m :: (dec (n + 1) (m.drop (nxN m))).1, (dec (n + 1) (m.drop (nxN m))).2) else ([], nxE n m)
termination_by m.length
decreasing_by all_goals (have := nxN_pos m; have : 0 < m.length := List.length_pos_iff.2 h; simp only [List.length_drop]; omega)
theorem dec_nil (n : Nat) : dec n [] = ([], 0) := by rw [dec]; rfl
theorem decO_ok {n : Nat} {m : List Int} (hm : m ≠ []) (h : nxE n m = 0) : dec n m = (nxP m :: (dec (n + 1) (m.drop (nxN m))).1, (dec (n + 1) (m.drop (nxN m))).2) := by
  rw [dec, dif_neg hm, if_pos h]
theorem dec_bad {n : Nat} {m : List Int} (hm : m ≠ []) (h : nxE n m ≠ 0) : dec n m = ([], nxE n m) := by
  rw [dec, dif_neg hm, if_neg h]
/-- Where Decode stands. -/
def DecAt (l : List Int) (at_ : Nat) (er : Int) (L : List Ov) : Prop :=
  (er = 0 → dec 0 l = (pos L ++ (dec L.length (l.drop at_)).1, (dec L.length (l.drop at_)).2)) ∧ (er ≠ 0 → (dec 0 l).2 = er)
theorem DecAt.next {l : List Int} {at_ : Nat} {L L2 : List Ov} {at2 : Nat} {er2 : Int} (h : DecAt l at_ 0 L) (hat : at_ < l.length) (he : er2 = nxE L.length (l.drop at_)) (h2 : er2 = 0 → pos L2 = pos L ++ [nxP (l.drop at_)] ∧ at2 = at_ + nxN (l.drop at_)) : DecAt l at2 er2 L2 := by
  have hm : l.drop at_ ≠ [] := fun e => by have := congrArg List.length e; simp at this; omega
  have h0 := h.1 rfl
  constructor
  · intro e
    obtain ⟨e1, e2⟩ := h2 e
    have hl : L2.length = L.length + 1 := by rw [← pos_len L2, e1, List.length_append, pos_len]; rfl
    rw [h0, decO_ok hm (he.symm.trans e), hl, e1, e2, List.drop_drop]; simp
  · intro e
    rw [h0, dec_bad hm (fun e3 => e (he.trans e3)), he]
def mz (er : Int) (len at_ : Nat) : Nat := if er = 0 then len - at_ + 1 else 0
/-- What Decode answers. -/
def DecOk (w : World) (l : List Int) (e : Ending) (w' : World) : Prop :=
  ∃ v L, e = .returned (.tuple #[v, .int .i64 (dec 0 l).2]) ∧ Below w.heap.size w w' ∧ w'.ownsRow w.heap.size 54 19 v L.length (ocs L) ∧ (∀ o ∈ L, Own2 w.heap.size w' o) ∧ pos L = (if (dec 0 l).2 = 0 then (dec 0 l).1 else []) ∧ L.length ≤ 16
set_option maxRecDepth 100000 in
set_option maxHeartbeats 1600000 in
theorem optDecode_any {B : Nat} (a : Option Addr) (len cap : Nat) (l : List Int) (w : World) (h : Lies .u8 w a len cap l) (ho : Oct l) (hl : len ≤ 100000) (hV : Vars B w) :
    Calls Tryd.prog 85 #[.slice a len cap] w (DecOk w l) := by
  have HL := hid h
  have HO := hid ho
  have HV := hid hV
  have HLl := hid h.1
  have hB : Hid (B ≤ w.heap.size) := hV.le
  clear h ho hV
  go_enter Tryd.func85, Tryd.ntmps85
  go_wp2_with fail
  refine (over_own a len cap l w HL.out HO.out hl).mono ?_
  rintro e w1 ⟨c, a2, cap2, rfl, hc, hb, hc1, hc2, hw⟩
  have N1 : Hid (NxAt w.heap.size w ((w1.alloc (.cells #[.pointer (some ⟨c, 0, none⟩), .slice none 0 0] 153))) w1.heap.size c a2 len cap2 l 0 0 (.slice none 0 0) []) := by
    have ba := balloc (Below.refl w1.heap.size w1) (.cells #[.pointer (some ⟨c, 0, none⟩), .slice none 0 0] 153)
    exact ⟨Row.new _ _ _, hc.below ba, own_below hw ba, World.ownsRow_nil _ _ _ _, fun o ho => (by cases ho), bthen hb ba, hc1, hb.size⟩
  clear hc hb hc1 hc2 hw
  go_wp2_with fail
  generalize w1.alloc (.cells #[.pointer (some ⟨c, 0, none⟩), .slice none 0 0] 153) = ws at *
  generalize w1.heap.size = p at *
  go_loopg [] (mz 0 len 0) (fun g wr => ∃ at2 er2 gv L, g = mz er2 len at2 ∧ L.length ≤ 16 ∧ Hid (NxAt w.heap.size w wr p c a2 len cap2 l at2 er2 gv L) ∧ Hid (DecAt l at2 er2 L))
  case atStart => exact ⟨0, 0, _, [], rfl, by simp, N1.out, fun _ => by simp [pos], fun e => absurd rfl e⟩
  case round =>
    obtain ⟨at2, er2, gv, L, hg, hL16, hN, hD⟩ := hrel
    have HG := hid hg
    have HL16 := hid hL16
    have r0 := hN.out.r.cell 0
    simp only [List.getElem?_toArray, List.getElem?_cons_zero] at r0
    have e0 := hN.out.cur.cell2
    clear hg hL16 N1
    by_cases her : er2 = 0
    · subst her
      by_cases hat : at2 < len
      · have hat1 : decide ((0 : Int) < (len : Int) - at2) = true := decide_eq_true (by omega)
        have HAt := hid hat
        clear hat
        go_wp2_with fail
        refine (err_any _ c 0 e0).mono ?_
        rintro e w2 ⟨rfl, rfl⟩
        go_wp2_with fail
        refine (left_any _ c a2 len cap2 at2 l 0 hN.out.cur).mono ?_
        rintro e w3 ⟨rfl, q, rfl⟩
        have r1 : (w2.drewN q).cell? ⟨p, 0, none⟩ = _ := r0
        have HNq := hid (hN.out.drewN q)
        generalize w2.drewN q = w4 at *
        go_wp2_with fail
        refine (next_any (B := B) w w4 p c a2 len cap2 l at2 gv L HNq.out (HV.out.rd (Below.refl _ _) HNq.out.below hB.out HNq.out.size) hB.out HAt.out HL16.out).mono ?_
        rintro e w5 ⟨rfl, hx⟩
        obtain ⟨at3, er3, gv3, L3, h1, h2, h3, h4⟩ := hx.out
        go_wp2_with fail
        go_roundg (mz er3 len at3)
        case measure =>
          rw [HG.out, mz, mz, if_pos rfl]
          have := h1.cur.le
          have := nxN_pos (l.drop at2)
          split
          · rename_i e; have := (h4 e).2; have := HAt.out; omega
          · omega
        case rel => exact ⟨at3, er3, gv3, L3, rfl, h3, h1, hD.out.next (by rw [HLl.out]; exact HAt.out) h2 h4⟩
      · have hle := hN.out.cur.le
        have hat1 : decide ((0 : Int) < (len : Int) - at2) = false := decide_eq_false (by omega)
        have hat2 : decide (at2 < len) = false := decide_eq_false hat
        have HAt : Hid (at2 = len) := by rw [Hid]; omega
        clear hat hle
        obtain ⟨ga, gc, rfl⟩ := owns_len hN.out.got
        go_wp2_with fail
        refine (err_any _ c 0 e0).mono ?_
        rintro e w2 ⟨rfl, rfl⟩
        go_wp2_with fail
        refine (left_any _ c a2 len cap2 at2 l 0 hN.out.cur).mono ?_
        rintro e w3 ⟨rfl, q, rfl⟩
        have r1 : (w2.drewN q).cell? ⟨p, 0, none⟩ = _ := r0
        have e1 : (w2.drewN q).cell? ⟨c, 2, none⟩ = _ := e0
        have HNq := hid (hN.out.drewN q)
        generalize w2.drewN q = w4 at *
        go_wp2_with fail
        refine (err_any _ c 0 e1).mono ?_
        rintro e w2 ⟨rfl, rfl⟩
        have r2 := HNq.out.r.cell 1
        simp only [List.getElem?_toArray, List.getElem?_cons_zero, List.getElem?_cons_succ] at r2
        go_wp2_with fail
        go_returns
        have hd : dec 0 l = (pos L, 0) := by
          have := hD.out.1 rfl
          rw [HAt.out, List.drop_of_length_le (by rw [HLl.out]; exact Nat.le_refl _), dec_nil] at this
          simpa using this
        refine ⟨.slice ga L.length gc, L, by rw [hd]; rfl, HNq.out.below, HNq.out.got, HNq.out.own, by rw [hd]; simp, HL16.out⟩
    · have he1 : (er2 == 0) = false := by simp [her]
      have he2 : (er2 != 0) = true := by rw [bne_iff_ne]; exact her
      have HER := hid her
      clear her
      go_wp2_with fail
      refine (err_any _ c er2 e0).mono ?_
      rintro e w2 ⟨rfl, rfl⟩
      go_wp2_with fail
      refine (err_any _ c er2 e0).mono ?_
      rintro e w2 ⟨rfl, rfl⟩
      go_wp2_with fail
      go_returns
      have hd := hD.out.2 HER.out
      refine ⟨.slice none 0 0, [], by rw [hd]; rfl, hN.out.below, World.ownsRow_nil _ _ _ _, fun o ho => (by cases ho), by rw [hd, if_neg HER.out]; rfl, by simp⟩
end Go.Proofs.YtbfjkhafdkhhmaaDoor

namespace Go.Proofs.YtbfjkhafdkhhmaaDoor
open Go.ChangeShapes Go.WideShapes Go.ChangeAt Go.RowKit Go.Deep
set_option linter.unusedVariables false
set_option linter.unusedSimpArgs false

theorem lit_own (w : World) (cs : Array Value) (e : TypeId) (n : Nat) (h : cs.size = n) (hm : n ≤ 100) : (w.alloc (.cells cs e)).ownsRow w.heap.size e 1 (.slice (some ⟨w.heap.size, 0, none⟩) n n) n cs.toList :=
  ⟨by simp [h], .inr ⟨w.heap.size, n, cs, rfl, Nat.le_refl _, heap_alloc_new w _, Nat.le_refl _, by unfold maxLen; omega, by simp [h], by rw [Nat.mul_one]; exact List.take_of_length_le (by simp [h])⟩⟩
/-- copy(a[:], ..) of a whole address, as one step of a region that draws its order. -/
theorem step_copy16 {ops : Array Oper} {op : Oper} {a : Act} {w : World} {K : Act → World → Prop} {Q : Exit → Act → World → Prop} {E : Prop} (hgd : op.guard = none) (d s : Operand)
    (hop : op.op = .call { callee := .builtin .copy, args := #[d, s], argTypes := #[33, 33] }) (g dCap sCap : Nat) (sp : Option Addr) (hd : a.eval d = .slice (some ⟨g, 0, none⟩) 16 dCap) (hs : a.eval s = .slice sp 16 sCap)
    {l0 : List Int} (hr : Row w g 26 (arr l0)) (F : List Int) (hl : Lies .u8 w sp 16 sCap F) (h0 : l0.length = 16)
    (h : K (a.put op.dst (goInt 16)) (w.setRow g (arr F))) :
    if Region.wanted op (yielded ops a.tmps) = true then Oper.wp Tryd.prog op a w K Q else E := by
  have hw : Region.wanted op (yielded ops a.tmps) = true := by simp [Region.wanted, hgd]
  rw [if_pos hw]
  have hF : F.length = 16 := hl.1
  have l2 : (u8s F).length = 16 := by rw [u8s_len, hF]
  obtain ⟨b, off, e, _⟩ := hl.2.2.2.2 0 (by omega)
  subst e
  have hrun := run_copy_row (P := Tryd.prog) w 33 33 op.type 5 g 0 16 dCap ⟨b, off, none⟩ 16 sCap (arr l0) 26 (u8s F) Tryd.underlying33 (by kernel_rfl) hr (by rw [l2]; rfl) (hl.cells _ rfl) (by rw [l2, arr_size, h0]; decide) (ints_oneCell8 F .u8)
  have e2 : ((arr l0).toList.take 0 ++ (u8s F ++ (arr l0).toList.drop (0 + (u8s F).length))).toArray = arr F := by
    rw [l2, List.take_zero, List.nil_append, List.drop_of_length_le (by rw [Array.length_toList, arr_size, h0]; decide), List.append_nil]; rfl
  first
    | rw [e2, l2] at hrun
    | (rw [List.append_assoc, e2, l2] at hrun)
  unfold Oper.wp
  simp [execOp, hop, resolve, invoke, builtin, hd, hs, hrun, Result.andThen]
  exact h
theorem step_copy0 {ops : Array Oper} {op : Oper} {a : Act} {w : World} {K : Act → World → Prop} {Q : Exit → Act → World → Prop} {E : Prop} (hgd : op.guard = none) (d s : Operand)
    (hop : op.op = .call { callee := .builtin .copy, args := #[d, s], argTypes := #[33, 33] }) (dp sp : Option Addr) (dLen dCap sCap : Nat) (hd : a.eval d = .slice dp dLen dCap) (hs : a.eval s = .slice sp 0 sCap)
    (h : K (a.put op.dst (goInt 0)) w) :
    if Region.wanted op (yielded ops a.tmps) = true then Oper.wp Tryd.prog op a w K Q else E := by
  have hw : Region.wanted op (yielded ops a.tmps) = true := by simp [Region.wanted, hgd]
  rw [if_pos hw]
  have hrun := run_copy_none (P := Tryd.prog) w 33 33 op.type 5 dp sp dLen dCap 0 sCap Tryd.underlying33 (by kernel_rfl) (by simp)
  unfold Oper.wp
  simp [execOp, hop, resolve, invoke, builtin, hd, hs, hrun, Result.andThen]
  exact h
theorem st26 {ops : Array Oper} {rest : List Oper} {o : Oper} {a : Act} {w : World} {Q : Exit → Act → World → Prop} (x y : Operand) (ho : o.op = .store 26 x y) (hgd : o.guard = none) (g : Nat) (l : List Int) (hl : l.length = 16) (hx : a.eval x = .pointer (some ⟨g, 0, none⟩)) (hy : a.eval y = .agg (arr l)) (t' : TypeId) (old : List Int) (hlo : old.length = 16) (hg : Row w g t' (arr old))
    (hn : wpList Tryd.prog ops Q rest (a.put o.dst undef) (w.setRow g (arr l))) : wpList Tryd.prog ops Q (o :: rest) a w :=
  wp_st 26 x y ho hgd g (arr l) hx hy (by rw [arr_size, hl]; exact size41) (arr_one _) t' (arr old) (by rw [arr_size, arr_size, hl, hlo]) hg hn
theorem res26 {fn : Func} {p : Tmp} (hf : fn.results = #[.cell p 26]) (tmps : Array Value) (w : World) (g : Nat) (t' : TypeId) (l : List Int) (hl : l.length = 16)
    (hp : tmps.getD p undef = .pointer (some ⟨g, 0, none⟩)) (hg : Row w g t' (arr l)) : (results fn tmps).run Tryd.prog w = .ok (.agg (arr l)) w :=
  results_cell_row hf tmps w g t' (arr l) (0, 0) _ hp hg Tryd.underlying26 rfl (by rw [arr_size, hl]; exact size41)
set_option maxRecDepth 100000 in
set_option maxHeartbeats 1600000 in
theorem address_yes (W w : World) (c : Nat) (a : Option Addr) (len cap : Nat) (l : List Int) (at_ : Nat) (er : Int) (h : DAt W w c a len cap l at_ er) (hE : rdE 1 16 (len - at_) er = 0) (F : List Int) (hF : F = (l.drop at_).take 16) (e2 : Int) (he2 : e2 = if F = zeros then spE 0 1 else 0) :
    Calls Tryd.prog 65 #[.agg #[.pointer (some ⟨c, 0, none⟩)]] w fun x w' => x = .returned (.agg (arr F)) ∧ Hid (DAt W w' c a len cap l (at_ + 16) e2) ∧ Hid (Oth c c w w') := by
  have hz := zarr
  have HE2 := hid he2
  clear he2
  have HF := hid hF
  have HN : Hid (rdN 1 16 (len - at_) er = 16) := by rw [Hid, rdN, if_pos hE]; rfl
  have HE : Hid (rdE 1 16 (len - at_) er = 0) := hE
  have HL16 : Hid (F.length = 16) := by
    rw [Hid, hF]
    have h1 := rdN_le 1 16 (len - at_) er
    have h2 := h.cur.lies.1
    rw [HN.out] at h1
    rw [List.length_take, List.length_drop]; omega
  have HAd : Hid (Adr F) := ⟨HL16.out, by rw [hF]; exact h.cur.oct.cut _ _⟩
  clear hE hF
  have hAd : Adr F := HAd.out
  have hq := eq41 F zeros hAd.1 adr_zeros.1
  have hcl : c < w.heap.size := h.cur.lt
  have hW : W.heap.size ≤ w.heap.size := h.below.size
  have R1 := hid (((Row.new w 83 #[.pointer (some ⟨c, 0, none⟩)]).alloc (.cells (arr zeros) 26)).alloc (.cells (arr zeros) 26))
  have Y1 := hid ((Row.new (w.alloc (.cells #[.pointer (some ⟨c, 0, none⟩)] 83)) 26 (arr zeros)).alloc (.cells (arr zeros) 26))
  have Z1 := hid (Row.new ((w.alloc (.cells #[.pointer (some ⟨c, 0, none⟩)] 83)).alloc (.cells (arr zeros) 26)) 26 (arr zeros))
  have B1 := hid (balloc (balloc (balloc (Below.refl w.heap.size w) (.cells #[.pointer (some ⟨c, 0, none⟩)] 83)) (.cells (arr zeros) 26)) (.cells (arr zeros) 26))
  have hs1 : (w.alloc (.cells #[.pointer (some ⟨c, 0, none⟩)] 83)).heap.size = w.heap.size + 1 := World.size_alloc ..
  have hs2 : ((w.alloc (.cells #[.pointer (some ⟨c, 0, none⟩)] 83)).alloc (.cells (arr zeros) 26)).heap.size = w.heap.size + 2 := by rw [World.size_alloc, hs1]
  rw [hs1] at Y1
  rw [hs2] at Z1
  have H1 := hid (h.on B1.out)
  have T1 : Hid (Oth c c w _) := hid (Oth.below B1.out)
  clear h
  go_enter Tryd.func65, Tryd.ntmps65
  go_upto_region 2 with fail
  generalize ((w.alloc (.cells #[.pointer (some ⟨c, 0, none⟩)] 83)).alloc (.cells (arr zeros) 26)).alloc (.cells (arr zeros) 26) = w1 at *
  have H1 : Hid (DAt W w1.drew c a len cap l at_ er) := hid (H1.out.on (bdrew (Below.refl _ _) 1))
  have T1 : Hid (Oth c c w w1.drew) := hid (T1.out.trans (Oth.below (bdrew (Below.refl _ _) 1)))
  have R1 : Hid (Row w1.drew w.heap.size 83 #[.pointer (some ⟨c, 0, none⟩)]) := R1
  have Y1 : Hid (Row w1.drew (w.heap.size + 1) 26 (arr zeros)) := Y1
  have Z1 : Hid (Row w1.drew (w.heap.size + 2) 26 (arr zeros)) := Z1
  generalize hg1 : w.heap.size = g1 at *
  clear hs1 hs2 hz B1
  refine wp_region_held_drew (S := fun w' => w'.cell? ⟨g1, 0, none⟩ = some (.pointer (some ⟨c, 0, none⟩)) ∧ Hid (Row w' g1 83 #[.pointer (some ⟨c, 0, none⟩)])) (by kernel_rfl) ?_ (fun hHeld => ?_)
  · exact ⟨(R1.out.cell 0).trans rfl, R1.out⟩
  refine wpAnyH_take (i := 0) (oi := _) (v := ?va0) rfl (by kernel_rfl) (by kernel_rfl) (by kernel_rfl) (fun _ _ _ h => h) (Or.inl ⟨by rfl, ?hya0⟩) (by assumption) ?resta0
  case hya0 => (intro w hSw; (try dsimp only at hSw); go_split_ands; go_simp; try (with_reducible rfl))
  try simp only [List.getElem_toArray, List.getElem_cons_zero, List.getElem_cons_succ, Act.put, List.setIfInBounds_toArray, List.set_cons_zero, List.set_cons_succ]
  refine wpAnyH_take (i := 1) (oi := _) (v := ?va1) rfl (by kernel_rfl) (by kernel_rfl) (by kernel_rfl) (fun _ _ _ h => h) (Or.inl ⟨by rfl, ?hya1⟩) (by assumption) ?resta1
  case hya1 => (intro w hSw; (try dsimp only at hSw); go_split_ands; go_simp; try (with_reducible rfl))
  try simp only [List.getElem_toArray, List.getElem_cons_zero, List.getElem_cons_succ, Act.put, List.setIfInBounds_toArray, List.set_cons_zero, List.set_cons_succ]
  refine wpAnyH_take (i := 2) (oi := _) (v := ?va2) rfl (by kernel_rfl) (by kernel_rfl) (by kernel_rfl) (fun _ _ _ h => h) (Or.inl ⟨by rfl, ?hya2⟩) (by assumption) ?resta2
  case hya2 => (intro w hSw; (try dsimp only at hSw); go_split_ands; go_simp; try (with_reducible rfl))
  try simp only [List.getElem_toArray, List.getElem_cons_zero, List.getElem_cons_succ, Act.put, List.setIfInBounds_toArray, List.set_cons_zero, List.set_cons_succ]
  refine wpAnyH_ready (rs := [3]) (by kernel_rfl) (by simp) ?_
  refine AllReadyH.cons (o := _) rfl (fun K hK => ?_) AllReadyH.nil
  go_simp
  refine (bytes_any _ c a len cap at_ l er 16 H1.out.cur).mono ?_
  rintro e w2 ⟨v2, rfl, hown2, hc2, hg2⟩
  have H2 := hid (H1.out.step hc2 hg2)
  have T2 := hid (T1.out.trans (Oth.grown hg2 (.inl rfl)))
  rw [HN.out, HE.out] at H2
  have R2 := hid (R1.out.kept hg2 (fun e => by have := Option.some.inj e; omega))
  have Y2 := hid (Y1.out.kept hg2 (fun e => by have := Option.some.inj e; omega))
  have Z2 := hid (Z1.out.kept hg2 (fun e => by have := Option.some.inj e; omega))
  rw [HN.out] at hown2
  obtain ⟨va, vc, rfl⟩ := owns_len hown2
  have O2 := hid hown2
  clear hc2 hg2 hown2 H1 R1 Y1 Z1
  go_wp2_with fail
  refine hK.out _ _ ⟨(R2.out.cell 0).trans rfl, R2.out⟩ (fun hHeld => ?_)
  clear hK K
  try simp only [List.getElem_toArray, List.getElem_cons_zero, List.getElem_cons_succ, Act.put, List.setIfInBounds_toArray, List.set_cons_zero, List.set_cons_succ]
  refine wpAnyH_ready (rs := [4]) (by kernel_rfl) (by simp) ?_
  refine AllReadyH.cons (o := _) rfl (fun K hK => ?_) AllReadyH.nil
  have T3 := hid (T2.out.new (grownBy_setRow w2 (g1 + 2) (arr F)) (by omega))
  have hL2 : Lies .u8 w2 va 16 vc F := lies_own HL16.out (by rw [HF.out]; exact O2.out)
  refine step_copy16 rfl _ _ rfl (g1 + 2) _ _ va rfl rfl Z2.out F hL2 rfl ?_
  have H3 : Hid (DAt W (w2.setRow (g1 + 2) (arr F)) c a len cap l (at_ + 16) 0) := hid (H2.out.other Z2.out (by decide) (by omega) (by omega) (grownBy_setRow ..))
  have R3 := hid (R2.out.rowOther (g1 + 2) (arr F) (by omega))
  have Y3 := hid (Y2.out.rowOther (g1 + 2) (arr F) (by omega))
  have Z3 := hid (Z2.out.setRow (arr F))
  generalize w2.setRow (g1 + 2) (arr F) = w3 at *
  refine hK.out _ _ ⟨(R3.out.cell 0).trans rfl, R3.out⟩ (fun hHeld => ?_)
  clear hK K
  try simp only [List.getElem_toArray, List.getElem_cons_zero, List.getElem_cons_succ, Act.put, List.setIfInBounds_toArray, List.set_cons_zero, List.set_cons_succ]
  refine wpAnyH_done (by kernel_rfl) ?_ _
  have r0 := (R3.out.cell 0).trans rfl
  have HZ3 := Z3
  by_cases hzz : F = zeros
  · subst hzz
    have e0 : (zeros == zeros) = true := by simp
    rw [e0] at hq
    clear e0
    go_wp2_with (first | (with_reducible refine wpl_id ?_; refine ld41 _ rfl rfl _ _ rfl zeros HAd.out HZ3.out.part ?_) | (with_reducible refine wpl_id ?_; refine bd41 rfl rfl ?_))
    refine (spoil_spE _ c a len cap _ l _ 1 H3.out.cur).mono ?_
    rintro e w4 ⟨rfl, hc4, hg4, _⟩
    have H4 := hid (H3.out.step hc4 hg4)
    have T4 := hid (T3.out.trans (Oth.grown hg4 (.inl rfl)))
    have Y4 := hid (Y3.out.kept hg4 (fun e => by have := Option.some.inj e; omega))
    have Z4 := hid (HZ3.out.kept hg4 (fun e => by have := Option.some.inj e; omega))
    clear hc4 hg4
    have H5 := hid (H4.out.other Y4.out (by decide) (by omega) (by omega) (grownBy_setRow w4 (g1 + 1) (arr zeros)))
    have Y5 := hid (Y4.out.setRow (arr zeros))
    have T5 := hid (T4.out.new (grownBy_setRow w4 (g1 + 1) (arr zeros)) (by omega))
    go_wp2_with (first | (with_reducible refine wpl_id ?_; refine ld41 _ rfl rfl _ _ rfl zeros HAd.out Z4.out.part ?_) | ((with_reducible refine wpl_id ?_); refine st26 _ _ rfl rfl (g1 + 1) zeros HAd.out.1 rfl rfl 26 zeros rfl Y4.out ?_))
    refine bodyPost_ret (res26 rfl _ _ (g1 + 1) 26 zeros HAd.out.1 rfl Y5.out) rfl ⟨rfl, ?_, T5⟩
    rw [HE2.out]; simp only [if_true]; exact H5
  · have HZ := hid hzz
    have e0 : (F == zeros) = false := by simp [hzz]
    rw [e0] at hq
    clear hzz e0
    have H5 := hid (H3.out.other Y3.out (by decide) (by omega) (by omega) (grownBy_setRow w3 (g1 + 1) (arr F)))
    have Y5 := hid (Y3.out.setRow (arr F))
    have T5 := hid (T3.out.new (grownBy_setRow w3 (g1 + 1) (arr F)) (by omega))
    go_wp2_with (first | (with_reducible refine wpl_id ?_; refine ld41 _ rfl rfl _ _ rfl F HAd.out HZ3.out.part ?_) | (with_reducible refine wpl_id ?_; refine bd41 rfl rfl ?_) | ((with_reducible refine wpl_id ?_); refine st26 _ _ rfl rfl (g1 + 1) F HAd.out.1 rfl rfl 26 zeros rfl Y3.out ?_))
    refine bodyPost_ret (res26 rfl _ _ (g1 + 1) 26 F HAd.out.1 rfl Y5.out) rfl ⟨rfl, ?_, T5⟩
    rw [HE2.out, if_neg HZ.out]; exact H5
set_option maxRecDepth 100000 in
set_option maxHeartbeats 1600000 in
theorem address_no (W w : World) (c : Nat) (a : Option Addr) (len cap : Nat) (l : List Int) (at_ : Nat) (er : Int) (h : DAt W w c a len cap l at_ er) (e1 : Int) (hE : rdE 1 16 (len - at_) er = e1) (he : e1 ≠ 0) (e2 : Int) (he2 : e2 = if zeros = zeros then spE e1 1 else e1) :
    Calls Tryd.prog 65 #[.agg #[.pointer (some ⟨c, 0, none⟩)]] w fun x w' => x = .returned (.agg (arr zeros)) ∧ Hid (DAt W w' c a len cap l (at_ + 0) e2) ∧ Hid (Oth c c w w') := by
  have hz := zarr
  have HE2 := hid he2
  clear he2
  have HN : Hid (rdN 1 16 (len - at_) er = 0) := by rw [Hid, rdN, hE, if_neg he]
  have HE : Hid (rdE 1 16 (len - at_) er = e1) := hE
  have HAd : Hid (Adr zeros) := adr_zeros
  clear hE he
  have hAd : Adr zeros := HAd.out
  have hq := eq41 zeros zeros hAd.1 adr_zeros.1
  have hcl : c < w.heap.size := h.cur.lt
  have hW : W.heap.size ≤ w.heap.size := h.below.size
  have R1 := hid (((Row.new w 83 #[.pointer (some ⟨c, 0, none⟩)]).alloc (.cells (arr zeros) 26)).alloc (.cells (arr zeros) 26))
  have Y1 := hid ((Row.new (w.alloc (.cells #[.pointer (some ⟨c, 0, none⟩)] 83)) 26 (arr zeros)).alloc (.cells (arr zeros) 26))
  have Z1 := hid (Row.new ((w.alloc (.cells #[.pointer (some ⟨c, 0, none⟩)] 83)).alloc (.cells (arr zeros) 26)) 26 (arr zeros))
  have B1 := hid (balloc (balloc (balloc (Below.refl w.heap.size w) (.cells #[.pointer (some ⟨c, 0, none⟩)] 83)) (.cells (arr zeros) 26)) (.cells (arr zeros) 26))
  have hs1 : (w.alloc (.cells #[.pointer (some ⟨c, 0, none⟩)] 83)).heap.size = w.heap.size + 1 := World.size_alloc ..
  have hs2 : ((w.alloc (.cells #[.pointer (some ⟨c, 0, none⟩)] 83)).alloc (.cells (arr zeros) 26)).heap.size = w.heap.size + 2 := by rw [World.size_alloc, hs1]
  rw [hs1] at Y1
  rw [hs2] at Z1
  have H1 := hid (h.on B1.out)
  have T1 : Hid (Oth c c w _) := hid (Oth.below B1.out)
  clear h
  go_enter Tryd.func65, Tryd.ntmps65
  go_upto_region 2 with fail
  generalize ((w.alloc (.cells #[.pointer (some ⟨c, 0, none⟩)] 83)).alloc (.cells (arr zeros) 26)).alloc (.cells (arr zeros) 26) = w1 at *
  have H1 : Hid (DAt W w1.drew c a len cap l at_ er) := hid (H1.out.on (bdrew (Below.refl _ _) 1))
  have T1 : Hid (Oth c c w w1.drew) := hid (T1.out.trans (Oth.below (bdrew (Below.refl _ _) 1)))
  have R1 : Hid (Row w1.drew w.heap.size 83 #[.pointer (some ⟨c, 0, none⟩)]) := R1
  have Y1 : Hid (Row w1.drew (w.heap.size + 1) 26 (arr zeros)) := Y1
  have Z1 : Hid (Row w1.drew (w.heap.size + 2) 26 (arr zeros)) := Z1
  generalize hg1 : w.heap.size = g1 at *
  clear hs1 hs2 hz B1
  refine wp_region_held_drew (S := fun w' => w'.cell? ⟨g1, 0, none⟩ = some (.pointer (some ⟨c, 0, none⟩)) ∧ Hid (Row w' g1 83 #[.pointer (some ⟨c, 0, none⟩)])) (by kernel_rfl) ?_ (fun hHeld => ?_)
  · exact ⟨(R1.out.cell 0).trans rfl, R1.out⟩
  refine wpAnyH_take (i := 0) (oi := _) (v := ?va0) rfl (by kernel_rfl) (by kernel_rfl) (by kernel_rfl) (fun _ _ _ h => h) (Or.inl ⟨by rfl, ?hya0⟩) (by assumption) ?resta0
  case hya0 => (intro w hSw; (try dsimp only at hSw); go_split_ands; go_simp; try (with_reducible rfl))
  try simp only [List.getElem_toArray, List.getElem_cons_zero, List.getElem_cons_succ, Act.put, List.setIfInBounds_toArray, List.set_cons_zero, List.set_cons_succ]
  refine wpAnyH_take (i := 1) (oi := _) (v := ?va1) rfl (by kernel_rfl) (by kernel_rfl) (by kernel_rfl) (fun _ _ _ h => h) (Or.inl ⟨by rfl, ?hya1⟩) (by assumption) ?resta1
  case hya1 => (intro w hSw; (try dsimp only at hSw); go_split_ands; go_simp; try (with_reducible rfl))
  try simp only [List.getElem_toArray, List.getElem_cons_zero, List.getElem_cons_succ, Act.put, List.setIfInBounds_toArray, List.set_cons_zero, List.set_cons_succ]
  refine wpAnyH_take (i := 2) (oi := _) (v := ?va2) rfl (by kernel_rfl) (by kernel_rfl) (by kernel_rfl) (fun _ _ _ h => h) (Or.inl ⟨by rfl, ?hya2⟩) (by assumption) ?resta2
  case hya2 => (intro w hSw; (try dsimp only at hSw); go_split_ands; go_simp; try (with_reducible rfl))
  try simp only [List.getElem_toArray, List.getElem_cons_zero, List.getElem_cons_succ, Act.put, List.setIfInBounds_toArray, List.set_cons_zero, List.set_cons_succ]
  refine wpAnyH_ready (rs := [3]) (by kernel_rfl) (by simp) ?_
  refine AllReadyH.cons (o := _) rfl (fun K hK => ?_) AllReadyH.nil
  go_simp
  refine (bytes_any _ c a len cap at_ l er 16 H1.out.cur).mono ?_
  rintro e w2 ⟨v2, rfl, hown2, hc2, hg2⟩
  have H2 := hid (H1.out.step hc2 hg2)
  have T2 := hid (T1.out.trans (Oth.grown hg2 (.inl rfl)))
  rw [HN.out, HE.out] at H2
  have R2 := hid (R1.out.kept hg2 (fun e => by have := Option.some.inj e; omega))
  have Y2 := hid (Y1.out.kept hg2 (fun e => by have := Option.some.inj e; omega))
  have Z2 := hid (Z1.out.kept hg2 (fun e => by have := Option.some.inj e; omega))
  rw [HN.out] at hown2
  obtain ⟨va, vc, rfl⟩ := owns_len hown2
  have O2 := hid hown2
  clear hc2 hg2 hown2 H1 R1 Y1 Z1
  go_wp2_with fail
  refine hK.out _ _ ⟨(R2.out.cell 0).trans rfl, R2.out⟩ (fun hHeld => ?_)
  clear hK K
  try simp only [List.getElem_toArray, List.getElem_cons_zero, List.getElem_cons_succ, Act.put, List.setIfInBounds_toArray, List.set_cons_zero, List.set_cons_succ]
  refine wpAnyH_ready (rs := [4]) (by kernel_rfl) (by simp) ?_
  refine AllReadyH.cons (o := _) rfl (fun K hK => ?_) AllReadyH.nil
  have T3 := T2
  refine step_copy0 rfl _ _ rfl _ _ _ _ _ rfl rfl ?_
  have H3 := H2
  have R3 := R2
  have Y3 := Y2
  have Z3 := Z2
  generalize w2 = w3 at *
  refine hK.out _ _ ⟨(R3.out.cell 0).trans rfl, R3.out⟩ (fun hHeld => ?_)
  clear hK K
  try simp only [List.getElem_toArray, List.getElem_cons_zero, List.getElem_cons_succ, Act.put, List.setIfInBounds_toArray, List.set_cons_zero, List.set_cons_succ]
  refine wpAnyH_done (by kernel_rfl) ?_ _
  have r0 := (R3.out.cell 0).trans rfl
  have HZ3 := Z3
  · have e0 : (zeros == zeros) = true := by simp
    rw [e0] at hq
    clear e0
    go_wp2_with (first | (with_reducible refine wpl_id ?_; refine ld41 _ rfl rfl _ _ rfl zeros HAd.out HZ3.out.part ?_) | (with_reducible refine wpl_id ?_; refine bd41 rfl rfl ?_))
    refine (spoil_spE _ c a len cap _ l _ 1 H3.out.cur).mono ?_
    rintro e w4 ⟨rfl, hc4, hg4, _⟩
    have H4 := hid (H3.out.step hc4 hg4)
    have T4 := hid (T3.out.trans (Oth.grown hg4 (.inl rfl)))
    have Y4 := hid (Y3.out.kept hg4 (fun e => by have := Option.some.inj e; omega))
    have Z4 := hid (HZ3.out.kept hg4 (fun e => by have := Option.some.inj e; omega))
    clear hc4 hg4
    have H5 := hid (H4.out.other Y4.out (by decide) (by omega) (by omega) (grownBy_setRow w4 (g1 + 1) (arr zeros)))
    have Y5 := hid (Y4.out.setRow (arr zeros))
    have T5 := hid (T4.out.new (grownBy_setRow w4 (g1 + 1) (arr zeros)) (by omega))
    go_wp2_with (first | (with_reducible refine wpl_id ?_; refine ld41 _ rfl rfl _ _ rfl zeros HAd.out Z4.out.part ?_) | ((with_reducible refine wpl_id ?_); refine st26 _ _ rfl rfl (g1 + 1) zeros HAd.out.1 rfl rfl 26 zeros rfl Y4.out ?_))
    refine bodyPost_ret (res26 rfl _ _ (g1 + 1) 26 zeros HAd.out.1 rfl Y5.out) rfl ⟨rfl, ?_, T5⟩
    rw [HE2.out]; simp only [if_true]; exact H5
end Go.Proofs.YtbfjkhafdkhhmaaDoor
