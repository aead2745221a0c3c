/- Appends of options and of guarded bytes; the first ones of options; what is joined. · What a chain makes: Check, Encode. -/
import Derived.Test.YtbfjkhafdkhhmaaDoorM10
namespace Go.Proofs.YtbfjkhafdkhhmaaDoor
open Go.ChangeShapes Go.WideShapes Go.ChangeAt Go.RowKit Go.Deep
set_option linter.unusedVariables false
set_option linter.unusedSimpArgs false

theorem Opts.pre {w : World} {a : Option Addr} {n cap : Nat} {L : List Ov} (h : Opts w a n cap L) (m : Nat) (hm : m ≤ n) : Opts w a m cap (L.take m) := by
  refine ⟨by rw [List.length_take, h.len]; omega, Nat.le_trans hm h.le, h.max, h.isNil, fun k hk => ?_, fun o ho => h.ok o (List.mem_of_mem_take ho)⟩
  obtain ⟨b, off, he, hc⟩ := h.cell k (by omega)
  refine ⟨b, off, he, ?_⟩
  have : (L.take m).getD k Ov.zero = L.getD k Ov.zero := by simp [List.getD, List.getElem?_take, hk]
  rw [this]; exact hc
theorem Opts.cells {w : World} {a : Option Addr} {n cap : Nat} {L : List Ov} (h : Opts w a n cap L) : ∀ ad, a = some ad → ∀ j u, (ocs L)[j]? = some u → w.cell? (ad.add j) = some u := by
  intro ad ha j u hj
  have had : ∀ o ∈ L, Adr o.ad := fun o ho => (h.ok o ho).ad
  have hlen := ocs_length had
  have hj' : j < L.length * 19 := by have := (List.getElem?_eq_some_iff.1 hj).1; omega
  have hk : j / 19 < L.length := by omega
  obtain ⟨b, off, he, hc⟩ := h.cell (j / 19) (by rw [← h.len]; exact hk)
  rw [ha] at he
  obtain rfl := Option.some.inj he
  have hm : j % 19 < 19 := Nat.mod_lt _ (by decide)
  have e : j = j / 19 * 19 + j % 19 := by omega
  rw [Addr.add_lit, e, ← Nat.add_assoc]
  refine hc (j % 19) u ?_
  rw [← ocs_at had (j / 19) hk (j % 19) hm, ← e]; exact hj
/-- Options that lie somewhere, behind a row of the call's own. -/
theorem wpList_appO {ops : Array Oper} {rest : List Oper} {o : Oper} {a : Act} {Q : Exit → Act → World → Prop} {w : World} {base n m cap : Nat} {v : Value} {xs l : List Ov} {ao : Option Addr} {ts t : TypeId} (hT : ST ts t) (hgd : o.guard = none) (s x : Operand)
    (ho : o.op = .call { callee := .builtin .append, args := #[s, x], argTypes := #[ts, ts] }) (hs : a.eval s = v) (hx : a.eval x = .slice ao m cap)
    (hown : w.ownsRow base t 19 v n (ocs xs)) (hl : Opts w ao m cap l) (hb : base ≤ w.heap.size) (hm : n + m ≤ 200000)
    (h : ∀ v' w', w'.ownsRow base t 19 v' (n + m) (ocs (xs ++ l)) → Below base w w' → wpList Tryd.prog ops Q rest (a.put o.dst v') w') :
    wpList Tryd.prog ops Q (o :: rest) a w := by
  obtain ⟨i0, hi, hz0, hz1, hz2⟩ := info_parts hT.ot.zero
  refine wpList_append_own_any w hgd s x ts ho base t i0 _ 19 72 hT.und hi hz0 hz1 hz2 cells_zero (by decide) v n _ hs hown ao m cap (ocs l) hx (by rw [ocs_length (fun o ho => (hl.ok o ho).ad), hl.len]) (fun ha => by have h1 := hl.isNil ha; have := hl.le; omega) (fun ad had => hl.cells ad had) (ocs_one l) (by unfold maxLen; omega) (by omega) hb ?_
  intro v' w' h2 h3
  exact h v' w' (by rw [ocs_app]; exact h2) h3
/-- Bytes that lie somewhere, behind a row of the call's own, guarded. -/
theorem wpList_appBg {ops : Array Oper} {rest : List Oper} {o : Oper} {a : Act} {Q : Exit → Act → World → Prop} {w : World} {base n m cap : Nat} {v : Value} {xs l : List Int} {ao : Option Addr} (hw : Region.wanted o (yielded ops a.tmps) = true) (s x : Operand)
    (ho : o.op = .call { callee := .builtin .append, args := #[s, x], argTypes := #[33, 33] }) (hs : a.eval s = v) (hx : a.eval x = .slice ao m cap)
    (hown : w.ownsRow base 5 1 v n (u8s xs)) (hl : Lies .u8 w ao m cap l) (hb : base ≤ w.heap.size) (hm : n + m ≤ 200000)
    (h : ∀ v' w', w'.ownsRow base 5 1 v' (n + m) (u8s (xs ++ l)) → Below base w w' → wpList Tryd.prog ops Q rest (a.put o.dst v') w') :
    wpList Tryd.prog ops Q (o :: rest) a w := by
  obtain ⟨ie, hi, hz, hz1, hz2⟩ := info_parts info5
  refine wpList_step fun K hK => ?_
  rw [if_pos hw]
  cases ao with
  | some ad =>
    refine wp_append_own w s x 33 ho base 5 ie _ 1 1 Tryd.underlying33 hi hz hz1 hz2 rfl (by decide) v n _ hs hown ad m cap (l.map (Value.int .u8)) hx (by rw [List.length_map, hl.1]; omega) (hl.cells ad rfl) (ints_oneCell8 l .u8) (by unfold maxLen; omega) (by omega) hb ?_
    intro v' w' h2 h3 _
    exact hK _ _ (h v' w' (by rw [u8s, List.map_append]; exact h2) (Below.grown (Below.refl _ _) h3 hb (fun k hk => (hown.lt k hk).1)))
  | none =>
    obtain ⟨rfl, rfl⟩ := hl.isNil rfl
    have hn : l = [] := List.eq_nil_of_length_eq_zero hl.1
    subst hn
    have hrun := run_append_owned_none (P := Tryd.prog) (w := w) base 33 o.type 5 ie 1 Tryd.underlying33 hi v n _ hown
    unfold Oper.wp
    simp [execOp, ho, resolve, invoke, builtin, hs, hx, hrun, Result.andThen]
    exact hK _ _ (h v w (by simpa using hown) (Below.refl _ _))
theorem encE_small (P : List Po) (h : P.length ≤ 16) : encE P = if bad P ≠ 0 then bad P else if 1280 < (encs P).length then 2 else 0 := by rw [encE, if_neg (by omega)]
theorem bad_ne (P : List Po) : bad P = 0 ∨ bad P ≠ 0 := by omega
/-- What is joined. -/
theorem joins_pure (P R : List Po) (hP : P.length ≤ 8) (hR : R.length ≤ 8) : (encE P ≠ 0 → encE (P ++ R) ≠ 0) ∧ (encE P = 0 → encE R ≠ 0 → encE (P ++ R) ≠ 0) ∧
    (encE P = 0 → encE R = 0 → (encE (P ++ R) = 2 ∧ 1280 < (encsL P).length + (encsL R).length) ∨ (encE (P ++ R) = 0 ∧ encsL (P ++ R) = encsL P ++ encsL R)) := by
  have h1 := encE_small P (by omega)
  have h2 := encE_small R (by omega)
  have h3 := encE_small (P ++ R) (by rw [List.length_append]; omega)
  have h4 : (encs (P ++ R)).length = (encs P).length + (encs R).length := by rw [encs_app, List.length_append]
  rcases bad_ne P with hb | hb
  · have hb2 := bad_app P R hb
    rw [hb2] at h3
    rw [if_neg (by omega)] at h1
    rcases bad_ne R with hc | hc
    · rw [if_neg (by omega)] at h2 h3
      rw [h4] at h3
      refine ⟨fun h => ?_, fun h h' => ?_, fun h h' => ?_⟩
      · have : 1280 < (encs P).length := by by_cases hl : 1280 < (encs P).length; exact hl; rw [if_neg hl] at h1; exact absurd h1 h
        rw [h3, if_pos (by omega)]; decide
      · have : 1280 < (encs R).length := by by_cases hl : 1280 < (encs R).length; exact hl; rw [if_neg hl] at h2; exact absurd h2 h'
        rw [h3, if_pos (by omega)]; decide
      · have e1 : encsL P = encs P := by rw [encsL, if_pos h]
        have e2 : encsL R = encs R := by rw [encsL, if_pos h']
        by_cases hl : 1280 < (encs P).length + (encs R).length
        · rw [if_pos hl] at h3
          exact .inl ⟨h3, by rw [e1, e2]; exact hl⟩
        · rw [if_neg hl] at h3
          exact .inr ⟨h3, by rw [encsL, if_pos h3, e1, e2, encs_app]⟩
    · rw [if_pos hc] at h2 h3
      refine ⟨fun _ => by rw [h3]; exact hc, fun _ _ => by rw [h3]; exact hc, fun _ h' => ?_⟩
      rw [h2] at h'; exact absurd h' hc
  · have hb2 := bad_app_no P R hb
    rw [hb2, if_pos hb] at h3
    rw [if_pos hb] at h1
    refine ⟨fun _ => by rw [h3]; exact hb, fun h => ?_, fun h => ?_⟩ <;> (rw [h1] at h; exact absurd h hb)
theorem encsL_le (P : List Po) : (encsL P).length ≤ 1280 := by
  unfold encsL
  split
  · rename_i h
    unfold encE at h
    split at h
    · omega
    · split at h
      · rename_i hb; exact absurd h hb
      · split at h
        · omega
        · omega
  · simp
end Go.Proofs.YtbfjkhafdkhhmaaDoor

namespace Go.Proofs.YtbfjkhafdkhhmaaDoor
open Go.ChangeShapes Go.WideShapes Go.ChangeAt Go.RowKit Go.Deep
set_option linter.unusedVariables false
set_option linter.unusedSimpArgs false

theorem wpList_appBy {ops : Array Oper} {rest : List Oper} {o : Oper} {a : Act} {Q : Exit → Act → World → Prop} {w : World} {base n m cap : Nat} {v : Value} {xs l : List Int} {ao : Option Addr} (hgd : o.guard = none) (s x : Operand)
    (ho : o.op = .call { callee := .builtin .append, args := #[s, x], argTypes := #[33, 33] }) (hs : a.eval s = v) (hx : a.eval x = .slice ao m cap)
    (hown : w.ownsRow base 5 1 v n (u8s xs)) (hl : Lies .u8 w ao m cap l) (hb : base ≤ w.heap.size) (hm : n + m ≤ 200000)
    (h : ∀ v' w', w'.ownsRow base 5 1 v' (n + m) (u8s (xs ++ l)) → w.grownBy w' v.ownBlock → wpList Tryd.prog ops Q rest (a.put o.dst v') w') :
    wpList Tryd.prog ops Q (o :: rest) a w := by
  obtain ⟨i0, hi, hz0, hz1, hz2⟩ := info_parts info5
  refine wpList_append_own_by w hgd s x 33 ho base 5 i0 (.int .u8 0) 1 1 Tryd.underlying33 hi hz0 hz1 hz2 rfl (by decide) v n _ hs hown ao m cap (u8s l) hx (by rw [u8s_len, hl.1]; omega) hl.isNil (fun ad had => hl.cells ad had) (ints_oneCell8 l .u8) (by unfold maxLen; omega) (by omega) hb ?_
  intro v' w' h2 h3
  exact h v' w' (by rw [u8s, List.map_append]; exact h2) h3
/-- A chain, and the bytes that it has made. -/
structure OutAt (W w : World) (c : Nat) (er : Int) (m : Mv) (va : Value) (l : List Int) : Prop where
  ch : ChAt W w c er m va
  out : w.ownsRow W.heap.size 5 1 va l.length (u8s l)
def addE (er e : Int) (n : Nat) : Int := if er = 0 then (if e ≠ 0 then e else if 1280 < n then 2 else 0) else er
def addL (er : Int) (l more : List Int) : List Int := if er = 0 then l ++ more else l
theorem own_setC {w : World} {b c n : Nat} {er : Int} {v va : Value} {xs : List Value} {m : Mv} (h : w.ownsRow b 5 1 v n xs) (hr : Row w c 72 (chc er m va)) (j : Nat) (x : Value) : (w.setCell ⟨c, j, none⟩ x).ownsRow b 5 1 v n xs :=
  h.kept (grownBy_setCell w c j x) (.inr (own_row h hr (by decide)))
theorem own_notW {w : World} {b c n : Nat} {er : Int} {v va : Value} {xs : List Value} {m : Mv} (h : w.ownsRow b 5 1 v n xs) (hr : Row w c 72 (chc er m va)) (e : Int) : (notW w c er e).ownsRow b 5 1 v n xs := by
  unfold notW
  split
  · exact h.kept (grownBy_setCell w c 0 _) (.inr (own_row h hr (by decide)))
  · exact h
theorem ChAt.kept {W w w' : World} {c n : Nat} {er : Int} {m : Mv} {va v : Value} {xs : List Value} (h : ChAt W w c er m va) (ho : w.ownsRow W.heap.size 5 1 v n xs) (hg : w.grownBy w' v.ownBlock) : ChAt W w' c er m va :=
  ⟨h.row.kept hg (fun e => own_row ho h.row (by decide) e.symm), Below.grown h.below hg h.below.size (fun j hj => (ho.lt j hj).1), h.lo, h.ro⟩
theorem hdV_len : ∀ k, k < 4 → ∀ v, (hdV v (cpa k)).length ≤ 8 := by
  intro k hk v
  have h1 : ∀ n, (bytesOf (1 : Nat) [n]).length = 1 := fun n => by rw [bytesOf_length _ _ rfl]; rfl
  have h2 : ∀ n, (bytesOf (2 : Nat) [n]).length = 2 := fun n => by rw [bytesOf_length _ _ rfl]; rfl
  have hk' : k = 0 ∨ k = 1 ∨ k = 2 ∨ k = 3 := by omega
  rcases hk' with rfl | rfl | rfl | rfl <;> simp only [hdV, cpa, cpas, List.getD_cons_zero, List.getD_cons_succ, List.flatMap_cons, List.flatMap_nil, hdP, List.length_append, h1, h2, List.length_nil] <;> decide
theorem hdM_le (m : Pm) (h : codB m.c = true) (ha : Adr m.ro) : (hdM m).length ≤ 2000 := by
  obtain ⟨k, e, hk⟩ := cod_nat h
  have := hdV_len k hk m.vs
  have h16 := ha.1
  rw [hdM, e, Int.toNat_natCast, List.length_append]
  split
  · omega
  · simp; omega
theorem tail_any {B : Nat} (m : Mv) (w : World) (hm : m.ok w) (hV : CV B w) (hn : m.on ≤ 1000) : Calls Tryd.prog 30 #[.agg m.cs] w fun e w' => ∃ v, e = .returned (.tuple #[v, .int .i64 (encE m.p.o)]) ∧ w'.ownsRow w.heap.size 5 1 v (encsL m.p.o).length (u8s (encsL m.p.o)) ∧ Below w.heap.size w w' := by
  have R1 := hid (Row.new w 29 m.cs)
  have B1 := hid (balloc (Below.refl w.heap.size w) (.cells m.cs 29))
  have L1 := hid (hm.o.below B1.out)
  have V1 := hid (hV.o.below B1.out)
  have HA := hid hm.ro
  clear hm hV
  go_enter Tryd.func30, Tryd.ntmps30
  go_upto_region 1 with fail
  generalize w.alloc (.cells m.cs 29) = w1 at *
  have c27 := (R1.out.cell 27).trans (Mv.at27 HA.out)
  go_wp2_with fail
  refine (optEncode_any m.oa m.on m.oc m.L _ L1.out V1.out hn).mono ?_
  rintro e w2 ⟨v, rfl, hown, hb⟩
  have B2 := hid (bthen B1.out hb)
  have O2 := hid (own_mono hown B1.out.size)
  clear hown hb
  go_wp2_with fail
  go_ret2
  exact ⟨_, rfl, O2.out, B2.out⟩
set_option maxHeartbeats 1600000 in
theorem add29 {B : Nat} (W w : World) (c : Nat) (er : Int) (m : Mv) (va : Value) (l : List Int) (h : OutAt W w c er m va l) (hm : m.ok W) (hV : CV B W) (hl : l.length ≤ 2000) (hp : er = 0 → codB m.c = true ∧ witV m.c.toNat m.p.vs = true) :
    Calls Tryd.prog 28 #[.pointer (some ⟨c, 0, none⟩), .func (.func 29) #[] #[]] w fun x w' => (∃ vb, x = .returned (.pointer (some ⟨c, 0, none⟩)) ∧ Hid (OutAt W w' c (addE er (0 : Int) (l.length + (hdM m.p).length)) m vb (addL er l (hdM m.p)))) := by
  have H := hid h.ch
  have HO := hid h.out
  have HM := hid (hm.below h.ch.below)
  have HV := hid (hV.below h.ch.below)
  have HA := hid hm.ro
  have c0 := h.ch.cell0
  clear h hm hV
  by_cases her : er = 0
  · subst her
    have HP := hid (hp rfl)
    clear hp
    go_enter Tryd.func28, Tryd.ntmps28
    go_wp2_with fail
    refine (fine_any _ c 0 c0).mono ?_
    rintro x w1 ⟨rfl, rfl⟩
    go_wp2_with (refine ldM m29 _ rfl rfl _ _ rfl m HA.out H.out.part ?_)
    refine (head_any m _ HM.out HV.out HP.out.1 HP.out.2).mono ?_
    rintro x w2 ⟨v2, rfl, hown2, hb⟩
    have H2 := hid (H.out.on hb)
    have O2 := hid (own_below HO.out hb)
    have M2 := hid hown2
    have d0 := H2.out.cell0
    have f0 := H2.out.row.frozen 0
    clear hb hown2 H HO HM HV c0
    have hml2 : (hdM m.p).length ≤ 2000 := hdM_le m.p HP.out.1 HA.out
    generalize hml0 : hdM m.p = ml at *
    have HML := hid hml0
    clear hml0
    go_wp2_with fail
    refine (note_any _ c 0 0 d0 f0).mono ?_
    rintro x w3 ⟨rfl, rfl⟩
    have H3 : Hid (ChAt W (notW w2 c 0 0) c 0 m va) := H2.out.note 0
    have O3 := hid (own_notW O2.out H2.out.row 0)
    have M3 := hid (own_notW M2.out H2.out.row 0)
    clear d0 f0 O2 M2
    generalize notW w2 c 0 0 = w3 at *
    obtain ⟨oa, oc, rfl⟩ := owns_len O3.out
    obtain ⟨ma, mc, rfl, hml, _⟩ := owns_lies M3.out
    clear hml
    generalize hln : l.length = ln at *
    generalize hmn : ml.length = mn at *
    have HLN := hid hln
    have HMN := hid hmn
    clear hln hmn
    have d29 := H3.out.cell29
    have d0 := H3.out.cell0
    have f0 := H3.out.row.frozen 0
    by_cases hlong : 1280 < ln + mn
    · have hlong' : (1280 : Int) < (ln : Int) + mn := by omega
      go_wp2_with fail
      refine (note_any _ c 0 2 d0 f0).mono ?_
      rintro x w4 ⟨rfl, rfl⟩
      have O4 := hid (own_notW O3.out H3.out.row 2)
      have M4 := hid (own_notW M3.out H3.out.row 2)
      have H4 : Hid (ChAt W (notW w3 c 0 2) c 2 m (.slice oa ln oc)) := H3.out.note 2
      have HEE : Hid ((if (0 : Int) ≠ 0 then (0 : Int) else if 1280 < ln + mn then 2 else 0) = 2) := by rw [Hid, if_neg (by decide), if_pos hlong]
      clear d0 f0 O3 M3 d29 hlong hlong' H3
      generalize notW w3 c 0 2 = w4 at *
      obtain ⟨_, _, hv, hml, _⟩ := owns_lies (l := ml) (by rw [HMN.out]; exact M4.out)
      have ML : Hid (Lies .u8 w4 ma mn mc ml) := by
        rw [HMN.out] at hv hml
        injection hv with h1 h2 h3
        subst h1; subst h3
        exact hml
      clear hv hml
      have e29 := H4.out.cell29
      have BW := hid H4.out.below.size
      go_wp2_with (at_builtin; refine wpList_appBy rfl _ _ rfl rfl rfl O4.out ML.out ?c1 ?c2 ?_)
      case c1 => exact BW.out
      case c2 => omega
      intro v5 w5 ho5 hg5
      obtain ⟨a5, k5, hv5⟩ := owns_len ho5
      generalize hsm : ln + mn = sm at *
      subst hv5
      have HSM := hid hsm
      clear hsm
      have H5 : Hid (ChAt W w5 c 2 m (.slice oa ln oc)) := hid (H4.out.kept O4.out hg5)
      have O5 := hid ho5
      have f29 := H5.out.row.frozen 29
      have g29 := H5.out.cell29
      have H6 := hid (H5.out.setV (.slice a5 sm k5))
      have O6 := hid (own_setC O5.out H5.out.row 29 (.slice a5 sm k5))
      clear ho5 hg5 e29 M4 O4 H4
      go_wp2_with fail
      go_ret
      refine ⟨.slice a5 sm k5, rfl, ?_⟩
      have HADD : Hid (addE 0 0 (l.length + ml.length) = 2) := by
        rw [Hid, HLN.out, HMN.out, HSM.out, addE, if_pos rfl]; exact HEE.out
      rw [HML.out, HADD.out, show addL 0 l ml = l ++ ml from rfl]
      exact ⟨H6.out, by rw [List.length_append, HLN.out, HMN.out, HSM.out]; exact O6.out⟩
    · have hlong' : ¬ (1280 : Int) < (ln : Int) + mn := by omega
      have HEE : Hid ((if 0 ≠ (0 : Int) then (0 : Int) else if 1280 < ln + mn then 2 else 0) = 0) := by
        rw [Hid, if_neg hlong]; by_cases h : 0 = (0 : Int) <;> simp [h]
      have H4 := H3
      have O4 := O3
      have M4 := M3
      clear d0 f0 O3 M3 H3 hlong d29
      have d29 := H4.out.cell29
      obtain ⟨_, _, hv, hml, _⟩ := owns_lies (l := ml) (by rw [HMN.out]; exact M4.out)
      have ML : Hid (Lies .u8 w3 ma mn mc ml) := by
        rw [HMN.out] at hv hml
        injection hv with h1 h2 h3
        subst h1; subst h3
        exact hml
      clear hv hml
      have e29 := H4.out.cell29
      have BW := hid H4.out.below.size
      go_wp2_with (at_builtin; refine wpList_appBy rfl _ _ rfl rfl rfl O4.out ML.out ?c1 ?c2 ?_)
      case c1 => exact BW.out
      case c2 => omega
      intro v5 w5 ho5 hg5
      obtain ⟨a5, k5, hv5⟩ := owns_len ho5
      generalize hsm : ln + mn = sm at *
      subst hv5
      have HSM := hid hsm
      clear hsm
      have H5 : Hid (ChAt W w5 c 0 m (.slice oa ln oc)) := hid (H4.out.kept O4.out hg5)
      have O5 := hid ho5
      have f29 := H5.out.row.frozen 29
      have g29 := H5.out.cell29
      have H6 := hid (H5.out.setV (.slice a5 sm k5))
      have O6 := hid (own_setC O5.out H5.out.row 29 (.slice a5 sm k5))
      clear ho5 hg5 e29 M4 O4 H4
      go_wp2_with fail
      go_ret
      refine ⟨.slice a5 sm k5, rfl, ?_⟩
      have HADD : Hid (addE 0 0 (l.length + ml.length) = 0) := by
        rw [Hid, HLN.out, HMN.out, HSM.out, addE, if_pos rfl]; exact HEE.out
      rw [HML.out, HADD.out, show addL 0 l ml = l ++ ml from rfl]
      exact ⟨H6.out, by rw [List.length_append, HLN.out, HMN.out, HSM.out]; exact O6.out⟩
  · have HE : Hid (addE er (0 : Int) (l.length + (hdM m.p).length) = er) := by rw [Hid, addE, if_neg her]
    have HL : Hid (addL er l (hdM m.p) = l) := by rw [Hid, addL, if_neg her]
    have he : (er == 0) = false := by simp [her]
    clear her
    go_enter Tryd.func28, Tryd.ntmps28
    go_wp2_with fail
    refine (fine_any _ c er c0).mono ?_
    rintro x w1 ⟨rfl, rfl⟩
    go_wp2_with fail
    go_ret
    refine ⟨va, rfl, ?_⟩
    rw [HE.out, HL.out]
    exact ⟨H.out, HO.out⟩
set_option maxHeartbeats 1600000 in
theorem add30 {B : Nat} (W w : World) (c : Nat) (er : Int) (m : Mv) (va : Value) (l : List Int) (h : OutAt W w c er m va l) (hm : m.ok W) (hV : CV B W) (hl : l.length ≤ 2000) (hn : m.on ≤ 1000) :
    Calls Tryd.prog 28 #[.pointer (some ⟨c, 0, none⟩), .func (.func 30) #[] #[]] w fun x w' => (∃ vb, x = .returned (.pointer (some ⟨c, 0, none⟩)) ∧ Hid (OutAt W w' c (addE er (encE m.p.o) (l.length + (encsL m.p.o).length)) m vb (addL er l (encsL m.p.o)))) := by
  have H := hid h.ch
  have HO := hid h.out
  have HM := hid (hm.below h.ch.below)
  have HV := hid (hV.below h.ch.below)
  have HA := hid hm.ro
  have c0 := h.ch.cell0
  clear h hm hV
  by_cases her : er = 0
  · subst her
    go_enter Tryd.func28, Tryd.ntmps28
    go_wp2_with fail
    refine (fine_any _ c 0 c0).mono ?_
    rintro x w1 ⟨rfl, rfl⟩
    go_wp2_with (refine ldM m29 _ rfl rfl _ _ rfl m HA.out H.out.part ?_)
    refine (tail_any m _ HM.out HV.out hn).mono ?_
    rintro x w2 ⟨v2, rfl, hown2, hb⟩
    have H2 := hid (H.out.on hb)
    have O2 := hid (own_below HO.out hb)
    have M2 := hid hown2
    have d0 := H2.out.cell0
    have f0 := H2.out.row.frozen 0
    clear hb hown2 H HO HM HV c0
    have hml2 : (encsL m.p.o).length ≤ 2000 := by have := encsL_le m.p.o; omega
    generalize hml0 : encsL m.p.o = ml at *
    have HML := hid hml0
    clear hml0
    generalize hee0 : (encE m.p.o) = ee at *
    have HE0 := hid hee0
    clear hee0
    go_wp2_with fail
    refine (note_any _ c 0 ee d0 f0).mono ?_
    rintro x w3 ⟨rfl, rfl⟩
    have H3 : Hid (ChAt W (notW w2 c 0 ee) c ee m va) := H2.out.note ee
    have O3 := hid (own_notW O2.out H2.out.row ee)
    have M3 := hid (own_notW M2.out H2.out.row ee)
    clear d0 f0 O2 M2
    generalize notW w2 c 0 ee = w3 at *
    obtain ⟨oa, oc, rfl⟩ := owns_len O3.out
    obtain ⟨ma, mc, rfl, hml, _⟩ := owns_lies M3.out
    clear hml
    generalize hln : l.length = ln at *
    generalize hmn : ml.length = mn at *
    have HLN := hid hln
    have HMN := hid hmn
    clear hln hmn
    have d29 := H3.out.cell29
    have d0 := H3.out.cell0
    have f0 := H3.out.row.frozen 0
    by_cases hlong : 1280 < ln + mn
    · have hlong' : (1280 : Int) < (ln : Int) + mn := by omega
      go_wp2_with fail
      refine (note_any _ c ee 2 d0 f0).mono ?_
      rintro x w4 ⟨rfl, rfl⟩
      have O4 := hid (own_notW O3.out H3.out.row 2)
      have M4 := hid (own_notW M3.out H3.out.row 2)
      have H4 := hid (H3.out.note 2)
      have HEE : Hid ((if ee ≠ (0 : Int) then ee else if 1280 < ln + mn then 2 else 0) = if ee = (0 : Int) then 2 else ee) := by
        rw [Hid, if_pos hlong]; by_cases h : ee = (0 : Int) <;> simp [h]
      clear d0 f0 O3 M3 d29 hlong hlong' H3
      generalize notW w3 c ee 2 = w4 at *
      generalize (if ee = (0 : Int) then (2 : Int) else ee) = e2 at *
      obtain ⟨_, _, hv, hml, _⟩ := owns_lies (l := ml) (by rw [HMN.out]; exact M4.out)
      have ML : Hid (Lies .u8 w4 ma mn mc ml) := by
        rw [HMN.out] at hv hml
        injection hv with h1 h2 h3
        subst h1; subst h3
        exact hml
      clear hv hml
      have e29 := H4.out.cell29
      have BW := hid H4.out.below.size
      go_wp2_with (at_builtin; refine wpList_appBy rfl _ _ rfl rfl rfl O4.out ML.out ?c1 ?c2 ?_)
      case c1 => exact BW.out
      case c2 => omega
      intro v5 w5 ho5 hg5
      obtain ⟨a5, k5, hv5⟩ := owns_len ho5
      generalize hsm : ln + mn = sm at *
      subst hv5
      have HSM := hid hsm
      clear hsm
      have H5 : Hid (ChAt W w5 c e2 m (.slice oa ln oc)) := hid (H4.out.kept O4.out hg5)
      have O5 := hid ho5
      have f29 := H5.out.row.frozen 29
      have g29 := H5.out.cell29
      have H6 := hid (H5.out.setV (.slice a5 sm k5))
      have O6 := hid (own_setC O5.out H5.out.row 29 (.slice a5 sm k5))
      clear ho5 hg5 e29 M4 O4 H4
      go_wp2_with fail
      go_ret
      refine ⟨.slice a5 sm k5, rfl, ?_⟩
      have HADD : Hid (addE 0 ee (l.length + ml.length) = e2) := by
        rw [Hid, HLN.out, HMN.out, HSM.out, addE, if_pos rfl]; exact HEE.out
      rw [HML.out, HE0.out, HADD.out, show addL 0 l ml = l ++ ml from rfl]
      exact ⟨H6.out, by rw [List.length_append, HLN.out, HMN.out, HSM.out]; exact O6.out⟩
    · have hlong' : ¬ (1280 : Int) < (ln : Int) + mn := by omega
      have HEE : Hid ((if ee ≠ (0 : Int) then (ee : Int) else if 1280 < ln + mn then 2 else 0) = ee) := by
        rw [Hid, if_neg hlong]; by_cases h : ee = (0 : Int) <;> simp [h]
      have H4 := H3
      have O4 := O3
      have M4 := M3
      clear d0 f0 O3 M3 H3 hlong d29
      have d29 := H4.out.cell29
      obtain ⟨_, _, hv, hml, _⟩ := owns_lies (l := ml) (by rw [HMN.out]; exact M4.out)
      have ML : Hid (Lies .u8 w3 ma mn mc ml) := by
        rw [HMN.out] at hv hml
        injection hv with h1 h2 h3
        subst h1; subst h3
        exact hml
      clear hv hml
      have e29 := H4.out.cell29
      have BW := hid H4.out.below.size
      go_wp2_with (at_builtin; refine wpList_appBy rfl _ _ rfl rfl rfl O4.out ML.out ?c1 ?c2 ?_)
      case c1 => exact BW.out
      case c2 => omega
      intro v5 w5 ho5 hg5
      obtain ⟨a5, k5, hv5⟩ := owns_len ho5
      generalize hsm : ln + mn = sm at *
      subst hv5
      have HSM := hid hsm
      clear hsm
      have H5 : Hid (ChAt W w5 c ee m (.slice oa ln oc)) := hid (H4.out.kept O4.out hg5)
      have O5 := hid ho5
      have f29 := H5.out.row.frozen 29
      have g29 := H5.out.cell29
      have H6 := hid (H5.out.setV (.slice a5 sm k5))
      have O6 := hid (own_setC O5.out H5.out.row 29 (.slice a5 sm k5))
      clear ho5 hg5 e29 M4 O4 H4
      go_wp2_with fail
      go_ret
      refine ⟨.slice a5 sm k5, rfl, ?_⟩
      have HADD : Hid (addE 0 ee (l.length + ml.length) = ee) := by
        rw [Hid, HLN.out, HMN.out, HSM.out, addE, if_pos rfl]; exact HEE.out
      rw [HML.out, HE0.out, HADD.out, show addL 0 l ml = l ++ ml from rfl]
      exact ⟨H6.out, by rw [List.length_append, HLN.out, HMN.out, HSM.out]; exact O6.out⟩
  · have HE : Hid (addE er (encE m.p.o) (l.length + (encsL m.p.o).length) = er) := by rw [Hid, addE, if_neg her]
    have HL : Hid (addL er l (encsL m.p.o) = l) := by rw [Hid, addL, if_neg her]
    have he : (er == 0) = false := by simp [her]
    clear her
    go_enter Tryd.func28, Tryd.ntmps28
    go_wp2_with fail
    refine (fine_any _ c er c0).mono ?_
    rintro x w1 ⟨rfl, rfl⟩
    go_wp2_with fail
    go_ret
    refine ⟨va, rfl, ?_⟩
    rw [HE.out, HL.out]
    exact ⟨H.out, HO.out⟩
theorem chk_add (m : Pm) : addE (chk0M m) (encE m.o) (([] : List Int).length + (encsL m.o).length) = chkM m := by
  unfold addE chkM
  by_cases h : chk0M m = 0
  · rw [if_pos h, if_pos h]
    have := encsL_le m.o
    split
    · rfl
    · rename_i h2
      rw [if_neg (by simp; omega)]
      omega
  · rw [if_neg h, if_neg h]
theorem chk0_parts {m : Pm} (h : chk0M m = 0) : codB m.c = true ∧ witV m.c.toNat m.vs = true := by
  unfold chk0M at h
  cases h1 : codB m.c <;> cases h2 : frmV m.c.toNat m.vs <;> cases h3 : witV m.c.toNat m.vs <;> simp [h1, h2, h3] at h ⊢
def encA (m : Pm) : List Int := addL (addE (chk0M m) 0 (([] : List Int).length + (hdM m).length)) (addL (chk0M m) [] (hdM m)) (encsL m.o)
def encB (m : Pm) : Int := addE (addE (chk0M m) 0 (([] : List Int).length + (hdM m).length)) (encE m.o) ((addL (chk0M m) [] (hdM m)).length + (encsL m.o).length)
theorem hdM_24 (m : Pm) (h : codB m.c = true) (ha : m.ro.length = 16) : (hdM m).length ≤ 24 := by
  obtain ⟨k, e, hk⟩ := cod_nat h
  have := hdV_len k hk m.vs
  rw [hdM, e, Int.toNat_natCast, List.length_append]
  split
  · omega
  · simp; omega
theorem enc_add (m : Pm) (ha : m.ro.length = 16) : encB m = eE m ∧ (eE m = 0 → encA m = eL m) ∧ addE (chk0M m) 0 (([] : List Int).length + (hdM m).length) = chk0M m := by
  have he := encsL_le m.o
  by_cases h : chk0M m = 0
  · have h24 := hdM_24 m (chk0_parts h).1 ha
    have h3 : addE (chk0M m) 0 (([] : List Int).length + (hdM m).length) = chk0M m := by
      rw [addE, if_pos h, if_neg (by decide), if_neg (by simp; omega), h]
    have hB : encB m = eE m := by
      rw [encB, h3, addE, if_pos h, addL, if_pos h, List.nil_append, eE, chkM, if_pos h]
    refine ⟨hB, fun h0 => ?_, h3⟩
    rw [encA, h3, addL, if_pos h, addL, if_pos h, List.nil_append, eL, if_pos h0]
  · have h3 : addE (chk0M m) 0 (([] : List Int).length + (hdM m).length) = chk0M m := by rw [addE, if_neg h]
    have hc : chkM m = chk0M m := by rw [chkM, if_neg h]
    have he0 : eE m = chk0M m := by rw [eE, if_pos (by rw [hc]; exact h), hc]
    refine ⟨by rw [encB, h3, addE, if_neg h, he0], fun h0 => absurd (he0.symm.trans h0) h, h3⟩
theorem encA_le (m : Pm) (ha : m.ro.length = 16) : (addL (chk0M m) [] (hdM m)).length ≤ 2000 := by
  unfold addL
  split
  · rename_i h; have := hdM_24 m (chk0_parts h).1 ha; simp; omega
  · simp
theorem made_any (W w : World) (c : Nat) (er : Int) (m : Mv) (va : Value) (l : List Int) (h : OutAt W w c er m va l) :
    Calls Tryd.prog 31 #[.pointer (some ⟨c, 0, none⟩)] w fun x w' => (∃ v, x = .returned (.tuple #[v, .int .i64 er]) ∧ Hid (w'.ownsRow W.heap.size 5 1 v (if er = 0 then l else []).length (u8s (if er = 0 then l else [])))) ∧ Below W.heap.size W w' := by
  have H := hid h.ch
  have HO := hid h.out
  have c0 := h.ch.cell0
  have c29 := h.ch.cell29
  clear h
  by_cases her : er = 0
  · subst her
    go_enter Tryd.func31, Tryd.ntmps31
    go_wp2_with fail
    refine (fine_any _ c 0 c0).mono ?_
    rintro x w1 ⟨rfl, rfl⟩
    obtain ⟨oa, oc, rfl⟩ := owns_len HO.out
    generalize hln : l.length = ln at *
    have HLN := hid hln
    clear hln
    go_wp2_with fail
    go_ret2
    exact ⟨⟨_, rfl, by rw [HLN.out]; exact HO⟩, H.out.below⟩
  · have he : (er == 0) = false := by simp [her]
    have HX := hid her
    clear her
    go_enter Tryd.func31, Tryd.ntmps31
    go_wp2_with fail
    refine (fine_any _ c er c0).mono ?_
    rintro x w1 ⟨rfl, rfl⟩
    go_wp2_with fail
    go_quiet (fail)
    go_wp2_with fail
    go_ret2
    exact ⟨⟨_, rfl, by first | (rw [if_neg HX.out]; exact World.ownsRow_nil _ _ _ _) | exact World.ownsRow_nil _ _ _ _⟩, H.out.below.trans ⟨rfl, rfl, rfl, Nat.le_refl _, fun _ _ => rfl⟩⟩
theorem cCheck_any {B : Nat} (m : Mv) (w : World) (hm : m.ok w) (hV : CV B w) (hn : m.on ≤ 1000) :
    Calls Tryd.prog 10 #[.agg m.cs] w fun x w' => x = .returned (.int .i64 (chkM m.p)) ∧ Below w.heap.size w w' := by
  have R1 := hid (Row.new w 29 m.cs)
  have B1 := hid (balloc (Below.refl w.heap.size w) (.cells m.cs 29))
  have M1 := hid (hm.below B1.out)
  have V1 := hid (hV.below B1.out)
  have HA := hid hm.ro
  clear hm hV
  go_enter Tryd.func10, Tryd.ntmps10
  go_upto_region 1 with fail
  generalize w.alloc (.cells m.cs 29) = w1 at *
  go_wp2_with (refine ldM m29 _ rfl rfl _ _ rfl m HA.out R1.out.part ?_)
  refine (checked_any m _ M1.out V1.out).mono ?_
  rintro x w2 ⟨c, rfl, hC⟩
  have O2 : Hid (OutAt w1 w2 c (chk0M m.p) m (.slice none 0 0) []) := ⟨hC.out, World.ownsRow_nil _ _ _ _⟩
  clear hC
  go_wp2_with fail
  refine (add30 w1 _ c _ m _ [] O2.out M1.out V1.out (by simp) hn).mono ?_
  rintro x w3 ⟨vb, rfl, hO⟩
  rw [show encE m.p.o = encE m.p.o from rfl, chk_add m.p] at hO
  have O3 := hid hO.out
  have c0 := hO.out.ch.cell0
  clear hO
  go_wp2_with fail
  go_ret
  exact ⟨rfl, bthen B1.out O3.out.ch.below⟩
theorem cEncode_any {B : Nat} (m : Mv) (w : World) (hm : m.ok w) (hV : CV B w) (hn : m.on ≤ 1000) :
    Calls Tryd.prog 9 #[.agg m.cs] w fun x w' => (∃ v, x = .returned (.tuple #[v, .int .i64 (eE m.p)]) ∧ Hid (w'.ownsRow w.heap.size 5 1 v (eL m.p).length (u8s (eL m.p)))) ∧ Below w.heap.size w w' := by
  have R1 := hid (Row.new w 29 m.cs)
  have B1 := hid (balloc (Below.refl w.heap.size w) (.cells m.cs 29))
  have M1 := hid (hm.below B1.out)
  have V1 := hid (hV.below B1.out)
  have HA := hid hm.ro
  have HE := hid (enc_add m.p hm.ro.1)
  have HL := hid (encA_le m.p hm.ro.1)
  clear hm hV
  go_enter Tryd.func9, Tryd.ntmps9
  go_upto_region 1 with fail
  generalize w.alloc (.cells m.cs 29) = w1 at *
  go_wp2_with (refine ldM m29 _ rfl rfl _ _ rfl m HA.out R1.out.part ?_)
  refine (checked_any m _ M1.out V1.out).mono ?_
  rintro x w2 ⟨c, rfl, hC⟩
  have O2 : Hid (OutAt w1 w2 c (chk0M m.p) m (.slice none 0 0) []) := ⟨hC.out, World.ownsRow_nil _ _ _ _⟩
  clear hC
  go_wp2_with fail
  refine (add29 w1 _ c _ m _ [] O2.out M1.out V1.out (by simp) (fun h => chk0_parts h)).mono ?_
  rintro x w3 ⟨vb, rfl, hO⟩
  have O3 := hid hO.out
  clear hO
  go_wp2_with fail
  refine (add30 w1 _ c _ m _ _ O3.out M1.out V1.out HL.out hn).mono ?_
  rintro x w4 ⟨vc, rfl, hO⟩
  have O4 : Hid (OutAt w1 w4 c (encB m.p) m vc (encA m.p)) := hO
  clear hO
  go_wp2_with fail
  refine (made_any w1 _ c _ m vc _ O4.out).mono ?_
  rintro x w5 ⟨⟨v, rfl, hown⟩, hb⟩
  have HL2 : Hid ((if encB m.p = 0 then encA m.p else []) = eL m.p) := by
    rw [Hid, HE.out.1]
    split
    · rename_i h; exact HE.out.2.1 h
    · rename_i h; rw [eL, if_neg h]
  rw [HL2.out] at hown
  have O5 := hid (own_mono hown.out B1.out.size)
  have B5 := hid (bthen B1.out hb)
  clear hown hb
  rw [HE.out.1]
  go_wp2_with fail
  go_ret2
  exact ⟨⟨_, rfl, O5⟩, B5.out⟩
end Go.Proofs.YtbfjkhafdkhhmaaDoor
