/- Appends of options and of guarded bytes; the first ones of options; what is joined. · What a chain makes: Check, Encode. · What the rows' lists give, and how options that came in are opened. · The document's answer: a kind's letters; Parts, Word, size. · What the document's own Digits answers: contracts. · The document's answer: Check. · The document's answer: Check. · The document's answer: the bytes of an option, as letters tell them. · The document's answer: the bytes of an option that is right. · The document's answer: the bytes of options, EncodeAll. · An argument that is a list of options: its numbers are int's. · The options that the document's answer takes: Of. · The law's messages: To, Of. · datagram's copied: a message with lists of its own. -/
import Derived.Test.YtbklpelikaapoaaGreatDoorM4
import Derived.Test.YtbklpelikaapoaaGreatDoorM3
import Derived.Test.YtbklpelikaapoaaGreatDoorCards
import Derived.Test.YtbklpelikaapoaaGreatDoorTie
import Derived.Deep.DeepHandedRow
import Derived.Lib.LaidTab
import Derived.Stop.LaidErr
import Derived.LaidLaws
import Derived.ChangeOld
import Derived.Carry
import Derived.Test.YtbklpelikaapoaaGreatDoorM1
import Derived.Deep.RegionHeld3
namespace Go.Proofs.YtbklpelikaapoaaGreatDoor
open Go.ChangeShapes Go.WideShapes Go.ChangeAt Go.RowKit Go.Deep
set_option linter.unusedVariables false
set_option linter.unusedSimpArgs false

theorem Opts.pre {w : World} {a : Option Addr} {n cap : Nat} {L : List Ov} (h : Opts w a n cap L) (m : Nat) (hm : m ≤ n) : Opts w a m cap (L.take m) := by
  refine ⟨by rw [List.length_take, h.len]; omega, Nat.le_trans hm h.le, h.max, h.isNil, fun k hk => ?_, fun o ho => h.ok o (List.mem_of_mem_take ho)⟩
  obtain ⟨b, off, he, hc⟩ := h.cell k (by omega)
  refine ⟨b, off, he, ?_⟩
  have : (L.take m).getD k Ov.zero = L.getD k Ov.zero := by simp [List.getD, List.getElem?_take, hk]
  rw [this]; exact hc
theorem Opts.cells {w : World} {a : Option Addr} {n cap : Nat} {L : List Ov} (h : Opts w a n cap L) : ∀ ad, a = some ad → ∀ j u, (ocs L)[j]? = some u → w.cell? (ad.add j) = some u := by
  intro ad ha j u hj
  have had : ∀ o ∈ L, Adr o.ad := fun o ho => (h.ok o ho).ad
  have hlen := ocs_length had
  have hj' : j < L.length * 19 := by have := (List.getElem?_eq_some_iff.1 hj).1; omega
  have hk : j / 19 < L.length := by omega
  obtain ⟨b, off, he, hc⟩ := h.cell (j / 19) (by rw [← h.len]; exact hk)
  rw [ha] at he
  obtain rfl := Option.some.inj he
  have hm : j % 19 < 19 := Nat.mod_lt _ (by decide)
  have e : j = j / 19 * 19 + j % 19 := by omega
  rw [Addr.add_lit, e, ← Nat.add_assoc]
  refine hc (j % 19) u ?_
  rw [← ocs_at had (j / 19) hk (j % 19) hm, ← e]; exact hj
theorem encsL_le (P : List Po) : (encsL P).length ≤ 1280 := by
  unfold encsL
  split
  · rename_i h
    unfold encE at h
    split at h
    · omega
    · split at h
      · rename_i hb; exact absurd h hb
      · split at h
        · omega
        · omega
  · simp
end Go.Proofs.YtbklpelikaapoaaGreatDoor

namespace Go.Proofs.YtbklpelikaapoaaGreatDoor
open Go.ChangeShapes Go.WideShapes Go.ChangeAt Go.RowKit Go.Deep
set_option linter.unusedVariables false
set_option linter.unusedSimpArgs false

theorem wpList_appBy {ops : Array Oper} {rest : List Oper} {o : Oper} {a : Act} {Q : Exit → Act → World → Prop} {w : World} {base n m cap : Nat} {v : Value} {xs l : List Int} {ao : Option Addr} (hgd : o.guard = none) (s x : Operand)
    (ho : o.op = .call { callee := .builtin .append, args := #[s, x], argTypes := #[30, 30] }) (hs : a.eval s = v) (hx : a.eval x = .slice ao m cap)
    (hown : w.ownsRow base 5 1 v n (u8s xs)) (hl : Lies .u8 w ao m cap l) (hb : base ≤ w.heap.size) (hm : n + m ≤ 200000)
    (h : ∀ v' w', w'.ownsRow base 5 1 v' (n + m) (u8s (xs ++ l)) → w.grownBy w' v.ownBlock → wpList Tryz.prog ops Q rest (a.put o.dst v') w') :
    wpList Tryz.prog ops Q (o :: rest) a w := by
  obtain ⟨i0, hi, hz0, hz1, hz2⟩ := info_parts info5
  refine wpList_append_own_by w hgd s x 30 ho base 5 i0 (.int .u8 0) 1 1 Tryz.underlying30 hi hz0 hz1 hz2 rfl (by decide) v n _ hs hown ao m cap (u8s l) hx (by rw [u8s_len, hl.1]; omega) hl.isNil (fun ad had => hl.cells ad had) (ints_oneCell8 l .u8) (by unfold maxLen; omega) (by omega) hb ?_
  intro v' w' h2 h3
  exact h v' w' (by rw [u8s, List.map_append]; exact h2) h3
/-- A chain, and the bytes that it has made. -/
structure OutAt (W w : World) (c : Nat) (er : Int) (m : Mv) (va : Value) (l : List Int) : Prop where
  ch : ChAt W w c er m va
  out : w.ownsRow W.heap.size 5 1 va l.length (u8s l)
def addE (er e : Int) (n : Nat) : Int := if er = 0 then (if e ≠ 0 then e else if 1280 < n then 2 else 0) else er
def addL (er : Int) (l more : List Int) : List Int := if er = 0 then l ++ more else l
theorem own_setC {w : World} {b c n : Nat} {er : Int} {v va : Value} {xs : List Value} {m : Mv} (h : w.ownsRow b 5 1 v n xs) (hr : Row w c 190 (chc er m va)) (j : Nat) (x : Value) : (w.setCell ⟨c, j, none⟩ x).ownsRow b 5 1 v n xs :=
  h.kept (grownBy_setCell w c j x) (.inr (own_row h hr (by decide)))
theorem own_notW {w : World} {b c n : Nat} {er : Int} {v va : Value} {xs : List Value} {m : Mv} (h : w.ownsRow b 5 1 v n xs) (hr : Row w c 190 (chc er m va)) (e : Int) : (notW w c er e).ownsRow b 5 1 v n xs := by
  unfold notW
  split
  · exact h.kept (grownBy_setCell w c 0 _) (.inr (own_row h hr (by decide)))
  · exact h
theorem ChAt.kept {W w w' : World} {c n : Nat} {er : Int} {m : Mv} {va v : Value} {xs : List Value} (h : ChAt W w c er m va) (ho : w.ownsRow W.heap.size 5 1 v n xs) (hg : w.grownBy w' v.ownBlock) : ChAt W w' c er m va :=
  ⟨h.row.kept hg (fun e => own_row ho h.row (by decide) e.symm), Below.grown h.below hg h.below.size (fun j hj => (ho.lt j hj).1), h.lo, h.ro⟩
theorem hdV_len : ∀ k, k < 4 → ∀ v, (hdV v (cpa k)).length ≤ 8 := by
  intro k hk v
  have h1 : ∀ n, (bytesOf (1 : Nat) [n]).length = 1 := fun n => by rw [bytesOf_length _ _ rfl]; rfl
  have h2 : ∀ n, (bytesOf (2 : Nat) [n]).length = 2 := fun n => by rw [bytesOf_length _ _ rfl]; rfl
  have hk' : k = 0 ∨ k = 1 ∨ k = 2 ∨ k = 3 := by omega
  rcases hk' with rfl | rfl | rfl | rfl <;> simp only [hdV, cpa, cpas, List.getD_cons_zero, List.getD_cons_succ, List.flatMap_cons, List.flatMap_nil, hdP, List.length_append, h1, h2, List.length_nil] <;> decide
theorem hdM_le (m : Pm) (h : codB m.c = true) (ha : Adr m.ro) : (hdM m).length ≤ 2000 := by
  obtain ⟨k, e, hk⟩ := cod_nat h
  have := hdV_len k hk m.vs
  have h16 := ha.1
  rw [hdM, e, Int.toNat_natCast, List.length_append]
  split
  · omega
  · simp; omega
theorem tail_any {B : Nat} (m : Mv) (w : World) (hm : m.ok w) (hV : CV B w) (hn : m.on ≤ 1000) : Calls Tryz.prog 94 #[.agg m.cs] w fun e w' => ∃ v, e = .returned (.tuple #[v, .int .i64 (encE m.p.o)]) ∧ w'.ownsRow w.heap.size 5 1 v (encsL m.p.o).length (u8s (encsL m.p.o)) ∧ Below w.heap.size w w' := by
  have R1 := hid (Row.new w 38 m.cs)
  have B1 := hid (balloc (Below.refl w.heap.size w) (.cells m.cs 38))
  have L1 := hid (hm.o.below B1.out)
  have V1 := hid (hV.o.below B1.out)
  have HA := hid hm.ro
  clear hm hV
  go_enter Tryz.func94, Tryz.ntmps94
  go_upto_region 1 with fail
  generalize w.alloc (.cells m.cs 38) = w1 at *
  have c27 := (R1.out.cell 27).trans (Mv.at27 HA.out)
  go_wp2_with fail
  refine (optEncode_any m.oa m.on m.oc m.L _ L1.out V1.out hn).mono ?_
  rintro e w2 ⟨v, rfl, hown, hb⟩
  have B2 := hid (bthen B1.out hb)
  have O2 := hid (own_mono hown B1.out.size)
  clear hown hb
  go_wp2_with fail
  go_ret2
  exact ⟨_, rfl, O2.out, B2.out⟩
set_option maxHeartbeats 1600000 in
theorem add29 {B : Nat} (W w : World) (c : Nat) (er : Int) (m : Mv) (va : Value) (l : List Int) (h : OutAt W w c er m va l) (hm : m.ok W) (hV : CV B W) (hl : l.length ≤ 2000) (hp : er = 0 → codB m.c = true ∧ witV m.c.toNat m.p.vs = true) :
    Calls Tryz.prog 92 #[.pointer (some ⟨c, 0, none⟩), .func (.func 93) #[] #[]] w fun x w' => (∃ vb, x = .returned (.pointer (some ⟨c, 0, none⟩)) ∧ Hid (OutAt W w' c (addE er (0 : Int) (l.length + (hdM m.p).length)) m vb (addL er l (hdM m.p)))) := by
  have H := hid h.ch
  have HO := hid h.out
  have HM := hid (hm.below h.ch.below)
  have HV := hid (hV.below h.ch.below)
  have HA := hid hm.ro
  have c0 := h.ch.cell0
  clear h hm hV
  by_cases her : er = 0
  · subst her
    have HP := hid (hp rfl)
    clear hp
    go_enter Tryz.func92, Tryz.ntmps92
    go_wp2_with fail
    refine (fine_any _ c 0 c0).mono ?_
    rintro x w1 ⟨rfl, rfl⟩
    go_wp2_with (refine ldM m29 _ rfl rfl _ _ rfl m HA.out H.out.part ?_)
    refine (head_any m _ HM.out HV.out HP.out.1 HP.out.2).mono ?_
    rintro x w2 ⟨v2, rfl, hown2, hb⟩
    have H2 := hid (H.out.on hb)
    have O2 := hid (own_below HO.out hb)
    have M2 := hid hown2
    have d0 := H2.out.cell0
    have f0 := H2.out.row.frozen 0
    clear hb hown2 H HO HM HV c0
    have hml2 : (hdM m.p).length ≤ 2000 := hdM_le m.p HP.out.1 HA.out
    generalize hml0 : hdM m.p = ml at *
    have HML := hid hml0
    clear hml0
    go_wp2_with fail
    refine (note_any _ c 0 0 d0 f0).mono ?_
    rintro x w3 ⟨rfl, rfl⟩
    have H3 : Hid (ChAt W (notW w2 c 0 0) c 0 m va) := H2.out.note 0
    have O3 := hid (own_notW O2.out H2.out.row 0)
    have M3 := hid (own_notW M2.out H2.out.row 0)
    clear d0 f0 O2 M2
    generalize notW w2 c 0 0 = w3 at *
    obtain ⟨oa, oc, rfl⟩ := owns_len O3.out
    obtain ⟨ma, mc, rfl, hml, _⟩ := owns_lies M3.out
    clear hml
    generalize hln : l.length = ln at *
    generalize hmn : ml.length = mn at *
    have HLN := hid hln
    have HMN := hid hmn
    clear hln hmn
    have d29 := H3.out.cell29
    have d0 := H3.out.cell0
    have f0 := H3.out.row.frozen 0
    by_cases hlong : 1280 < ln + mn
    · have hlong' : (1280 : Int) < (ln : Int) + mn := by omega
      go_wp2_with fail
      refine (note_any _ c 0 2 d0 f0).mono ?_
      rintro x w4 ⟨rfl, rfl⟩
      have O4 := hid (own_notW O3.out H3.out.row 2)
      have M4 := hid (own_notW M3.out H3.out.row 2)
      have H4 : Hid (ChAt W (notW w3 c 0 2) c 2 m (.slice oa ln oc)) := H3.out.note 2
      have HEE : Hid ((if (0 : Int) ≠ 0 then (0 : Int) else if 1280 < ln + mn then 2 else 0) = 2) := by rw [Hid, if_neg (by decide), if_pos hlong]
      clear d0 f0 O3 M3 d29 hlong hlong' H3
      generalize notW w3 c 0 2 = w4 at *
      obtain ⟨_, _, hv, hml, _⟩ := owns_lies (l := ml) (by rw [HMN.out]; exact M4.out)
      have ML : Hid (Lies .u8 w4 ma mn mc ml) := by
        rw [HMN.out] at hv hml
        injection hv with h1 h2 h3
        subst h1; subst h3
        exact hml
      clear hv hml
      have e29 := H4.out.cell29
      have BW := hid H4.out.below.size
      go_wp2_with (at_builtin; refine wpList_appBy rfl _ _ rfl rfl rfl O4.out ML.out ?c1 ?c2 ?_)
      case c1 => exact BW.out
      case c2 => omega
      intro v5 w5 ho5 hg5
      obtain ⟨a5, k5, hv5⟩ := owns_len ho5
      generalize hsm : ln + mn = sm at *
      subst hv5
      have HSM := hid hsm
      clear hsm
      have H5 : Hid (ChAt W w5 c 2 m (.slice oa ln oc)) := hid (H4.out.kept O4.out hg5)
      have O5 := hid ho5
      have f29 := H5.out.row.frozen 29
      have g29 := H5.out.cell29
      have H6 := hid (H5.out.setV (.slice a5 sm k5))
      have O6 := hid (own_setC O5.out H5.out.row 29 (.slice a5 sm k5))
      clear ho5 hg5 e29 M4 O4 H4
      go_wp2_with fail
      go_ret
      refine ⟨.slice a5 sm k5, rfl, ?_⟩
      have HADD : Hid (addE 0 0 (l.length + ml.length) = 2) := by
        rw [Hid, HLN.out, HMN.out, HSM.out, addE, if_pos rfl]; exact HEE.out
      rw [HML.out, HADD.out, show addL 0 l ml = l ++ ml from rfl]
      exact ⟨H6.out, by rw [List.length_append, HLN.out, HMN.out, HSM.out]; exact O6.out⟩
    · have hlong' : ¬ (1280 : Int) < (ln : Int) + mn := by omega
      have HEE : Hid ((if 0 ≠ (0 : Int) then (0 : Int) else if 1280 < ln + mn then 2 else 0) = 0) := by
        rw [Hid, if_neg hlong]; by_cases h : 0 = (0 : Int) <;> simp [h]
      have H4 := H3
      have O4 := O3
      have M4 := M3
      clear d0 f0 O3 M3 H3 hlong d29
      have d29 := H4.out.cell29
      obtain ⟨_, _, hv, hml, _⟩ := owns_lies (l := ml) (by rw [HMN.out]; exact M4.out)
      have ML : Hid (Lies .u8 w3 ma mn mc ml) := by
        rw [HMN.out] at hv hml
        injection hv with h1 h2 h3
        subst h1; subst h3
        exact hml
      clear hv hml
      have e29 := H4.out.cell29
      have BW := hid H4.out.below.size
      go_wp2_with (at_builtin; refine wpList_appBy rfl _ _ rfl rfl rfl O4.out ML.out ?c1 ?c2 ?_)
      case c1 => exact BW.out
      case c2 => omega
      intro v5 w5 ho5 hg5
      obtain ⟨a5, k5, hv5⟩ := owns_len ho5
      generalize hsm : ln + mn = sm at *
      subst hv5
      have HSM := hid hsm
      clear hsm
      have H5 : Hid (ChAt W w5 c 0 m (.slice oa ln oc)) := hid (H4.out.kept O4.out hg5)
      have O5 := hid ho5
      have f29 := H5.out.row.frozen 29
      have g29 := H5.out.cell29
      have H6 := hid (H5.out.setV (.slice a5 sm k5))
      have O6 := hid (own_setC O5.out H5.out.row 29 (.slice a5 sm k5))
      clear ho5 hg5 e29 M4 O4 H4
      go_wp2_with fail
      go_ret
      refine ⟨.slice a5 sm k5, rfl, ?_⟩
      have HADD : Hid (addE 0 0 (l.length + ml.length) = 0) := by
        rw [Hid, HLN.out, HMN.out, HSM.out, addE, if_pos rfl]; exact HEE.out
      rw [HML.out, HADD.out, show addL 0 l ml = l ++ ml from rfl]
      exact ⟨H6.out, by rw [List.length_append, HLN.out, HMN.out, HSM.out]; exact O6.out⟩
  · have HE : Hid (addE er (0 : Int) (l.length + (hdM m.p).length) = er) := by rw [Hid, addE, if_neg her]
    have HL : Hid (addL er l (hdM m.p) = l) := by rw [Hid, addL, if_neg her]
    have he : (er == 0) = false := by simp [her]
    clear her
    go_enter Tryz.func92, Tryz.ntmps92
    go_wp2_with fail
    refine (fine_any _ c er c0).mono ?_
    rintro x w1 ⟨rfl, rfl⟩
    go_wp2_with fail
    go_ret
    refine ⟨va, rfl, ?_⟩
    rw [HE.out, HL.out]
    exact ⟨H.out, HO.out⟩
set_option maxHeartbeats 1600000 in
theorem add30 {B : Nat} (W w : World) (c : Nat) (er : Int) (m : Mv) (va : Value) (l : List Int) (h : OutAt W w c er m va l) (hm : m.ok W) (hV : CV B W) (hl : l.length ≤ 2000) (hn : m.on ≤ 1000) :
    Calls Tryz.prog 92 #[.pointer (some ⟨c, 0, none⟩), .func (.func 94) #[] #[]] w fun x w' => (∃ vb, x = .returned (.pointer (some ⟨c, 0, none⟩)) ∧ Hid (OutAt W w' c (addE er (encE m.p.o) (l.length + (encsL m.p.o).length)) m vb (addL er l (encsL m.p.o)))) := by
  have H := hid h.ch
  have HO := hid h.out
  have HM := hid (hm.below h.ch.below)
  have HV := hid (hV.below h.ch.below)
  have HA := hid hm.ro
  have c0 := h.ch.cell0
  clear h hm hV
  by_cases her : er = 0
  · subst her
    go_enter Tryz.func92, Tryz.ntmps92
    go_wp2_with fail
    refine (fine_any _ c 0 c0).mono ?_
    rintro x w1 ⟨rfl, rfl⟩
    go_wp2_with (refine ldM m29 _ rfl rfl _ _ rfl m HA.out H.out.part ?_)
    refine (tail_any m _ HM.out HV.out hn).mono ?_
    rintro x w2 ⟨v2, rfl, hown2, hb⟩
    have H2 := hid (H.out.on hb)
    have O2 := hid (own_below HO.out hb)
    have M2 := hid hown2
    have d0 := H2.out.cell0
    have f0 := H2.out.row.frozen 0
    clear hb hown2 H HO HM HV c0
    have hml2 : (encsL m.p.o).length ≤ 2000 := by have := encsL_le m.p.o; omega
    generalize hml0 : encsL m.p.o = ml at *
    have HML := hid hml0
    clear hml0
    generalize hee0 : (encE m.p.o) = ee at *
    have HE0 := hid hee0
    clear hee0
    go_wp2_with fail
    refine (note_any _ c 0 ee d0 f0).mono ?_
    rintro x w3 ⟨rfl, rfl⟩
    have H3 : Hid (ChAt W (notW w2 c 0 ee) c ee m va) := H2.out.note ee
    have O3 := hid (own_notW O2.out H2.out.row ee)
    have M3 := hid (own_notW M2.out H2.out.row ee)
    clear d0 f0 O2 M2
    generalize notW w2 c 0 ee = w3 at *
    obtain ⟨oa, oc, rfl⟩ := owns_len O3.out
    obtain ⟨ma, mc, rfl, hml, _⟩ := owns_lies M3.out
    clear hml
    generalize hln : l.length = ln at *
    generalize hmn : ml.length = mn at *
    have HLN := hid hln
    have HMN := hid hmn
    clear hln hmn
    have d29 := H3.out.cell29
    have d0 := H3.out.cell0
    have f0 := H3.out.row.frozen 0
    by_cases hlong : 1280 < ln + mn
    · have hlong' : (1280 : Int) < (ln : Int) + mn := by omega
      go_wp2_with fail
      refine (note_any _ c ee 2 d0 f0).mono ?_
      rintro x w4 ⟨rfl, rfl⟩
      have O4 := hid (own_notW O3.out H3.out.row 2)
      have M4 := hid (own_notW M3.out H3.out.row 2)
      have H4 := hid (H3.out.note 2)
      have HEE : Hid ((if ee ≠ (0 : Int) then ee else if 1280 < ln + mn then 2 else 0) = if ee = (0 : Int) then 2 else ee) := by
        rw [Hid, if_pos hlong]; by_cases h : ee = (0 : Int) <;> simp [h]
      clear d0 f0 O3 M3 d29 hlong hlong' H3
      generalize notW w3 c ee 2 = w4 at *
      generalize (if ee = (0 : Int) then (2 : Int) else ee) = e2 at *
      obtain ⟨_, _, hv, hml, _⟩ := owns_lies (l := ml) (by rw [HMN.out]; exact M4.out)
      have ML : Hid (Lies .u8 w4 ma mn mc ml) := by
        rw [HMN.out] at hv hml
        injection hv with h1 h2 h3
        subst h1; subst h3
        exact hml
      clear hv hml
      have e29 := H4.out.cell29
      have BW := hid H4.out.below.size
      go_wp2_with (at_builtin; refine wpList_appBy rfl _ _ rfl rfl rfl O4.out ML.out ?c1 ?c2 ?_)
      case c1 => exact BW.out
      case c2 => omega
      intro v5 w5 ho5 hg5
      obtain ⟨a5, k5, hv5⟩ := owns_len ho5
      generalize hsm : ln + mn = sm at *
      subst hv5
      have HSM := hid hsm
      clear hsm
      have H5 : Hid (ChAt W w5 c e2 m (.slice oa ln oc)) := hid (H4.out.kept O4.out hg5)
      have O5 := hid ho5
      have f29 := H5.out.row.frozen 29
      have g29 := H5.out.cell29
      have H6 := hid (H5.out.setV (.slice a5 sm k5))
      have O6 := hid (own_setC O5.out H5.out.row 29 (.slice a5 sm k5))
      clear ho5 hg5 e29 M4 O4 H4
      go_wp2_with fail
      go_ret
      refine ⟨.slice a5 sm k5, rfl, ?_⟩
      have HADD : Hid (addE 0 ee (l.length + ml.length) = e2) := by
        rw [Hid, HLN.out, HMN.out, HSM.out, addE, if_pos rfl]; exact HEE.out
      rw [HML.out, HE0.out, HADD.out, show addL 0 l ml = l ++ ml from rfl]
      exact ⟨H6.out, by rw [List.length_append, HLN.out, HMN.out, HSM.out]; exact O6.out⟩
    · have hlong' : ¬ (1280 : Int) < (ln : Int) + mn := by omega
      have HEE : Hid ((if ee ≠ (0 : Int) then (ee : Int) else if 1280 < ln + mn then 2 else 0) = ee) := by
        rw [Hid, if_neg hlong]; by_cases h : ee = (0 : Int) <;> simp [h]
      have H4 := H3
      have O4 := O3
      have M4 := M3
      clear d0 f0 O3 M3 H3 hlong d29
      have d29 := H4.out.cell29
      obtain ⟨_, _, hv, hml, _⟩ := owns_lies (l := ml) (by rw [HMN.out]; exact M4.out)
      have ML : Hid (Lies .u8 w3 ma mn mc ml) := by
        rw [HMN.out] at hv hml
        injection hv with h1 h2 h3
        subst h1; subst h3
        exact hml
      clear hv hml
      have e29 := H4.out.cell29
      have BW := hid H4.out.below.size
      go_wp2_with (at_builtin; refine wpList_appBy rfl _ _ rfl rfl rfl O4.out ML.out ?c1 ?c2 ?_)
      case c1 => exact BW.out
      case c2 => omega
      intro v5 w5 ho5 hg5
      obtain ⟨a5, k5, hv5⟩ := owns_len ho5
      generalize hsm : ln + mn = sm at *
      subst hv5
      have HSM := hid hsm
      clear hsm
      have H5 : Hid (ChAt W w5 c ee m (.slice oa ln oc)) := hid (H4.out.kept O4.out hg5)
      have O5 := hid ho5
      have f29 := H5.out.row.frozen 29
      have g29 := H5.out.cell29
      have H6 := hid (H5.out.setV (.slice a5 sm k5))
      have O6 := hid (own_setC O5.out H5.out.row 29 (.slice a5 sm k5))
      clear ho5 hg5 e29 M4 O4 H4
      go_wp2_with fail
      go_ret
      refine ⟨.slice a5 sm k5, rfl, ?_⟩
      have HADD : Hid (addE 0 ee (l.length + ml.length) = ee) := by
        rw [Hid, HLN.out, HMN.out, HSM.out, addE, if_pos rfl]; exact HEE.out
      rw [HML.out, HE0.out, HADD.out, show addL 0 l ml = l ++ ml from rfl]
      exact ⟨H6.out, by rw [List.length_append, HLN.out, HMN.out, HSM.out]; exact O6.out⟩
  · have HE : Hid (addE er (encE m.p.o) (l.length + (encsL m.p.o).length) = er) := by rw [Hid, addE, if_neg her]
    have HL : Hid (addL er l (encsL m.p.o) = l) := by rw [Hid, addL, if_neg her]
    have he : (er == 0) = false := by simp [her]
    clear her
    go_enter Tryz.func92, Tryz.ntmps92
    go_wp2_with fail
    refine (fine_any _ c er c0).mono ?_
    rintro x w1 ⟨rfl, rfl⟩
    go_wp2_with fail
    go_ret
    refine ⟨va, rfl, ?_⟩
    rw [HE.out, HL.out]
    exact ⟨H.out, HO.out⟩
theorem chk0_parts {m : Pm} (h : chk0M m = 0) : codB m.c = true ∧ witV m.c.toNat m.vs = true := by
  unfold chk0M at h
  cases h1 : codB m.c <;> cases h2 : frmV m.c.toNat m.vs <;> cases h3 : witV m.c.toNat m.vs <;> simp [h1, h2, h3] at h ⊢
def encA (m : Pm) : List Int := addL (addE (chk0M m) 0 (([] : List Int).length + (hdM m).length)) (addL (chk0M m) [] (hdM m)) (encsL m.o)
def ctB (m : Pm) : Int := addE (addE (chk0M m) 0 (([] : List Int).length + (hdM m).length)) (encE m.o) ((addL (chk0M m) [] (hdM m)).length + (encsL m.o).length)
theorem hdM_24 (m : Pm) (h : codB m.c = true) (ha : m.ro.length = 16) : (hdM m).length ≤ 24 := by
  obtain ⟨k, e, hk⟩ := cod_nat h
  have := hdV_len k hk m.vs
  rw [hdM, e, Int.toNat_natCast, List.length_append]
  split
  · omega
  · simp; omega
theorem enc_add (m : Pm) (ha : m.ro.length = 16) : ctB m = eE m ∧ (eE m = 0 → encA m = eL m) ∧ addE (chk0M m) 0 (([] : List Int).length + (hdM m).length) = chk0M m := by
  have he := encsL_le m.o
  by_cases h : chk0M m = 0
  · have h24 := hdM_24 m (chk0_parts h).1 ha
    have h3 : addE (chk0M m) 0 (([] : List Int).length + (hdM m).length) = chk0M m := by
      rw [addE, if_pos h, if_neg (by decide), if_neg (by simp; omega), h]
    have hB : ctB m = eE m := by
      rw [ctB, h3, addE, if_pos h, addL, if_pos h, List.nil_append, eE, chkM, if_pos h]
    refine ⟨hB, fun h0 => ?_, h3⟩
    rw [encA, h3, addL, if_pos h, addL, if_pos h, List.nil_append, eL, if_pos h0]
  · have h3 : addE (chk0M m) 0 (([] : List Int).length + (hdM m).length) = chk0M m := by rw [addE, if_neg h]
    have hc : chkM m = chk0M m := by rw [chkM, if_neg h]
    have he0 : eE m = chk0M m := by rw [eE, if_pos (by rw [hc]; exact h), hc]
    refine ⟨by rw [ctB, h3, addE, if_neg h, he0], fun h0 => absurd (he0.symm.trans h0) h, h3⟩
theorem encA_le (m : Pm) (ha : m.ro.length = 16) : (addL (chk0M m) [] (hdM m)).length ≤ 2000 := by
  unfold addL
  split
  · rename_i h; have := hdM_24 m (chk0_parts h).1 ha; simp; omega
  · simp
theorem made_any (W w : World) (c : Nat) (er : Int) (m : Mv) (va : Value) (l : List Int) (h : OutAt W w c er m va l) :
    Calls Tryz.prog 95 #[.pointer (some ⟨c, 0, none⟩)] w fun x w' => (∃ v, x = .returned (.tuple #[v, .int .i64 er]) ∧ Hid (w'.ownsRow W.heap.size 5 1 v (if er = 0 then l else []).length (u8s (if er = 0 then l else [])))) ∧ Below W.heap.size W w' := by
  have H := hid h.ch
  have HO := hid h.out
  have c0 := h.ch.cell0
  have c29 := h.ch.cell29
  clear h
  by_cases her : er = 0
  · subst her
    go_enter Tryz.func95, Tryz.ntmps95
    go_wp2_with fail
    refine (fine_any _ c 0 c0).mono ?_
    rintro x w1 ⟨rfl, rfl⟩
    obtain ⟨oa, oc, rfl⟩ := owns_len HO.out
    generalize hln : l.length = ln at *
    have HLN := hid hln
    clear hln
    go_wp2_with fail
    go_ret2
    exact ⟨⟨_, rfl, by rw [HLN.out]; exact HO⟩, H.out.below⟩
  · have he : (er == 0) = false := by simp [her]
    have HX := hid her
    clear her
    go_enter Tryz.func95, Tryz.ntmps95
    go_wp2_with fail
    refine (fine_any _ c er c0).mono ?_
    rintro x w1 ⟨rfl, rfl⟩
    go_wp2_with fail
    go_quiet (fail)
    go_wp2_with fail
    go_ret2
    exact ⟨⟨_, rfl, by first | (rw [if_neg HX.out]; exact World.ownsRow_nil _ _ _ _) | exact World.ownsRow_nil _ _ _ _⟩, H.out.below.trans ⟨rfl, rfl, rfl, Nat.le_refl _, fun _ _ => rfl⟩⟩
theorem cEncode_any {B : Nat} (m : Mv) (w : World) (hm : m.ok w) (hV : CV B w) (hn : m.on ≤ 1000) :
    Calls Tryz.prog 55 #[.agg m.cs] w fun x w' => (∃ v, x = .returned (.tuple #[v, .int .i64 (eE m.p)]) ∧ Hid (w'.ownsRow w.heap.size 5 1 v (eL m.p).length (u8s (eL m.p)))) ∧ Below w.heap.size w w' := by
  have R1 := hid (Row.new w 38 m.cs)
  have B1 := hid (balloc (Below.refl w.heap.size w) (.cells m.cs 38))
  have M1 := hid (hm.below B1.out)
  have V1 := hid (hV.below B1.out)
  have HA := hid hm.ro
  have HE := hid (enc_add m.p hm.ro.1)
  have HL := hid (encA_le m.p hm.ro.1)
  clear hm hV
  go_enter Tryz.func55, Tryz.ntmps55
  go_upto_region 1 with fail
  generalize w.alloc (.cells m.cs 38) = w1 at *
  go_wp2_with (refine ldM m29 _ rfl rfl _ _ rfl m HA.out R1.out.part ?_)
  refine (checked_any m _ M1.out V1.out).mono ?_
  rintro x w2 ⟨c, rfl, hC⟩
  have O2 : Hid (OutAt w1 w2 c (chk0M m.p) m (.slice none 0 0) []) := ⟨hC.out, World.ownsRow_nil _ _ _ _⟩
  clear hC
  go_wp2_with fail
  refine (add29 w1 _ c _ m _ [] O2.out M1.out V1.out (by simp) (fun h => chk0_parts h)).mono ?_
  rintro x w3 ⟨vb, rfl, hO⟩
  have O3 := hid hO.out
  clear hO
  go_wp2_with fail
  refine (add30 w1 _ c _ m _ _ O3.out M1.out V1.out HL.out hn).mono ?_
  rintro x w4 ⟨vc, rfl, hO⟩
  have O4 : Hid (OutAt w1 w4 c (ctB m.p) m vc (encA m.p)) := hO
  clear hO
  go_wp2_with fail
  refine (made_any w1 _ c _ m vc _ O4.out).mono ?_
  rintro x w5 ⟨⟨v, rfl, hown⟩, hb⟩
  have HL2 : Hid ((if ctB m.p = 0 then encA m.p else []) = eL m.p) := by
    rw [Hid, HE.out.1]
    split
    · rename_i h; exact HE.out.2.1 h
    · rename_i h; rw [eL, if_neg h]
  rw [HL2.out] at hown
  have O5 := hid (own_mono hown.out B1.out.size)
  have B5 := hid (bthen B1.out hb)
  clear hown hb
  rw [HE.out.1]
  go_wp2_with fail
  go_ret2
  exact ⟨⟨_, rfl, O5⟩, B5.out⟩
end Go.Proofs.YtbklpelikaapoaaGreatDoor

namespace Go.Proofs.YtbklpelikaapoaaGreatDoor
open Go.ChangeShapes Go.WideShapes Go.ChangeAt Go.RowKit Go.Deep
set_option linter.unusedVariables false
set_option linter.unusedSimpArgs false
set_option maxRecDepth 100000

theorem g0 : Tryz.prog.globalNamed "rivulet/option.shapes" = some 1 := by kernel_rfl
theorem gt0 : (Tryz.prog.globals[1]?).map (·.type) = some 238 := by kernel_rfl
theorem u63 : Tryz.prog.underlying 238 = some (.array 10 237) := by kernel_rfl
theorem u62 : Tryz.prog.underlying 237 = some (.struct (Tryz.prog.fieldsOf 237)) := by kernel_rfl
theorem u87 : Tryz.prog.underlying 240 = some (.struct (Tryz.prog.fieldsOf 240)) := by kernel_rfl
theorem u60 : Tryz.prog.underlying 234 = some (.slice 240) := by kernel_rfl
theorem c62 : Tryz.prog.cellsOf 237 = 4 := by kernel_rfl
theorem c63 : Tryz.prog.cellsOf 238 = 40 := by kernel_rfl
theorem c87 : Tryz.prog.cellsOf 240 = 2 := by kernel_rfl
theorem c60 : Tryz.prog.cellsOf 234 = 1 := by kernel_rfl
theorem c9 : Tryz.prog.cellsOf 9 = 1 := by kernel_rfl
theorem c4 : Tryz.prog.cellsOf 4 = 1 := by kernel_rfl
theorem c3o : Tryz.prog.cellsOf 3 = 1 := by kernel_rfl
theorem fs62 : (Tryz.prog.fieldsOf 237).toList.map (fun f => (f.type, f.offset)) = [(9, 0), (234, 1), (4, 2), (4, 3)] := by kernel_rfl
theorem fs87 : (Tryz.prog.fieldsOf 240).toList.map (fun f => (f.type, f.offset)) = [(3, 0), (3, 1)] := by kernel_rfl

/-- The fields of a struct, each read by itself. -/
theorem fields_of {H : Type} {enc : TypeId × Value → H} {W : World} {held : Bool} {fuel : Nat} {t : TypeId} {cs : List Value} {x : DataW H × List MemPlace} (hu : Tryz.prog.underlying t = some (.struct (Tryz.prog.fieldsOf t)))
    (l : List (TypeId × Nat)) (hl : (Tryz.prog.fieldsOf t).toList.map (fun f => (f.type, f.offset)) = l) (h : DataW.trod enc Tryz.prog W 0 (fun _ => true) held fuel t cs = some x) :
    ∃ (xs : List (DataW H × List MemPlace)) (n : Nat), x = (.agg (xs.map (·.1)), xs.flatMap (·.2)) ∧ cs.length = Tryz.prog.cellsOf t ∧ xs.length = l.length ∧
      ∀ (i : Nat) (ty : TypeId) (o : Nat), l[i]? = some (ty, o) → DataW.trod enc Tryz.prog W 0 (fun _ => true) held n ty ((cs.drop o).take (Tryz.prog.cellsOf ty)) = xs[i]? := by
  obtain ⟨xs, n, _, hx, hlen, hxl, hall⟩ := DataW.trod_struct hu h
  have hsz : (Tryz.prog.fieldsOf t).size = l.length := by have := congrArg List.length hl; simpa using this
  refine ⟨xs, n, hx, hlen, hxl.trans hsz, ?_⟩
  intro i ty o he
  have hi : i < (Tryz.prog.fieldsOf t).size := by rw [hsz]; exact (List.getElem?_eq_some_iff.1 he).1
  have e1 := congrArg (·[i]?) hl
  simp only [List.getElem?_map, he] at e1
  have e2 : (Tryz.prog.fieldsOf t).toList[i]? = some (Tryz.prog.fieldsOf t)[i] := by simp [hi]
  rw [e2] at e1
  simp only [Option.map_some, Option.some.injEq, Prod.mk.injEq] at e1
  have := hall i _ (Array.getElem?_eq_getElem hi)
  rw [e1.1, e1.2] at this
  exact this

/-- A part as a datum. -/
def pd {H : Type} (p : Int × Int) : DataW H := .agg [.lit (.int .i64 p.1), .lit (.int .i64 p.2)]
def pdat {H : Type} (l : List (Int × Int)) : DataW H := match l with | [] => .nil | _ => .slice (l.map pd) []
theorem pd_inj {H : Type} (p q : Int × Int) (h : (pd p : DataW H) = pd q) : p = q := by
  simp [pd] at h; exact Prod.ext h.1 h.2
theorem part_of {H : Type} {enc : TypeId × Value → H} {W : World} {held : Bool} {fuel : Nat} {cs : List Value} {x : DataW H × List MemPlace} (h : DataW.trod enc Tryz.prog W 0 (fun _ => true) held fuel 240 cs = some x) :
    ∃ p : Int × Int, cs = [.int .i64 p.1, .int .i64 p.2] ∧ x.1 = pd p := by
  obtain ⟨xs, n, rfl, hlen, hxl, hall⟩ := fields_of u87 _ fs87 h
  rw [c87] at hlen
  match xs, hxl, cs, hlen with
  | [y0, y1], _, [v0, v1], _ =>
    have h0 := hall 0 3 0 rfl
    have h1 := hall 1 3 1 rfl
    rw [c3o] at h0 h1
    simp at h0 h1
    obtain ⟨z0, e0, f0, _⟩ := DataW.trod_int Tryz.underlying3 h0
    obtain ⟨z1, e1, f1, _⟩ := DataW.trod_int Tryz.underlying3 h1
    simp at e0 e1
    subst e0; subst e1
    refine ⟨(z0, z1), rfl, ?_⟩
    simp [pd, f0, f1]
theorem parts_of {H : Type} {enc : TypeId × Value → H} {W : World} {held : Bool} {fuel : Nat} {cs : List Value} {x : DataW H × List MemPlace} (l : List (Int × Int)) (h : DataW.trod enc Tryz.prog W 0 (fun _ => true) held fuel 234 cs = some x) (hx : x.1 = pdat l) :
    ∃ a n cap, cs = [.slice a n cap] ∧ PLies W.heap.size W a n cap l := by
  rcases open_slice u60 h with ⟨hcs, rfl⟩ | ⟨ad, len, cap, m, n, D, Pl, hcs, _, hl, hm, hmm, rfl, hall⟩
  · match l, hx with
    | [], _ => exact ⟨none, 0, 0, hcs, rfl, Nat.le_refl _, by decide, fun i hi => by omega⟩
    | p :: l, hx => simp [pdat] at hx
  · match l, hx with
    | [], hx => simp [pdat] at hx
    | p :: l, hx =>
      generalize p :: l = L at *
      have hx : (DataW.slice ((List.range len).map D) ((List.range (m - len)).map fun j => D (len + j)) : DataW H) = .slice (L.map pd) [] := by
        simp only [pdat] at hx
        split at hx
        · cases hx
        · exact hx
      injection hx with hx1 _
      have hlen : L.length = len := by have := congrArg List.length hx1; simpa using this.symm
      have hspot : len ≠ 0 → ad.spot = none := by
        intro h0
        obtain ⟨cs', h1, h2⟩ := hall 0 (by simp at hmm; omega)
        rw [c87] at h1
        obtain ⟨_, hl2, hc⟩ := World.cells?_some h1
        have e0 := hc 0 (by omega)
        rw [List.getElem?_eq_getElem (by omega)] at e0
        exact World.cell?_spot (by simpa [Addr.add] using e0)
      obtain ⟨b, off, spot⟩ := ad
      refine ⟨some ⟨b, off, spot⟩, len, cap, hcs, hlen, hl, hm, fun i hi => ?_⟩
      have hs := hspot (by omega)
      simp only at hs
      subst hs
      obtain ⟨cs', h1, h2⟩ := hall i (by simp at hmm; omega)
      rw [c87] at h1
      obtain ⟨_, hl2, hc⟩ := World.cells?_some h1
      obtain ⟨q, rfl, hq⟩ := part_of h2
      have hDi : D i = pd (L.getD i (0, 0)) := by
        have := congrArg (·[i]?) hx1
        simp only [List.getElem?_map, List.getElem?_range hi, Option.map_some] at this
        rw [List.getElem?_eq_getElem (by omega)] at this
        simp only [Option.map_some, Option.some.injEq] at this
        rw [this]; simp [show i < L.length by omega]
      have hqq : q = L.getD i (0, 0) := pd_inj _ _ (hq.symm.trans hDi)
      subst hqq
      have e0 := hc 0 (by omega)
      have e1 := hc 1 (by omega)
      simp only [Addr.add_lit, Nat.add_zero, List.getElem?_cons_zero, List.getElem?_cons_succ] at e0 e1
      exact ⟨b, off, rfl, World.block_lt_of_cell? W _ e0, e0, e1⟩
/-- A kind as a datum. -/
def shD {H : Type} (k : Nat) : DataW H := .agg [.lit (.string (wrd k).data.toList), pdat (prt k), .lit (.bool (zer k)), .lit (.bool (txb k))]
theorem laid_eq : (Rows.laid_rivulet_option_shapes : DataW Unit) = .agg ((List.range 10).map shD) := by kernel_rfl
theorem shape_of {enc : TypeId × Value → Unit} {W : World} {held : Bool} {fuel : Nat} {cs : List Value} {x : DataW Unit × List MemPlace} (k : Nat) (h : DataW.trod enc Tryz.prog W 0 (fun _ => true) held fuel 237 cs = some x) (hx : x.1 = shD k) :
    ∃ a n cap, cs = [.string (wrd k), .slice a n cap, .bool (zer k), .bool (txb k)] ∧ PLies W.heap.size W a n cap (prt k) := by
  obtain ⟨xs, n, rfl, hlen, hxl, hall⟩ := fields_of u62 _ fs62 h
  rw [c62] at hlen
  match xs, hxl, cs, hlen with
  | [y0, y1, y2, y3], _, [v0, v1, v2, v3], _ =>
    have h0 := hall 0 9 0 rfl
    have h1 := hall 1 234 1 rfl
    have h2 := hall 2 4 2 rfl
    have h3 := hall 3 4 3 rfl
    rw [c9] at h0
    rw [c60] at h1
    rw [c4] at h2 h3
    simp at h0 h1 h2 h3
    simp [shD] at hx
    obtain ⟨s, e0, f0, _⟩ := DataW.trod_string Tryz.underlying9 h0
    obtain ⟨a, m, cap, e1, hP⟩ := parts_of (prt k) h1 hx.2.1
    obtain ⟨b2, e2, f2⟩ := DataW.trod_bool Tryz.underlying4 h2
    obtain ⟨b3, e3, f3⟩ := DataW.trod_bool Tryz.underlying4 h3
    simp at e0 e1 e2 e3
    subst e0; subst e1; subst e2; subst e3
    rw [f0, f2, f3] at hx
    simp at hx
    obtain ⟨q0, _, q2, q3⟩ := hx
    refine ⟨a, m, cap, ?_, hP⟩
    have hs : s = wrd k := by
      have : s.data = (wrd k).data := by simpa using q0
      cases s; cases hw : wrd k; simp_all
    rw [hs, q2, q3]
theorem vars_of {W : World} (h : laidMet Tryz.prog [("rivulet/option.shapes", Rows.laid_rivulet_option_shapes), ("rivulet/control.shapes", Rows.laid_rivulet_control_shapes)] W) : Vars W.heap.size W := by
  obtain ⟨ps, ⟨g, t, cs, fuel, p, q, hg, ht, hvar, hd, _, _⟩, _⟩ := h
  obtain rfl := Option.some.inj (g0.symm.trans hg)
  obtain rfl := Option.some.inj (gt0.symm.trans ht)
  rw [laid_eq] at hd
  obtain ⟨xs, m, _, hx, hlen, hxl, hall⟩ := DataW.trod_array u63 hd
  have hx1 : (DataW.agg ((List.range 10).map shD) : DataW Unit) = .agg (xs.map (·.1)) := congrArg Prod.fst hx
  injection hx1 with hx1
  rw [c63] at hlen
  rw [c62] at hall
  have key : ∀ k, k < 10 → ∃ a n cap, (cs.toList.drop (k * 4)).take 4 = [.string (wrd k), .slice a n cap, .bool (zer k), .bool (txb k)] ∧ PLies W.heap.size W a n cap (prt k) := by
    intro k hk
    have h1 := hall k hk
    rw [List.getElem?_eq_getElem (by omega)] at h1
    refine shape_of k h1 ?_
    have := congrArg (·[k]?) hx1
    simp only [List.getElem?_map, List.getElem?_range hk, Option.map_some] at this
    rw [List.getElem?_eq_getElem (by omega)] at this
    simpa using this.symm
  have cell : ∀ k j v, k < 10 → j < 4 → ((cs.toList.drop (k * 4)).take 4)[j]? = some v → W.cell? ⟨1, k * 4 + j, none⟩ = some v := by
    intro k j v hk hj hv
    have h0 := World.var?_cell g0 hvar (k * 4 + j)
    rw [h0]
    rw [List.getElem?_take, if_pos hj, List.getElem?_drop] at hv
    simpa using hv
  have c0 : W.cell? ⟨1, 0, none⟩ = some (.string (wrd 0)) := by
    obtain ⟨a, n, cap, e, _⟩ := key 0 (by decide)
    exact cell 0 0 _ (by decide) (by decide) (by rw [e]; rfl)
  refine ⟨World.block_lt_of_cell? W _ c0, Nat.le_refl _, fun k hk => ?_, fun k hk => ?_, fun k hk => ?_, fun k hk => ?_⟩
  · obtain ⟨a, n, cap, e, _⟩ := key k hk
    exact cell k 0 _ hk (by decide) (by rw [e]; rfl)
  · obtain ⟨a, n, cap, e, hP⟩ := key k hk
    exact ⟨a, n, cap, cell k 1 _ hk (by decide) (by rw [e]; rfl), hP⟩
  · obtain ⟨a, n, cap, e, _⟩ := key k hk
    exact cell k 2 _ hk (by decide) (by rw [e]; rfl)
  · obtain ⟨a, n, cap, e, _⟩ := key k hk
    exact cell k 3 _ hk (by decide) (by rw [e]; rfl)

/-! How options that came in are opened. -/
theorem u38 : Tryz.prog.underlying 116 = some (.struct (Tryz.prog.fieldsOf 116)) := by kernel_rfl
theorem fs38 : (Tryz.prog.fieldsOf 116).toList.map (fun f => (f.type, f.offset)) = [(3, 0), (114, 1), (22, 2), (30, 18)] := by kernel_rfl
theorem c38 : Tryz.prog.cellsOf 116 = 19 := by kernel_rfl
theorem c35 : Tryz.prog.cellsOf 114 = 1 := by kernel_rfl
theorem c36 : Tryz.prog.cellsOf 22 = 16 := by kernel_rfl
theorem c26 : Tryz.prog.cellsOf 30 = 1 := by kernel_rfl
theorem adr_of {H : Type} {enc : TypeId × Value → H} {W : World} {held : Bool} {fuel : Nat} {cs : List Value} {x : DataW H × List MemPlace} (h : DataW.trod enc Tryz.prog W 0 (fun _ => true) held fuel 22 cs = some x) : ∃ l, cs = u8s l ∧ Adr l := by
  obtain ⟨xs, m, _, hx, hlen, hxl, hall⟩ := DataW.trod_array Tryz.underlying22 h
  rw [c36] at hlen
  rw [c5] at hall
  have key : ∀ i, i < 16 → ∃ z, cs[i]? = some (.int .u8 z) ∧ 0 ≤ z ∧ z < 256 := by
    intro i hi
    have h1 := hall i hi
    rw [Nat.mul_one, List.getElem?_eq_getElem (by omega)] at h1
    obtain ⟨z, hz, _, hw⟩ := DataW.trod_int Tryz.underlying5 h1
    have h2 : cs[i]? = some (.int .u8 z) := by
      have := congrArg (·[0]?) hz
      simpa [List.getElem?_take, List.getElem?_drop] using this
    exact ⟨z, h2, wf_u8 hw⟩
  refine ⟨cs.map intOf, ?_, ?_, ?_⟩
  · apply List.ext_getElem?
    intro i
    by_cases hi : i < 16
    · obtain ⟨z, hz, _⟩ := key i hi
      simp only [u8s, List.getElem?_map, hz, Option.map_some, intOf]
    · rw [List.getElem?_eq_none (by omega), List.getElem?_eq_none (by simp [u8s]; omega)]
  · simpa using hlen
  · intro x hx
    simp only [List.mem_map] at hx
    obtain ⟨v, hv, rfl⟩ := hx
    obtain ⟨i, hi, rfl⟩ := List.mem_iff_getElem.1 hv
    obtain ⟨z, hz, h0, h1⟩ := key i (by omega)
    rw [List.getElem?_eq_getElem hi] at hz
    rw [Option.some.inj hz]
    exact ⟨h0, h1⟩
theorem row_of {H : Type} {enc : TypeId × Value → H} {W : World} {held : Bool} {fuel : Nat} {cs : List Value} {x : DataW H × List MemPlace} {t e : TypeId} {kd : IntKind} (ht : Tryz.prog.underlying t = some (.slice e)) (he : Tryz.prog.underlying e = some (.int kd)) (hc : Tryz.prog.cellsOf e = 1)
    (h : DataW.trod enc Tryz.prog W 0 (fun _ => true) held fuel t cs = some x) : ∃ (a : Option Addr) (n cap : Nat) (zs : List Int), cs = [.slice a n cap] ∧ IsRow kd W a n cap zs := by
  rcases open_ints ht he hc h with ⟨hcs, _⟩ | ⟨y, l', c', zs, hcs, _, hl', hm', hz', _, hc', hwz⟩
  · exact ⟨none, 0, 0, [], hcs, .inl ⟨rfl, rfl, rfl, rfl⟩⟩
  · exact ⟨some y, l', c', zs, hcs, .inr ⟨y, rfl, hl', hm', by simpa using hz', hc', hwz⟩⟩
end Go.Proofs.YtbklpelikaapoaaGreatDoor

namespace Go.Proofs.YtbklpelikaapoaaGreatDoor
open Go.ChangeShapes Go.WideShapes Go.ChangeAt Go.RowKit Go.Deep
set_option linter.unusedVariables false
set_option linter.unusedSimpArgs false

def chsL : List ByteArray := [⟨#[]⟩, ⟨#[120]⟩, ⟨#[116]⟩, ⟨#[112, 49, 52, 97]⟩, ⟨#[49, 49, 49, 49, 50, 50, 50, 122, 49, 50]⟩, ⟨#[49, 112, 97]⟩, ⟨#[49, 49, 49, 49]⟩, ⟨#[49, 49, 97, 49]⟩, ⟨#[112, 49, 52, 52, 113, 97]⟩, ⟨#[52]⟩]
/-- A kind's letters. -/
def chs (k : Nat) : ByteArray := chsL.getD k ⟨#[]⟩
end Go.Proofs.YtbklpelikaapoaaGreatDoor

namespace Go.Proofs.YtbklpelikaapoaaGreatDoor
open Go.ChangeShapes Go.WideShapes Go.ChangeAt Go.RowKit
set_option linter.unusedVariables false
set_option linter.unusedSimpArgs false

end Go.Proofs.YtbklpelikaapoaaGreatDoor

namespace Go.Proofs.YtbklpelikaapoaaGreatDoor
open Go.ChangeShapes Go.WideShapes Go.ChangeAt Go.RowKit Go.Deep
set_option linter.unusedVariables false
set_option linter.unusedSimpArgs false

/-- A kind's letters as numbers. -/
def cl (k : Nat) : List Int := (chs k).data.toList.map (fun b => (b.toNat : Int))
theorem cl_len (k : Nat) : (cl k).length = (chs k).size := by rw [cl, List.length_map, Array.length_toList]; rfl
theorem zarr : (#[Value.int .u8 0, .int .u8 0, .int .u8 0, .int .u8 0, .int .u8 0, .int .u8 0, .int .u8 0, .int .u8 0, .int .u8 0, .int .u8 0, .int .u8 0, .int .u8 0, .int .u8 0, .int .u8 0, .int .u8 0, .int .u8 0] : Array Value) = arr zeros := rfl
end Go.Proofs.YtbklpelikaapoaaGreatDoor

namespace Go.Proofs.YtbklpelikaapoaaGreatDoor
open Go.ChangeShapes Go.WideShapes Go.ChangeAt Go.RowKit Go.Deep
set_option linter.unusedVariables false
set_option linter.unusedSimpArgs false

/-- A guard: the goal is a list of operations. -/
theorem wpl_id {P : Program} {ops : Array Oper} {Q : Exit → Act → World → Prop} {o : Oper} {rest : List Oper} {a : Act} {w : World} (h : wpList P ops Q (o :: rest) a w) : wpList P ops Q (o :: rest) a w := h
theorem getD_mem (l : List Int) (j : Nat) (h : j < l.length) : l.getD j 0 ∈ l := by simp [h]
end Go.Proofs.YtbklpelikaapoaaGreatDoor

namespace Go.Proofs.YtbklpelikaapoaaGreatDoor
open Go.ChangeShapes Go.WideShapes Go.ChangeAt Go.RowKit Go.Deep
set_option linter.unusedVariables false
set_option linter.unusedSimpArgs false

end Go.Proofs.YtbklpelikaapoaaGreatDoor

namespace Go.Proofs.YtbklpelikaapoaaGreatDoor
open Go.ChangeShapes Go.WideShapes Go.ChangeAt Go.RowKit Go.Deep
set_option linter.unusedVariables false
set_option linter.unusedSimpArgs false

end Go.Proofs.YtbklpelikaapoaaGreatDoor

namespace Go.Proofs.YtbklpelikaapoaaGreatDoor
open Go.ChangeShapes Go.WideShapes Go.ChangeAt Go.RowKit Go.Deep
set_option linter.unusedVariables false
set_option linter.unusedSimpArgs false

/-- Numbers of options that are those of the type. -/
def Wfo (L : List Ov) : Prop := ∀ o ∈ L, ∀ x ∈ o.n.l, (Lit.int .i64 x).wf = true
end Go.Proofs.YtbklpelikaapoaaGreatDoor

namespace Go.Proofs.YtbklpelikaapoaaGreatDoor
open Go.ChangeShapes Go.WideShapes Go.ChangeAt Go.RowKit Go.Deep
set_option linter.unusedVariables false
set_option linter.unusedSimpArgs false

theorem opt_ofw {H : Type} {enc : TypeId × Value → H} {W : World} {held : Bool} {fuel : Nat} {cs : List Value} {x : DataW H × List MemPlace} (h : DataW.trod enc Tryz.prog W 0 (fun _ => true) held fuel 116 cs = some x) : ∃ o : Ov, cs = o.cs.toList ∧ o.ok W ∧ ∀ x ∈ o.n.l, (Lit.int .i64 x).wf = true := by
  obtain ⟨xs, n, rfl, hlen, hxl, hall⟩ := fields_of u38 _ fs38 h
  rw [c38] at hlen
  have key : ∀ (i : Nat) (ty : TypeId) (o : Nat), [(3, 0), (114, 1), (22, 2), (30, 18)][i]? = some (ty, o) → ∃ y, DataW.trod enc Tryz.prog W 0 (fun _ => true) held n ty ((cs.drop o).take (Tryz.prog.cellsOf ty)) = some y := by
    intro i ty o he
    have hi : i < 4 := (List.getElem?_eq_some_iff.1 he).1
    have := hall i ty o he
    rw [List.getElem?_eq_getElem (by rw [hxl]; exact hi)] at this
    exact ⟨_, this⟩
  obtain ⟨y0, h0⟩ := key 0 3 0 rfl
  obtain ⟨y1, h1⟩ := key 1 114 1 rfl
  obtain ⟨y2, h2⟩ := key 2 22 2 rfl
  obtain ⟨y3, h3⟩ := key 3 30 18 rfl
  rw [c3o] at h0
  rw [c35] at h1
  rw [c36] at h2
  rw [c26] at h3
  obtain ⟨k, e0, _⟩ := DataW.trod_int Tryz.underlying3 h0
  obtain ⟨na, nl, nc, nz, e1, hr1⟩ := row_of Tryz.underlying114 Tryz.underlying3 c3o h1
  obtain ⟨ad, e2, hA⟩ := adr_of h2
  obtain ⟨ta, tl, tc, tz, e3, hr3⟩ := row_of Tryz.underlying30 Tryz.underlying5 c5 h3
  refine ⟨⟨k, ⟨na, nl, nc, nz.take nl⟩, ad, ⟨ta, tl, tc, tz.take tl⟩⟩, ?_, ⟨hr1.lies, hA, hr3.lies, oct_take hr3.oct _⟩, fun x hx => hr1.wf x (List.mem_of_mem_take hx)⟩
  have s0 : cs = cs.take 1 ++ ((cs.drop 1).take 1 ++ ((cs.drop 2).take 16 ++ (cs.drop 18).take 1)) := by
    have t3 : (cs.drop 18).take 1 = cs.drop 18 := List.take_of_length_le (by simp; omega)
    have t2 : (cs.drop 2).take 16 ++ cs.drop 18 = cs.drop 2 := by
      have := List.take_append_drop 16 (cs.drop 2)
      rwa [List.drop_drop] at this
    have t1 : (cs.drop 1).take 1 ++ cs.drop 2 = cs.drop 1 := by
      have := List.take_append_drop 1 (cs.drop 1)
      rwa [List.drop_drop] at this
    rw [t3, t2, t1, List.take_append_drop]
  rw [List.drop_zero] at e0
  rw [s0, e0, e1, e2, e3]
  simp [Ov.cs, arr, Txt.v]
/-- Options whose numbers are int's. -/
def OptsW (w : World) (a : Option Addr) (n cap : Nat) (L : List Ov) : Prop := Opts w a n cap L ∧ Wfo L
theorem open_optsw {H : Type} {enc : TypeId × Value → H} {W : World} {held : Bool} {a : Option Addr} {len cap : Nat} {d : DataW H} {p : List MemPlace}
    (h : DataW.Trod enc Tryz.prog W 0 (fun _ => true) held 25 (.slice a len cap) d p) : ∃ L, OptsW W a len cap L := by
  obtain ⟨fuel, hf⟩ := h
  rcases open_slice Tryz.underlying25 hf with ⟨hcs, _⟩ | ⟨ad, l, c, m, n, D, Pl, hcs, _, hl, hm, hmm, _, hall⟩
  · simp [Value.cells] at hcs
    obtain ⟨rfl, rfl, rfl⟩ := hcs
    exact ⟨[], Opts.none W, fun o ho => by cases ho⟩
  · simp [Value.cells] at hcs
    obtain ⟨rfl, rfl, rfl⟩ := hcs
    have hm' : m = cap := by simpa using hmm
    subst hm'
    rw [c38] at hall
    have key : ∀ i, ∃ o : Ov, i < len → (∀ j, j < 19 → W.cell? ((ad.add (i * 19)).add j) = o.cs[j]?) ∧ o.ok W ∧ ∀ x ∈ o.n.l, (Lit.int .i64 x).wf = true := by
      intro i
      by_cases hi : i < len
      · obtain ⟨cs', h1, h2⟩ := hall i (by omega)
        obtain ⟨_, hlen, hcell⟩ := World.cells?_some h1
        obtain ⟨o, rfl, hok⟩ := opt_ofw h2
        exact ⟨o, fun _ => ⟨fun j hj => by rw [hcell j hj]; simp, hok⟩⟩
      · exact ⟨Ov.zero, fun h => absurd h hi⟩
    obtain ⟨f, hf'⟩ := Classical.axiomOfChoice key
    refine ⟨(List.range len).map f, ⟨by simp, hl, hm, (fun h => by cases h), ?_, ?_⟩, ?_⟩
    · intro k hk
      have hspot : ad.spot = none := by
        have h0 := (hf' 0 (by omega)).1 0 (by decide)
        rw [Ov.at0] at h0
        exact World.cell?_spot (by simpa [Addr.add] using h0)
      obtain ⟨b, off, spot⟩ := ad
      simp at hspot
      subst hspot
      refine ⟨b, off, rfl, ?_⟩
      intro j v hv
      have hA := (hf' k hk).2.1.ad
      have e : ((List.range len).map f).getD k Ov.zero = f k := by simp [hk]
      rw [e] at hv
      have hj : j < 19 := by have := (Array.getElem?_eq_some_iff.1 hv).1; rw [Ov.size hA] at this; exact this
      have := (hf' k hk).1 j hj
      rw [Addr.add_lit, Addr.add_lit] at this
      rw [this]; exact hv
    · intro o ho
      simp at ho
      obtain ⟨i, hi, rfl⟩ := ho
      exact (hf' i hi).2.1
    · intro o ho
      simp at ho
      obtain ⟨i, hi, rfl⟩ := ho
      exact (hf' i hi).2.2
end Go.Proofs.YtbklpelikaapoaaGreatDoor

namespace Go.Proofs.YtbklpelikaapoaaGreatDoor
open Go.ChangeShapes Go.WideShapes Go.ChangeAt Go.RowKit Go.Deep
set_option linter.unusedVariables false
set_option linter.unusedSimpArgs false

end Go.Proofs.YtbklpelikaapoaaGreatDoor

namespace Go.Proofs.YtbklpelikaapoaaGreatDoor
open Go.ChangeShapes Go.WideShapes Go.ChangeAt Go.RowKit Go.Deep
set_option linter.unusedVariables false
set_option linter.unusedSimpArgs false

/-- A message with other options. -/
def Mv.opt (m : Mv) (oa : Option Addr) (on oc : Nat) (L : List Ov) : Mv := { m with oa := oa, on := on, oc := oc, L := L }
/-- Options whose lists are short. -/
def Sml (L : List Ov) : Prop := ∀ o ∈ L, o.n.n ≤ 100000 ∧ o.t.n ≤ 100000
theorem cut_src {L L' : List Ov} (hp : pos L' = ((pos L).take 20).map cutP) : ∀ o ∈ L', ∃ o2 ∈ L, o.n.l = o2.n.l.take 12 ∧ o.t.l = o2.t.l.take 100 := by
  intro o ho
  have hm : o.p ∈ ((pos L).take 20).map cutP := by rw [← hp]; exact List.mem_map_of_mem ho
  obtain ⟨q, hq1, hq⟩ := List.mem_map.1 hm
  obtain ⟨o2, ho2, rfl⟩ := List.mem_map.1 (List.mem_of_mem_take hq1)
  exact ⟨o2, ho2, (congrArg Po.n hq).symm, (congrArg Po.t hq).symm⟩
theorem cut_wf {L L' : List Ov} (hp : pos L' = ((pos L).take 20).map cutP) (hwf : Wfo L) : Wfo L' := fun o ho x hx => by
  obtain ⟨o2, ho2, e1, _⟩ := cut_src hp o ho
  rw [e1] at hx
  exact hwf o2 ho2 x (List.mem_of_mem_take hx)
theorem cut_sml {w : World} {a : Option Addr} {n cap : Nat} {L L' : List Ov} (hp : pos L' = ((pos L).take 20).map cutP) (hO : Opts w a n cap L') : Sml L' := fun o ho => by
  obtain ⟨o2, ho2, e1, e2⟩ := cut_src hp o ho
  have h1 := (hO.ok o ho).n.1
  have h2 := (hO.ok o ho).t.1
  rw [e1, List.length_take] at h1
  rw [e2, List.length_take] at h2
  omega
/-- A text that was there before stays. -/
theorem text_keep {w w1 w3 : World} {a : Option Addr} {n cap n2 cap2 : Nat} {l l2 : List Int} (h1 : Lies .u8 w1 a n cap l) (hb1 : Below w.heap.size w w1) (hb3 : Below w.heap.size w w3) (h2 : Lies .u8 w a n2 cap2 l2) (hn : n ≤ n2) : Lies .u8 w3 a n cap l := by
  refine ⟨h1.1, h1.2.1, h1.2.2.1, h1.2.2.2.1, fun k hk => ?_⟩
  obtain ⟨b, off, e, hc⟩ := h1.2.2.2.2 k hk
  obtain ⟨b', off', e', hc'⟩ := h2.2.2.2.2 k (by omega)
  rw [e] at e'
  injection e' with e'
  injection e' with e1 e2 e3
  subst e1; subst e2
  have hlt : b < w.heap.size := World.block_lt_of_cell? w _ hc'
  refine ⟨b, off, e, ?_⟩
  have c1 := hb1.cell (p := ⟨b, off + k, none⟩) hlt
  have c3 := hb3.cell (p := ⟨b, off + k, none⟩) hlt
  rw [c3, ← c1]; exact hc
theorem opts_own {w : World} {base : Nat} {e : TypeId} {a : Option Addr} {n cap : Nat} {L : List Ov} (hn : L.length = n) (h : w.ownsRow base e 19 (.slice a n cap) n (ocs L)) (hok : ∀ o ∈ L, o.ok w) : Opts w a n cap L := by
  subst hn
  obtain ⟨a', cap', e', hO⟩ := owns_opts h hok
  injection e' with e1 e2 e3
  rw [e1, e3]; exact hO
set_option maxRecDepth 100000 in
set_option maxHeartbeats 1600000 in
theorem cTo_any (m : Mv) (w : World) (hm : m.ok w) (hwf : Wfo m.L) : Calls Tryz.prog 18 #[.agg m.cs] w fun e w' => (∃ m' : Mv, e = .returned (.agg m'.cs) ∧ m'.on ≤ 20 ∧ Hid (m'.ok w') ∧ Hid (Wfo m'.L) ∧ Hid (Sml m'.L) ∧ m'.c = m.c) ∧ Below w.heap.size w w' := by
  have hz := zmv
  have HA := hid hm.ro
  have R1 := hid ((Row.new w 27 m.cs).alloc (.cells Mv.zero.cs 38))
  have Z1 := hid (Row.new (w.alloc (.cells m.cs 27)) 38 Mv.zero.cs)
  have B1 := hid (balloc (balloc (Below.refl w.heap.size w) (.cells m.cs 27)) (.cells Mv.zero.cs 38))
  have hs1 : (w.alloc (.cells m.cs 27)).heap.size = w.heap.size + 1 := World.size_alloc ..
  have hs2 : ((w.alloc (.cells m.cs 27)).alloc (.cells Mv.zero.cs 38)).heap.size = w.heap.size + 2 := by rw [World.size_alloc, hs1]
  have HOm := hid hm.o
  have O1 := hid (hm.o.below B1.out)
  have HW := hid hwf
  rw [hs1] at Z1
  clear hm
  go_enter Tryz.func18, Tryz.ntmps18
  go_upto_region 1 with fail
  generalize hw1 : (w.alloc (.cells m.cs 27)).alloc (.cells Mv.zero.cs 38) = w1 at *
  have B1 : Hid (Below w.heap.size w w1.drew) := hid (B1.out.trans ⟨rfl, rfl, rfl, Nat.le_refl _, fun _ _ => rfl⟩)
  have R1 : Hid (Row w1.drew w.heap.size 27 m.cs) := R1
  have Z1 : Hid (Row w1.drew (w.heap.size + 1) 38 Mv.zero.cs) := Z1
  have O1 : Hid (Opts w1.drew m.oa m.on m.oc m.L) := hid (O1.out.below (bdrew (Below.refl _ _) 1))
  have hs2 : w1.drew.heap.size = w.heap.size + 2 := hs2
  generalize hg0 : w.heap.size = g0 at *
  clear hw1 hs1 hz
  refine wp_region_held_drew (S := fun w' => w'.cell? ⟨g0, 0, none⟩ = some (.int .i64 m.c) ∧ (w'.cell? ⟨g0, 1, none⟩ = some (.int .i64 m.i) ∧ (w'.cell? ⟨g0, 2, none⟩ = some (.int .i64 m.v) ∧ (w'.cell? ⟨g0, 3, none⟩ = some (.int .i64 m.r) ∧ (w'.cell? ⟨g0, 4, none⟩ = some (.int .i64 m.mo) ∧ (w'.cell? ⟨g0, 5, none⟩ = some (.int .i64 m.pf) ∧ (w'.cell? ⟨g0, 6, none⟩ = some (.int .i64 m.d) ∧ (w'.cell? ⟨g0, 7, none⟩ = some (.int .i64 m.sq) ∧ (w'.cell? ⟨g0, 8, none⟩ = some (.int .i64 m.st) ∧ (w'.cell? ⟨g0, 9, none⟩ = some (.bool m.g) ∧ (w'.cell? ⟨g0, 10, none⟩ = some (.bool m.a) ∧ (w'.cell? ⟨g0, 27, none⟩ = some (.slice m.oa m.on m.oc) ∧ (Hid (Row w' g0 27 m.cs)))))))))))))) (by kernel_rfl) ?_ (fun hHeld => ?_)
  · exact ⟨(R1.out.cell 0).trans m.at0, (R1.out.cell 1).trans m.at1, (R1.out.cell 2).trans m.at2, (R1.out.cell 3).trans m.at3, (R1.out.cell 4).trans m.at4, (R1.out.cell 5).trans m.at5, (R1.out.cell 6).trans m.at6, (R1.out.cell 7).trans m.at7, (R1.out.cell 8).trans m.at8, (R1.out.cell 9).trans m.at9, (R1.out.cell 10).trans m.at10, (R1.out.cell 27).trans (Mv.at27 HA.out), R1.out⟩
  refine wpAnyH_take (i := 0) (oi := _) (v := ?va0) rfl (by kernel_rfl) (by kernel_rfl) (by kernel_rfl) (fun _ _ _ h => h) (Or.inl ⟨by rfl, ?hya0⟩) (by assumption) ?resta0
  case hya0 => (intro w hSw; (try dsimp only at hSw); go_split_ands; go_simp; try (with_reducible rfl))
  try simp only [List.getElem_toArray, List.getElem_cons_zero, List.getElem_cons_succ, Act.put, List.setIfInBounds_toArray, List.set_cons_zero, List.set_cons_succ]
  refine wpAnyH_take (i := 1) (oi := _) (v := ?va1) rfl (by kernel_rfl) (by kernel_rfl) (by kernel_rfl) (fun _ _ _ h => h) (Or.inl ⟨by rfl, ?hya1⟩) (by assumption) ?resta1
  case hya1 => (intro w hSw; (try dsimp only at hSw); go_split_ands; go_simp; try (with_reducible rfl))
  try simp only [List.getElem_toArray, List.getElem_cons_zero, List.getElem_cons_succ, Act.put, List.setIfInBounds_toArray, List.set_cons_zero, List.set_cons_succ]
  refine wpAnyH_take (i := 2) (oi := _) (v := ?va2) rfl (by kernel_rfl) (by kernel_rfl) (by kernel_rfl) (fun _ _ _ h => h) (Or.inl ⟨by rfl, ?hya2⟩) (by assumption) ?resta2
  case hya2 => (intro w hSw; (try dsimp only at hSw); go_split_ands; go_simp; try (with_reducible rfl))
  try simp only [List.getElem_toArray, List.getElem_cons_zero, List.getElem_cons_succ, Act.put, List.setIfInBounds_toArray, List.set_cons_zero, List.set_cons_succ]
  refine wpAnyH_take (i := 3) (oi := _) (v := ?va3) rfl (by kernel_rfl) (by kernel_rfl) (by kernel_rfl) (fun _ _ _ h => h) (Or.inl ⟨by rfl, ?hya3⟩) (by assumption) ?resta3
  case hya3 => (intro w hSw; (try dsimp only at hSw); go_split_ands; go_simp; try (with_reducible rfl))
  try simp only [List.getElem_toArray, List.getElem_cons_zero, List.getElem_cons_succ, Act.put, List.setIfInBounds_toArray, List.set_cons_zero, List.set_cons_succ]
  refine wpAnyH_take (i := 4) (oi := _) (v := ?va4) rfl (by kernel_rfl) (by kernel_rfl) (by kernel_rfl) (fun _ _ _ h => h) (Or.inl ⟨by rfl, ?hya4⟩) (by assumption) ?resta4
  case hya4 => (intro w hSw; (try dsimp only at hSw); go_split_ands; go_simp; try (with_reducible rfl))
  try simp only [List.getElem_toArray, List.getElem_cons_zero, List.getElem_cons_succ, Act.put, List.setIfInBounds_toArray, List.set_cons_zero, List.set_cons_succ]
  refine wpAnyH_take (i := 5) (oi := _) (v := ?va5) rfl (by kernel_rfl) (by kernel_rfl) (by kernel_rfl) (fun _ _ _ h => h) (Or.inl ⟨by rfl, ?hya5⟩) (by assumption) ?resta5
  case hya5 => (intro w hSw; (try dsimp only at hSw); go_split_ands; go_simp; try (with_reducible rfl))
  try simp only [List.getElem_toArray, List.getElem_cons_zero, List.getElem_cons_succ, Act.put, List.setIfInBounds_toArray, List.set_cons_zero, List.set_cons_succ]
  refine wpAnyH_take (i := 6) (oi := _) (v := ?va6) rfl (by kernel_rfl) (by kernel_rfl) (by kernel_rfl) (fun _ _ _ h => h) (Or.inl ⟨by rfl, ?hya6⟩) (by assumption) ?resta6
  case hya6 => (intro w hSw; (try dsimp only at hSw); go_split_ands; go_simp; try (with_reducible rfl))
  try simp only [List.getElem_toArray, List.getElem_cons_zero, List.getElem_cons_succ, Act.put, List.setIfInBounds_toArray, List.set_cons_zero, List.set_cons_succ]
  refine wpAnyH_take (i := 7) (oi := _) (v := ?va7) rfl (by kernel_rfl) (by kernel_rfl) (by kernel_rfl) (fun _ _ _ h => h) (Or.inl ⟨by rfl, ?hya7⟩) (by assumption) ?resta7
  case hya7 => (intro w hSw; (try dsimp only at hSw); go_split_ands; go_simp; try (with_reducible rfl))
  try simp only [List.getElem_toArray, List.getElem_cons_zero, List.getElem_cons_succ, Act.put, List.setIfInBounds_toArray, List.set_cons_zero, List.set_cons_succ]
  refine wpAnyH_take (i := 8) (oi := _) (v := ?va8) rfl (by kernel_rfl) (by kernel_rfl) (by kernel_rfl) (fun _ _ _ h => h) (Or.inl ⟨by rfl, ?hya8⟩) (by assumption) ?resta8
  case hya8 => (intro w hSw; (try dsimp only at hSw); go_split_ands; go_simp; try (with_reducible rfl))
  try simp only [List.getElem_toArray, List.getElem_cons_zero, List.getElem_cons_succ, Act.put, List.setIfInBounds_toArray, List.set_cons_zero, List.set_cons_succ]
  refine wpAnyH_take (i := 9) (oi := _) (v := ?va9) rfl (by kernel_rfl) (by kernel_rfl) (by kernel_rfl) (fun _ _ _ h => h) (Or.inl ⟨by rfl, ?hya9⟩) (by assumption) ?resta9
  case hya9 => (intro w hSw; (try dsimp only at hSw); go_split_ands; go_simp; try (with_reducible rfl))
  try simp only [List.getElem_toArray, List.getElem_cons_zero, List.getElem_cons_succ, Act.put, List.setIfInBounds_toArray, List.set_cons_zero, List.set_cons_succ]
  refine wpAnyH_take (i := 10) (oi := _) (v := ?va10) rfl (by kernel_rfl) (by kernel_rfl) (by kernel_rfl) (fun _ _ _ h => h) (Or.inl ⟨by rfl, ?hya10⟩) (by assumption) ?resta10
  case hya10 => (intro w hSw; (try dsimp only at hSw); go_split_ands; go_simp; try (with_reducible rfl))
  try simp only [List.getElem_toArray, List.getElem_cons_zero, List.getElem_cons_succ, Act.put, List.setIfInBounds_toArray, List.set_cons_zero, List.set_cons_succ]
  refine wpAnyH_take (i := 11) (oi := _) (v := ?va11) rfl (by kernel_rfl) (by kernel_rfl) (by kernel_rfl) (fun _ _ _ h => h) (Or.inl ⟨by rfl, ?hya11⟩) (by assumption) ?resta11
  case hya11 => (intro w hSw; (try dsimp only at hSw); go_split_ands; go_simp; try (with_reducible rfl))
  try simp only [List.getElem_toArray, List.getElem_cons_zero, List.getElem_cons_succ, Act.put, List.setIfInBounds_toArray, List.set_cons_zero, List.set_cons_succ]
  refine wpAnyH_take (i := 12) (oi := _) (v := ?va12) rfl (by kernel_rfl) (by kernel_rfl) (by kernel_rfl) (fun _ _ _ h => h) (Or.inl ⟨by rfl, ?hya12⟩) (by assumption) ?resta12
  case hya12 => (intro w hSw; (try dsimp only at hSw); go_split_ands; go_simp; try (with_reducible rfl))
  try simp only [List.getElem_toArray, List.getElem_cons_zero, List.getElem_cons_succ, Act.put, List.setIfInBounds_toArray, List.set_cons_zero, List.set_cons_succ]
  refine wpAnyH_take (i := 13) (oi := _) (v := ?va13) rfl (by kernel_rfl) (by kernel_rfl) (by kernel_rfl) (fun _ _ _ h => h) (Or.inl ⟨by rfl, ?hya13⟩) (by assumption) ?resta13
  case hya13 => (intro w hSw; (try dsimp only at hSw); go_split_ands; go_simp; try (with_reducible rfl))
  try simp only [List.getElem_toArray, List.getElem_cons_zero, List.getElem_cons_succ, Act.put, List.setIfInBounds_toArray, List.set_cons_zero, List.set_cons_succ]
  refine wpAnyH_take (i := 14) (oi := _) (v := ?va14) rfl (by kernel_rfl) (by kernel_rfl) (by kernel_rfl) (fun _ _ _ h => h) (Or.inl ⟨by rfl, ?hya14⟩) (by assumption) ?resta14
  case hya14 => (intro w hSw; (try dsimp only at hSw); go_split_ands; go_simp; try (with_reducible rfl))
  try simp only [List.getElem_toArray, List.getElem_cons_zero, List.getElem_cons_succ, Act.put, List.setIfInBounds_toArray, List.set_cons_zero, List.set_cons_succ]
  refine wpAnyH_take (i := 15) (oi := _) (v := ?va15) rfl (by kernel_rfl) (by kernel_rfl) (by kernel_rfl) (fun _ _ _ h => h) (Or.inl ⟨by rfl, ?hya15⟩) (by assumption) ?resta15
  case hya15 => (intro w hSw; (try dsimp only at hSw); go_split_ands; go_simp; try (with_reducible rfl))
  try simp only [List.getElem_toArray, List.getElem_cons_zero, List.getElem_cons_succ, Act.put, List.setIfInBounds_toArray, List.set_cons_zero, List.set_cons_succ]
  refine wpAnyH_take (i := 16) (oi := _) (v := ?va16) rfl (by kernel_rfl) (by kernel_rfl) (by kernel_rfl) (fun _ _ _ h => h) (Or.inl ⟨by rfl, ?hya16⟩) (by assumption) ?resta16
  case hya16 => (intro w hSw; (try dsimp only at hSw); go_split_ands; go_simp; try (with_reducible rfl))
  try simp only [List.getElem_toArray, List.getElem_cons_zero, List.getElem_cons_succ, Act.put, List.setIfInBounds_toArray, List.set_cons_zero, List.set_cons_succ]
  refine wpAnyH_take (i := 17) (oi := _) (v := ?va17) rfl (by kernel_rfl) (by kernel_rfl) (by kernel_rfl) (fun _ _ _ h => h) (Or.inl ⟨by rfl, ?hya17⟩) (by assumption) ?resta17
  case hya17 => (intro w hSw; (try dsimp only at hSw); go_split_ands; go_simp; try (with_reducible rfl))
  try simp only [List.getElem_toArray, List.getElem_cons_zero, List.getElem_cons_succ, Act.put, List.setIfInBounds_toArray, List.set_cons_zero, List.set_cons_succ]
  refine wpAnyH_take (i := 18) (oi := _) (v := ?va18) rfl (by kernel_rfl) (by kernel_rfl) (by kernel_rfl) (fun _ _ _ h => h) (Or.inl ⟨by rfl, ?hya18⟩) (by assumption) ?resta18
  case hya18 => (intro w hSw; (try dsimp only at hSw); go_split_ands; go_simp; try (with_reducible rfl))
  try simp only [List.getElem_toArray, List.getElem_cons_zero, List.getElem_cons_succ, Act.put, List.setIfInBounds_toArray, List.set_cons_zero, List.set_cons_succ]
  refine wpAnyH_take (i := 19) (oi := _) (v := ?va19) rfl (by kernel_rfl) (by kernel_rfl) (by kernel_rfl) (fun _ _ _ h => h) (Or.inl ⟨by rfl, ?hya19⟩) (by assumption) ?resta19
  case hya19 => (intro w hSw; (try dsimp only at hSw); go_split_ands; go_simp; try (with_reducible rfl))
  try simp only [List.getElem_toArray, List.getElem_cons_zero, List.getElem_cons_succ, Act.put, List.setIfInBounds_toArray, List.set_cons_zero, List.set_cons_succ]
  refine wpAnyH_take (i := 20) (oi := _) (v := ?va20) rfl (by kernel_rfl) (by kernel_rfl) (by kernel_rfl) (fun _ _ _ h => h) (Or.inl ⟨by rfl, ?hya20⟩) (by assumption) ?resta20
  case hya20 => (intro w hSw; (try dsimp only at hSw); go_split_ands; go_simp; try (with_reducible rfl))
  try simp only [List.getElem_toArray, List.getElem_cons_zero, List.getElem_cons_succ, Act.put, List.setIfInBounds_toArray, List.set_cons_zero, List.set_cons_succ]
  refine wpAnyH_take (i := 21) (oi := _) (v := ?va21) rfl (by kernel_rfl) (by kernel_rfl) (by kernel_rfl) (fun _ _ _ h => h) (Or.inl ⟨by rfl, ?hya21⟩) (by assumption) ?resta21
  case hya21 => (intro w hSw; (try dsimp only at hSw); go_split_ands; go_simp; try (with_reducible rfl))
  try simp only [List.getElem_toArray, List.getElem_cons_zero, List.getElem_cons_succ, Act.put, List.setIfInBounds_toArray, List.set_cons_zero, List.set_cons_succ]
  refine wpAnyH_take (i := 22) (oi := _) (v := ?va22) rfl (by kernel_rfl) (by kernel_rfl) (by kernel_rfl) (fun _ _ _ h => h) (Or.inl ⟨by rfl, ?hya22⟩) (by assumption) ?resta22
  case hya22 => (intro w hSw; (try dsimp only at hSw); go_split_ands; go_simp; try (with_reducible rfl))
  try simp only [List.getElem_toArray, List.getElem_cons_zero, List.getElem_cons_succ, Act.put, List.setIfInBounds_toArray, List.set_cons_zero, List.set_cons_succ]
  refine wpAnyH_take (i := 23) (oi := _) (v := .agg (arr m.ro)) rfl (by kernel_rfl) (by kernel_rfl) (by kernel_rfl) (fun _ _ _ h => h) (yld36 (by rfl) _ rfl g0 11 rfl m.ro HA.out (fun w h => by have := h.2.2.2.2.2.2.2.2.2.2.2.2.out.part.mvA HA.out; simpa using this)) (by assumption) ?_
  try simp only [List.getElem_toArray, List.getElem_cons_zero, List.getElem_cons_succ, Act.put, List.setIfInBounds_toArray, List.set_cons_zero, List.set_cons_succ]
  refine wpAnyH_take (i := 24) (oi := _) (v := ?va24) rfl (by kernel_rfl) (by kernel_rfl) (by kernel_rfl) (fun _ _ _ h => h) (Or.inl ⟨by rfl, ?hya24⟩) (by assumption) ?resta24
  case hya24 => (intro w hSw; (try dsimp only at hSw); go_split_ands; go_simp; try (with_reducible rfl))
  try simp only [List.getElem_toArray, List.getElem_cons_zero, List.getElem_cons_succ, Act.put, List.setIfInBounds_toArray, List.set_cons_zero, List.set_cons_succ]
  refine wpAnyH_take (i := 25) (oi := _) (v := ?va25) rfl (by kernel_rfl) (by kernel_rfl) (by kernel_rfl) (fun _ _ _ h => h) (Or.inl ⟨by rfl, ?hya25⟩) (by assumption) ?resta25
  case hya25 => (intro w hSw; (try dsimp only at hSw); go_split_ands; go_simp; try (with_reducible rfl))
  try simp only [List.getElem_toArray, List.getElem_cons_zero, List.getElem_cons_succ, Act.put, List.setIfInBounds_toArray, List.set_cons_zero, List.set_cons_succ]
  refine wpAnyH_ready (rs := [26]) (by kernel_rfl) (by simp) ?_
  refine AllReadyH.cons (o := _) rfl (fun K hK => ?_) AllReadyH.nil
  go_simp
  refine (optTo2_any m.oa m.on m.oc m.L _ O1.out).mono ?_
  rintro e w2 ⟨a2, c2, L2, rfl, hO2, hp2, hS2, hM2, hT2, hb2⟩
  have R2 := hid (R1.out.below hb2)
  have Z2 := hid (Z1.out.below hb2)
  have B2 : Hid (Below g0 w w2) := hid (B1.out.trans (hb2.mono (by omega)))
  have O2 := hid hO2
  have P2 := hid hp2
  have S2 := hid hS2
  have M2 := hid hM2
  have T2 := hid hT2
  have BW := hid B1.out
  have hs3 := hb2.size
  clear hO2 hp2 hS2 hM2 hT2 hb2 R1 Z1 O1
  generalize hn2 : min m.on 20 = n2 at *
  have hn20 : n2 ≤ 20 := by omega
  clear hn2
  go_wp2_with fail
  refine hK.out _ _ ⟨(R2.out.cell 0).trans m.at0, (R2.out.cell 1).trans m.at1, (R2.out.cell 2).trans m.at2, (R2.out.cell 3).trans m.at3, (R2.out.cell 4).trans m.at4, (R2.out.cell 5).trans m.at5, (R2.out.cell 6).trans m.at6, (R2.out.cell 7).trans m.at7, (R2.out.cell 8).trans m.at8, (R2.out.cell 9).trans m.at9, (R2.out.cell 10).trans m.at10, (R2.out.cell 27).trans (Mv.at27 HA.out), R2.out⟩ (fun hHeld => ?_)
  clear hK K
  try simp only [List.getElem_toArray, List.getElem_cons_zero, List.getElem_cons_succ, Act.put, List.setIfInBounds_toArray, List.set_cons_zero, List.set_cons_succ]
  refine wpAnyH_take (i := 27) (oi := _) (v := .agg (Mv.cs (m.opt a2 n2 c2 L2))) rfl (by kernel_rfl) (by kernel_rfl) (by kernel_rfl) (fun _ _ _ h => h) (ybdM m29 (by rfl) _ _ _ _ _ _ _ _ _ _ _ _ _ rfl (m.opt a2 n2 c2 L2) HA.out rfl rfl rfl rfl rfl rfl rfl rfl rfl rfl rfl rfl rfl) (by assumption) ?_
  try simp only [List.getElem_toArray, List.getElem_cons_zero, List.getElem_cons_succ, Act.put, List.setIfInBounds_toArray, List.set_cons_zero, List.set_cons_succ]
  refine wpAnyH_ready (rs := [28]) (by kernel_rfl) (by simp) ?_
  refine AllReadyH.cons (o := _) rfl (fun K hK => ?_) AllReadyH.nil
  refine step_st rfl 38 _ _ rfl (g0 + 1) (Mv.cs (m.opt a2 n2 c2 L2)) rfl rfl 38 Mv.zero.cs (by exact Z2.out) (by rw [Mv.size (m := (m.opt a2 n2 c2 L2)) HA.out]; exact m29.info) (by rw [Mv.size adr_zeros, Mv.size (m := (m.opt a2 n2 c2 L2)) HA.out]) (Mv.one _) ?_
  have R3 := hid (R2.out.rowOther (g0 + 1) (Mv.cs (m.opt a2 n2 c2 L2)) (by omega))
  have Z3 := hid (Z2.out.setRow (Mv.cs (m.opt a2 n2 c2 L2)))
  have B3 := hid (below_setRow' B2.out (g := g0 + 1) (by omega) (Mv.cs (m.opt a2 n2 c2 L2)))
  refine hK.out _ _ ⟨(R3.out.cell 0).trans m.at0, (R3.out.cell 1).trans m.at1, (R3.out.cell 2).trans m.at2, (R3.out.cell 3).trans m.at3, (R3.out.cell 4).trans m.at4, (R3.out.cell 5).trans m.at5, (R3.out.cell 6).trans m.at6, (R3.out.cell 7).trans m.at7, (R3.out.cell 8).trans m.at8, (R3.out.cell 9).trans m.at9, (R3.out.cell 10).trans m.at10, (R3.out.cell 27).trans (Mv.at27 HA.out), R3.out⟩ (fun hHeld => ?_)
  clear hK K
  try simp only [List.getElem_toArray, List.getElem_cons_zero, List.getElem_cons_succ, Act.put, List.setIfInBounds_toArray, List.set_cons_zero, List.set_cons_succ]
  refine wpAnyH_done (by kernel_rfl) ?_ _
  go_wp2_with fail
  have B3' : Hid (Below w.heap.size w (w2.setRow (g0 + 1) (Mv.cs (m.opt a2 n2 c2 L2)))) := by rw [Hid, hg0]; exact B3.out
  have OK3 : Hid (∀ o ∈ L2, o.ok (w2.setRow (g0 + 1) (Mv.cs (m.opt a2 n2 c2 L2)))) := by
    intro o ho
    have hM := M2.out o ho
    obtain ⟨o2, ho2, e1, e2⟩ := T2.out o ho
    refine ⟨?_, hM.ad, ?_, hM.oct⟩
    · obtain ⟨na, nc, ev, hl⟩ := owns_liesk (own_setRowT (cs := Mv.cs (m.opt a2 n2 c2 L2)) hM.n Z2.out (by decide))
      have ev : Value.slice o.n.a o.n.n o.n.cap = .slice na o.n.l.length nc := ev
      injection ev with v1 v2 v3
      rw [v1, v2, v3]; exact hl
    · have h2 := (HOm.out.ok o2 ho2).t
      rw [← e1] at h2
      exact text_keep hM.t (by rw [hg0]; exact BW.out) B3'.out h2 e2
  have HO3 : Hid (Opts (w2.setRow (g0 + 1) (Mv.cs (m.opt a2 n2 c2 L2))) a2 n2 c2 L2) := opts_own O2.out.len (own_setRowT (cs := Mv.cs (m.opt a2 n2 c2 L2)) S2.out Z2.out (by decide)) OK3.out
  exact bodyPost_ret (resM m29 rfl _ _ (g0 + 1) 38 (m.opt a2 n2 c2 L2) HA.out rfl Z3.out) rfl ⟨⟨(m.opt a2 n2 c2 L2), rfl, hn20, hid ⟨HA.out, HO3.out⟩, hid (cut_wf P2.out HW.out), hid (cut_sml P2.out O2.out), rfl⟩, B3'.out⟩
end Go.Proofs.YtbklpelikaapoaaGreatDoor

namespace Go.Proofs.YtbklpelikaapoaaGreatDoor
open Go.ChangeShapes Go.WideShapes Go.ChangeAt Go.RowKit Go.Deep
set_option linter.unusedVariables false
set_option linter.unusedSimpArgs false

/-- A cell of a row of the call's own. -/
theorem own_cell {w : World} {b g n cap size : Nat} {e : TypeId} {xs : List Value} (h : w.ownsRow b e size (.slice (some ⟨g, 0, none⟩) n cap) n xs) (j : Nat) (v : Value) (hj : j < n * size) :
    (w.setCell ⟨g, j, none⟩ v).ownsRow b e size (.slice (some ⟨g, 0, none⟩) n cap) n (xs.set j v) := by
  obtain ⟨h1, h2 | ⟨g', cap', cur, he, hb, hg, hn, hm, hs, hx⟩⟩ := h
  · cases h2.1
  · cases he
    refine ⟨by rw [List.length_set]; exact h1, .inr ⟨g, cap, cur.setIfInBounds j v, rfl, hb, heap_setCell_same w g j cur e v hg, hn, hm, by simp [hs], ?_⟩⟩
    rw [Array.toList_setIfInBounds, List.take_set, hx]
theorem own_block {w : World} {b n : Nat} {size : Nat} {e : TypeId} {a : Option Addr} {cap : Nat} {xs : List Value} (h : w.ownsRow b e size (.slice a n cap) n xs) (hn : 0 < n) : ∃ g, a = some ⟨g, 0, none⟩ ∧ b ≤ g ∧ g < w.heap.size ∧ n ≤ cap ∧ cap ≤ maxLen := by
  obtain ⟨h1, h2 | ⟨g', cap', cur, he, hb, hg, hn', hm, hs, hx⟩⟩ := h
  · omega
  · cases he
    exact ⟨g', rfl, hb, (Array.getElem?_eq_some_iff.1 hg).1, hn', hm⟩
theorem own_soft {w : World} {b n : Nat} {size : Nat} {e : TypeId} {g cap : Nat} {xs : List Value} (h : w.ownsRow b e size (.slice (some ⟨g, 0, none⟩) n cap) n xs) (j : Nat) : w.frozen? ⟨g, j, none⟩ = false := by
  obtain ⟨h1, h2 | ⟨g', cap', cur, he, hb, hg, hn', hm, hs, hx⟩⟩ := h
  · cases h2.1
  · cases he
    exact frozen_of_row w g j cur e hg
theorem own_cellAt {w : World} {b n : Nat} {size : Nat} {e : TypeId} {g cap : Nat} {xs : List Value} (h : w.ownsRow b e size (.slice (some ⟨g, 0, none⟩) n cap) n xs) {j : Nat} {v : Value} (hj : xs[j]? = some v) : w.cell? ⟨g, j, none⟩ = some v := by
  have := h.cells (g := g) rfl j v hj
  rwa [Addr.add_lit, Nat.zero_add] at this
theorem ocs_set {L : List Ov} (h : ∀ o ∈ L, Adr o.ad) (k : Nat) (hk : k < L.length) (j : Nat) (hj : j < 19) (v : Value) (o' : Ov) (ho : (L.getD k Ov.zero).cs.setIfInBounds j v = o'.cs) : (ocs L).set (k * 19 + j) v = ocs (L.set k o') := by
  induction L generalizing k with
  | nil => simp at hk
  | cons o L ih =>
    have hs := Ov.size (h o (by simp))
    have e : ∀ o (L : List Ov), ocs (o :: L) = o.cs.toList ++ ocs L := fun o L => by simp [ocs]
    rw [e]
    cases k with
    | zero =>
      rw [List.set_append_left _ _ (by rw [Array.length_toList, hs]; omega), List.set_cons_zero, e, ← ho]
      simp
    | succ k =>
      rw [List.set_append_right _ _ (by rw [Array.length_toList, hs]; omega), List.set_cons_succ, e, Array.length_toList, hs, show (k + 1) * 19 + j - 19 = k * 19 + j by omega, ih (fun x hx => h x (by simp [hx])) k (by simpa using hk) (by simpa using ho)]
theorem Opts.cellsAt {w : World} {ad : Addr} {n cap : Nat} {L : List Ov} (h : Opts w (some ad) n cap L) : ∀ j u, (ocs L)[j]? = some u → w.cell? (ad.add j) = some u := by
  intro j u hj
  have hA : ∀ o ∈ L, Adr o.ad := fun o ho => (h.ok o ho).ad
  have hl : j < (ocs L).length := (List.getElem?_eq_some_iff.1 hj).1
  rw [ocs_length hA] at hl
  have hk : j / 19 < L.length := by omega
  obtain ⟨b, off, e, hp⟩ := h.cell (j / 19) (by rw [← h.len]; exact hk)
  cases e
  have e1 := ocs_at hA (j / 19) hk (j % 19) (by omega)
  rw [show j / 19 * 19 + j % 19 = j by omega, hj] at e1
  have := hp (j % 19) u e1.symm
  rw [Addr.add_lit, show off + j = off + j / 19 * 19 + j % 19 by omega]
  exact this
theorem own_cast {w : World} {b n m size : Nat} {e : TypeId} {v : Value} {xs ys : List Value} (h : w.ownsRow b e size v n xs) (hn : n = m) (hx : xs = ys) : w.ownsRow b e size v m ys := by subst hn; subst hx; exact h
theorem cloneO_nil (w : World) : Calls Tryz.prog 76 #[.slice none 0 0] w fun e w' => e = .returned (.slice none 0 0) ∧ w' = w := by
  have he := fun w => Lib.run_eql_slice_nil (P := Tryz.prog) w 36 140 none 0 0 0 0 Tryz.underlying36
  go_enter Tryz.func76, Tryz.ntmps76
  go_wp2
  go_ret
  exact ⟨rfl, rfl⟩
set_option maxRecDepth 100000 in
theorem cloneO_some (ad : Addr) (len cap : Nat) (L : List Ov) (w : World) (h : Opts w (some ad) len cap L) (hl : len ≤ 1000) :
    Calls Tryz.prog 76 #[.slice (some ad) len cap] w fun e w' => ∃ v, e = .returned v ∧ w'.ownsRow w.heap.size 140 19 v L.length (ocs L) ∧ Below w.heap.size w w' := by
  have he := fun w => Lib.run_eql_slice_nil (P := Tryz.prog) w 36 140 (some ad) len cap 0 0 Tryz.underlying36
  obtain ⟨i0, hi, hz0, hz1, hz2⟩ := info_parts s23.ot.zero
  have HB := hid h
  have hb1 : Below w.heap.size w (w.alloc (.cells #[] 140)) := (Below.refl _ _).alloc (Nat.le_refl _) _
  have HL1 := hid (h.below hb1)
  have HO := hid (World.ownsRow_made (e := 140) (size := 19) (base := w.heap.size) w #[] 0 (Nat.le_refl _) (by decide) (by simp))
  clear h hb1
  go_enter Tryz.func76, Tryz.ntmps76
  go_wp2_with (at_builtin; refine wpList_append_own _ rfl _ _ 36 rfl w.heap.size 140 i0 (.agg Ov.zero.cs) 19 72 Tryz.underlying36 hi hz0 hz1 hz2 cells_zero (by decide) _ _ _ rfl HO.out ad len cap (ocs L) rfl ?c1 (Opts.cellsAt HL1.out) (ocs_one L) ?c3o ?c4 ?c5 ?_)
  case c1 => rw [ocs_length (fun o ho => (HB.out.ok o ho).ad), HB.out.len]
  case c3o => unfold maxLen; omega
  case c4 => omega
  case c5 => simp
  intro v1 w1 hown1 hg1 _
  have hb2 : Below w.heap.size w w1 := Below.grown ((Below.refl _ _).alloc (Nat.le_refl _) _) hg1 (by simp) (fun k hk => by cases hk; exact Nat.le_refl _)
  have hln := HB.out.len
  have HW : Hid _ := hown1
  clear hown1 hg1
  go_wp2
  go_ret
  exact ⟨_, rfl, own_cast HW.out (by omega) (by simp), hb2⟩
theorem cloneO_any (a : Option Addr) (len cap : Nat) (L : List Ov) (w : World) (h : Opts w a len cap L) (hl : len ≤ 1000) :
    Calls Tryz.prog 76 #[.slice a len cap] w fun e w' => ∃ v, e = .returned v ∧ w'.ownsRow w.heap.size 140 19 v L.length (ocs L) ∧ Below w.heap.size w w' := by
  cases a with
  | some ad => exact cloneO_some ad len cap L w h hl
  | none =>
    have hc := h.isNil rfl
    have hle := h.le
    have hn : len = 0 := by omega
    subst hc hn
    have : L = [] := List.eq_nil_of_length_eq_zero h.len
    subst this
    refine (cloneO_nil w).mono ?_
    rintro e w' ⟨rfl, rfl⟩
    exact ⟨_, rfl, World.ownsRow_nil _ _ _ _, Below.refl _ _⟩
theorem Mv.set27 {m : Mv} (h : Adr m.ro) (a : Option Addr) (n cap : Nat) (L : List Ov) : m.cs.setIfInBounds 27 (.slice a n cap) = (m.opt a n cap L).cs := by
  apply Array.ext'
  have e : m.cs.toList = (m.hd.toList ++ (arr m.ro).toList) ++ [.slice m.oa m.on m.oc] := by simp [Mv.cs]
  have e2 : (m.opt a n cap L).cs.toList = (m.hd.toList ++ (arr m.ro).toList) ++ [.slice a n cap] := by simp [Mv.cs, Mv.opt, Mv.hd]
  have hl : (m.hd.toList ++ (arr m.ro).toList).length = 27 := by simp [arr_size, h.1, Mv.hsize]
  rw [Array.toList_setIfInBounds, e, e2, List.set_append_right _ _ (by omega), hl]
  rfl
/-- A message whose options are the call's own. -/
structure CpM (base : Nat) (w : World) (m : Mv) : Prop where
  ro : Adr m.ro
  own : w.ownsRow base 140 19 (.slice m.oa m.on m.oc) m.on (ocs m.L)
  own2 : ∀ o ∈ m.L, Own2 base w o
  len : m.L.length = m.on
theorem CpM.ok {base : Nat} {w : World} {m : Mv} (h : CpM base w m) : m.ok w := ⟨h.ro, opts_own h.len h.own (fun o ho => (h.own2 o ho).ok)⟩
theorem CpM.below {base : Nat} {w w' : World} {m : Mv} (h : CpM base w m) (hb : Below w.heap.size w w') : CpM base w' m := ⟨h.ro, own_below h.own hb, fun o ho => (h.own2 o ho).below hb, h.len⟩
end Go.Proofs.YtbklpelikaapoaaGreatDoor
