/- How a message is checked: a chain that goes on till something is wrong. · The law's options: To. · The chapter's examples. -/
import Derived.Test.YtbfjkhafdkhhmaaDoorM9
import Derived.Test.YtbfjkhafdkhhmaaDoorM6
namespace Go.Proofs.YtbfjkhafdkhhmaaDoor
open Go.ChangeShapes Go.WideShapes Go.ChangeAt Go.RowKit Go.Deep
set_option linter.unusedVariables false
set_option linter.unusedSimpArgs false

/-- A chain's cells. -/
def chc (er : Int) (m : Mv) (va : Value) : Array Value := #[.int .i64 er] ++ (m.cs ++ #[va])
theorem chc_at0 (er : Int) (m : Mv) (va : Value) : (chc er m va)[0]? = some (.int .i64 er) := by simp [chc, Array.getElem?_append]
theorem chc_at (er : Int) (m : Mv) (va : Value) (hl : Adr m.ro) (j : Nat) (hj : j < 28) : (chc er m va)[1 + j]? = m.cs[j]? := by
  rw [chc, Array.getElem?_append_right (by simp), show 1 + j - Array.size #[Value.int .i64 er] = j by simp, Array.getElem?_append_left (by rw [Mv.size hl]; exact hj)]
theorem chc_at29 (er : Int) (m : Mv) (va : Value) (hl : Adr m.ro) : (chc er m va)[29]? = some va := by
  rw [chc, Array.getElem?_append_right (by simp), Array.getElem?_append_right (by rw [Mv.size hl]; simp), Mv.size hl]; rfl
theorem chc_s (er : Int) (m : Mv) (va : Value) (n : Nat) : (chc er m va)[n + 1]? = (m.cs ++ #[va])[n]? := by
  rw [chc, Array.getElem?_append_right (by simp)]; simp
theorem chc_set0 (er e : Int) (m : Mv) (va : Value) : (chc er m va).setIfInBounds 0 (.int .i64 e) = chc e m va := by
  apply Array.ext_getElem?
  intro i
  rw [Array.getElem?_setIfInBounds]
  cases i with
  | zero => rw [if_pos rfl, if_pos (by simp [chc]; omega), chc_at0]
  | succ n => rw [if_neg (by omega), chc_s, chc_s]
theorem chc_set29 (er : Int) (m : Mv) (va vb : Value) (hl : Adr m.ro) : (chc er m va).setIfInBounds 29 vb = chc er m vb := by
  apply Array.ext_getElem?
  intro i
  have hs := Mv.size hl
  rw [Array.getElem?_setIfInBounds]
  by_cases h : i = 29
  · subst h
    rw [if_pos rfl, if_pos (by simp [chc, hs]), chc_at29 _ _ _ hl]
  · rw [if_neg (by omega)]
    cases i with
    | zero => rw [chc_at0, chc_at0]
    | succ n =>
      rw [chc_s, chc_s]
      by_cases h1 : n < 28
      · rw [Array.getElem?_append_left (by rw [hs]; exact h1), Array.getElem?_append_left (by rw [hs]; exact h1)]
      · rw [Array.getElem?_eq_none (by simp [hs]; omega), Array.getElem?_eq_none (by simp [hs]; omega)]
theorem built72' (c i v r mo pf d sq st : Int) (g a : Bool) (a0 a1 a2 a3 a4 a5 a6 a7 a8 a9 a10 a11 a12 a13 a14 a15 : Int) (oa : Option Addr) (on oc : Nat) (L : List Ov) : Tryd.prog.built 72 [(1, .agg (Mv.cs ⟨c, i, v, r, mo, pf, d, sq, st, g, a, [a0, a1, a2, a3, a4, a5, a6, a7, a8, a9, a10, a11, a12, a13, a14, a15], oa, on, oc, L⟩))] =
    some (chc 0 ⟨c, i, v, r, mo, pf, d, sq, st, g, a, [a0, a1, a2, a3, a4, a5, a6, a7, a8, a9, a10, a11, a12, a13, a14, a15], oa, on, oc, L⟩ (.slice none 0 0)) := by kernel_rfl
theorem built72 (m : Mv) (h : m.ro.length = 16) : Tryd.prog.built 72 [(1, .agg m.cs)] = some (chc 0 m (.slice none 0 0)) := by
  obtain ⟨c, i, v, r, mo, pf, d, sq, st, g, a, ro, oa, on, oc, L⟩ := m
  simp only at h
  match ro, h with
  | [a0, a1, a2, a3, a4, a5, a6, a7, a8, a9, a10, a11, a12, a13, a14, a15], _ => exact built72' c i v r mo pf d sq st g a a0 a1 a2 a3 a4 a5 a6 a7 a8 a9 a10 a11 a12 a13 a14 a15 oa on oc L
theorem bd72 {ops : Array Oper} {rest : List Oper} {o : Oper} {a : Act} {w : World} {Q : Exit → Act → World → Prop} (x1 : Operand) (ho : o.op = .build 72 #[(1, x1)]) (hg : o.guard = none) (m : Mv) (hl : Adr m.ro) (h1 : a.eval x1 = .agg m.cs)
    (hn : wpList Tryd.prog ops Q rest (a.put o.dst (.agg (chc 0 m (.slice none 0 0)))) w) : wpList Tryd.prog ops Q (o :: rest) a w :=
  wp_bd 72 _ ho hg _ (by simp only [List.map_toArray, List.map_cons, List.map_nil, h1]; exact built72 m hl.1) hn
/-- Where a chain stands. -/
structure ChAt (W w : World) (c : Nat) (er : Int) (m : Mv) (va : Value) : Prop where
  row : Row w c 72 (chc er m va)
  below : Below W.heap.size W w
  lo : W.heap.size ≤ c
  ro : Adr m.ro
section
variable {W w w' : World} {c : Nat} {er : Int} {m : Mv} {va : Value}
theorem ChAt.cell0 (h : ChAt W w c er m va) : w.cell? ⟨c, 0, none⟩ = some (.int .i64 er) := (h.row.cell 0).trans (chc_at0 _ _ _)
theorem ChAt.cell29 (h : ChAt W w c er m va) : w.cell? ⟨c, 29, none⟩ = some va := (h.row.cell 29).trans (chc_at29 _ _ _ h.ro)
theorem ChAt.part (h : ChAt W w c er m va) : Part w c 1 m.cs := fun j v hv => by
  have hj : j < 28 := by have := (Array.getElem?_eq_some_iff.1 hv).1; rw [Mv.size h.ro] at this; exact this
  exact (h.row.cell (1 + j)).trans ((chc_at _ _ _ h.ro j hj).trans hv)
theorem ChAt.on (h : ChAt W w c er m va) (hb : Below w.heap.size w w') : ChAt W w' c er m va := ⟨h.row.below hb, bthen h.below hb, h.lo, h.ro⟩
theorem ChAt.setE (h : ChAt W w c er m va) (e : Int) : ChAt W (w.setCell ⟨c, 0, none⟩ (.int .i64 e)) c e m va :=
  ⟨by have := h.row.set 0 (.int .i64 e); rwa [chc_set0] at this, bset 0 _ h.below h.lo, h.lo, h.ro⟩
theorem ChAt.setV (h : ChAt W w c er m va) (vb : Value) : ChAt W (w.setCell ⟨c, 29, none⟩ vb) c er m vb :=
  ⟨by have := h.row.set 29 vb; rwa [chc_set29 _ _ _ _ h.ro] at this, bset 29 _ h.below h.lo, h.lo, h.ro⟩
end
theorem fine_any (w : World) (c : Nat) (er : Int) (h : w.cell? ⟨c, 0, none⟩ = some (.int .i64 er)) : Calls Tryd.prog 53 #[.pointer (some ⟨c, 0, none⟩)] w fun e w' => e = .returned (.bool (er == 0)) ∧ w' = w := by
  go_enter Tryd.func53, Tryd.ntmps53
  go_wp2_with fail
  go_ret
  exact ⟨rfl, rfl⟩
/-- What a note leaves. -/
def notW (w : World) (c : Nat) (er e : Int) : World := if er = 0 then w.setCell ⟨c, 0, none⟩ (.int .i64 e) else w
theorem note_any (w : World) (c : Nat) (er e : Int) (h : w.cell? ⟨c, 0, none⟩ = some (.int .i64 er)) (hf : w.frozen? ⟨c, 0, none⟩ = false) : Calls Tryd.prog 54 #[.pointer (some ⟨c, 0, none⟩), .int .i64 e] w fun x w' => x = .returned (.tuple #[]) ∧ w' = notW w c er e := by
  by_cases her : er = 0
  · subst her
    have HX : Hid (notW w c 0 e = w.setCell ⟨c, 0, none⟩ (.int .i64 e)) := by rw [Hid, notW, if_pos rfl]
    go_enter Tryd.func54, Tryd.ntmps54
    go_wp2_with fail
    refine (fine_any _ c 0 h).mono ?_
    rintro x w1 ⟨rfl, rfl⟩
    go_wp2_with fail
    go_returns
    exact ⟨rfl, HX.out.symm⟩
  · have HX : Hid (notW w c er e = w) := by rw [Hid, notW, if_neg her]
    have he : (er == 0) = false := by simp [her]
    clear her
    go_enter Tryd.func54, Tryd.ntmps54
    go_wp2_with fail
    refine (fine_any _ c er h).mono ?_
    rintro x w1 ⟨rfl, rfl⟩
    go_wp2_with fail
    go_returns
    exact ⟨rfl, HX.out.symm⟩
theorem ChAt.note {W w : World} {c : Nat} {er : Int} {m : Mv} {va : Value} (h : ChAt W w c er m va) (e : Int) : ChAt W (notW w c er e) c (if er = 0 then e else er) m va := by
  unfold notW
  split
  · exact h.setE e
  · exact h
/-- What a step leaves. -/
def mstE (er : Int) (b : Bool) (e : Int) : Int := if er = 0 then (if b = true then 0 else e) else er
set_option maxHeartbeats 800000 in
theorem must49 {B : Nat} (W w : World) (c : Nat) (er e : Int) (m : Mv) (va : Value) (h : ChAt W w c er m va) (hm : m.ok W) (hV : CV B W) :
    Calls Tryd.prog 48 #[.pointer (some ⟨c, 0, none⟩), .func (.func 49) #[] #[], .int .i64 e] w fun x w' => x = .returned (.pointer (some ⟨c, 0, none⟩)) ∧ Hid (ChAt W w' c (mstE er (codB m.c) e) m va) := by
  have H := hid h
  have HM := hid (hm.below h.below)
  have HV := hid (hV.below h.below)
  have HA := hid hm.ro
  have c0 := h.cell0
  clear h hm hV
  by_cases her : er = 0
  · subst her
    have HX : Hid (mstE 0 (codB m.c) e = if (codB m.c) = true then 0 else e) := rfl
    go_enter Tryd.func48, Tryd.ntmps48
    go_wp2_with fail
    refine (fine_any _ c 0 c0).mono ?_
    rintro e w1 ⟨rfl, rfl⟩
    go_wp2_with (refine ldM m29 _ rfl rfl _ _ rfl m HA.out H.out.part ?_)
    refine (cKnown_any m _).mono ?_
    rintro x w2 ⟨rfl, hb⟩
    have H2 := hid (H.out.on hb)
    have d0 := H2.out.cell0
    have f0 := H2.out.row.frozen 0
    clear hb
    cases hb : (codB m.c)
    · rw [hb] at HX
      have HX2 : Hid (mstE 0 false e = e) := HX
      go_wp2_with fail
      refine (note_any _ c 0 _ d0 f0).mono ?_
      rintro x w3 ⟨rfl, rfl⟩
      go_wp2_with fail
      go_ret
      refine ⟨rfl, ?_⟩
      rw [hb, HX2.out]
      exact hid (H2.out.setE _)
    · rw [hb] at HX
      have HX2 : Hid (mstE 0 true e = 0) := HX
      go_wp2_with fail
      go_ret
      refine ⟨rfl, ?_⟩
      rw [hb, HX2.out]
      exact H2
  · have HX : Hid (mstE er (codB m.c) e = er) := by rw [Hid, mstE, if_neg her]
    have he : (er == 0) = false := by simp [her]
    clear her
    go_enter Tryd.func48, Tryd.ntmps48
    go_wp2_with fail
    refine (fine_any _ c er c0).mono ?_
    rintro x w1 ⟨rfl, rfl⟩
    go_wp2_with fail
    go_ret
    refine ⟨rfl, ?_⟩
    rw [HX.out]
    exact H
set_option maxHeartbeats 800000 in
theorem must50 {B : Nat} (W w : World) (c : Nat) (er e : Int) (m : Mv) (va : Value) (h : ChAt W w c er m va) (hm : m.ok W) (hV : CV B W) (hp : er = 0 → codB m.c = true) :
    Calls Tryd.prog 48 #[.pointer (some ⟨c, 0, none⟩), .func (.func 50) #[] #[], .int .i64 e] w fun x w' => x = .returned (.pointer (some ⟨c, 0, none⟩)) ∧ Hid (ChAt W w' c (mstE er (frmV m.c.toNat m.p.vs) e) m va) := by
  have H := hid h
  have HM := hid (hm.below h.below)
  have HV := hid (hV.below h.below)
  have HA := hid hm.ro
  have c0 := h.cell0
  clear h hm hV
  by_cases her : er = 0
  · subst her
    have HX : Hid (mstE 0 (frmV m.c.toNat m.p.vs) e = if (frmV m.c.toNat m.p.vs) = true then 0 else e) := rfl
    have HP := hid (hp rfl)
    clear hp
    go_enter Tryd.func48, Tryd.ntmps48
    go_wp2_with fail
    refine (fine_any _ c 0 c0).mono ?_
    rintro e w1 ⟨rfl, rfl⟩
    go_wp2_with (refine ldM m29 _ rfl rfl _ _ rfl m HA.out H.out.part ?_)
    refine (cFormed_any m _ HM.out HV.out HP.out).mono ?_
    rintro x w2 ⟨rfl, hb⟩
    have H2 := hid (H.out.on hb)
    have d0 := H2.out.cell0
    have f0 := H2.out.row.frozen 0
    clear hb
    cases hb : (frmV m.c.toNat m.p.vs)
    · rw [hb] at HX
      have HX2 : Hid (mstE 0 false e = e) := HX
      go_wp2_with fail
      refine (note_any _ c 0 _ d0 f0).mono ?_
      rintro x w3 ⟨rfl, rfl⟩
      go_wp2_with fail
      go_ret
      refine ⟨rfl, ?_⟩
      rw [hb, HX2.out]
      exact hid (H2.out.setE _)
    · rw [hb] at HX
      have HX2 : Hid (mstE 0 true e = 0) := HX
      go_wp2_with fail
      go_ret
      refine ⟨rfl, ?_⟩
      rw [hb, HX2.out]
      exact H2
  · have HX : Hid (mstE er (frmV m.c.toNat m.p.vs) e = er) := by rw [Hid, mstE, if_neg her]
    have he : (er == 0) = false := by simp [her]
    clear her
    go_enter Tryd.func48, Tryd.ntmps48
    go_wp2_with fail
    refine (fine_any _ c er c0).mono ?_
    rintro x w1 ⟨rfl, rfl⟩
    go_wp2_with fail
    go_ret
    refine ⟨rfl, ?_⟩
    rw [HX.out]
    exact H
set_option maxHeartbeats 800000 in
theorem must51 {B : Nat} (W w : World) (c : Nat) (er e : Int) (m : Mv) (va : Value) (h : ChAt W w c er m va) (hm : m.ok W) (hV : CV B W) (hp : er = 0 → codB m.c = true) :
    Calls Tryd.prog 48 #[.pointer (some ⟨c, 0, none⟩), .func (.func 51) #[] #[], .int .i64 e] w fun x w' => x = .returned (.pointer (some ⟨c, 0, none⟩)) ∧ Hid (ChAt W w' c (mstE er (witV m.c.toNat m.p.vs) e) m va) := by
  have H := hid h
  have HM := hid (hm.below h.below)
  have HV := hid (hV.below h.below)
  have HA := hid hm.ro
  have c0 := h.cell0
  clear h hm hV
  by_cases her : er = 0
  · subst her
    have HX : Hid (mstE 0 (witV m.c.toNat m.p.vs) e = if (witV m.c.toNat m.p.vs) = true then 0 else e) := rfl
    have HP := hid (hp rfl)
    clear hp
    go_enter Tryd.func48, Tryd.ntmps48
    go_wp2_with fail
    refine (fine_any _ c 0 c0).mono ?_
    rintro e w1 ⟨rfl, rfl⟩
    go_wp2_with (refine ldM m29 _ rfl rfl _ _ rfl m HA.out H.out.part ?_)
    refine (cWithin_any m _ HM.out HV.out HP.out).mono ?_
    rintro x w2 ⟨rfl, hb⟩
    have H2 := hid (H.out.on hb)
    have d0 := H2.out.cell0
    have f0 := H2.out.row.frozen 0
    clear hb
    cases hb : (witV m.c.toNat m.p.vs)
    · rw [hb] at HX
      have HX2 : Hid (mstE 0 false e = e) := HX
      go_wp2_with fail
      refine (note_any _ c 0 _ d0 f0).mono ?_
      rintro x w3 ⟨rfl, rfl⟩
      go_wp2_with fail
      go_ret
      refine ⟨rfl, ?_⟩
      rw [hb, HX2.out]
      exact hid (H2.out.setE _)
    · rw [hb] at HX
      have HX2 : Hid (mstE 0 true e = 0) := HX
      go_wp2_with fail
      go_ret
      refine ⟨rfl, ?_⟩
      rw [hb, HX2.out]
      exact H2
  · have HX : Hid (mstE er (witV m.c.toNat m.p.vs) e = er) := by rw [Hid, mstE, if_neg her]
    have he : (er == 0) = false := by simp [her]
    clear her
    go_enter Tryd.func48, Tryd.ntmps48
    go_wp2_with fail
    refine (fine_any _ c er c0).mono ?_
    rintro x w1 ⟨rfl, rfl⟩
    go_wp2_with fail
    go_ret
    refine ⟨rfl, ?_⟩
    rw [HX.out]
    exact H
set_option maxHeartbeats 800000 in
theorem must52 {B : Nat} (W w : World) (c : Nat) (er e : Int) (m : Mv) (va : Value) (h : ChAt W w c er m va) (hm : m.ok W) (hV : CV B W) :
    Calls Tryd.prog 48 #[.pointer (some ⟨c, 0, none⟩), .func (.func 52) #[] #[], .int .i64 e] w fun x w' => x = .returned (.pointer (some ⟨c, 0, none⟩)) ∧ Hid (ChAt W w' c (mstE er (allM m.c m.p.o) e) m va) := by
  have H := hid h
  have HM := hid (hm.below h.below)
  have HV := hid (hV.below h.below)
  have HA := hid hm.ro
  have c0 := h.cell0
  clear h hm hV
  by_cases her : er = 0
  · subst her
    have HX : Hid (mstE 0 (allM m.c m.p.o) e = if (allM m.c m.p.o) = true then 0 else e) := rfl
    go_enter Tryd.func48, Tryd.ntmps48
    go_wp2_with fail
    refine (fine_any _ c 0 c0).mono ?_
    rintro e w1 ⟨rfl, rfl⟩
    go_wp2_with (refine ldM m29 _ rfl rfl _ _ rfl m HA.out H.out.part ?_)
    refine (cAllowed_any m _ HM.out HV.out).mono ?_
    rintro x w2 ⟨rfl, hb⟩
    have H2 := hid (H.out.on hb)
    have d0 := H2.out.cell0
    have f0 := H2.out.row.frozen 0
    clear hb
    cases hb : (allM m.c m.p.o)
    · rw [hb] at HX
      have HX2 : Hid (mstE 0 false e = e) := HX
      go_wp2_with fail
      refine (note_any _ c 0 _ d0 f0).mono ?_
      rintro x w3 ⟨rfl, rfl⟩
      go_wp2_with fail
      go_ret
      refine ⟨rfl, ?_⟩
      rw [hb, HX2.out]
      exact hid (H2.out.setE _)
    · rw [hb] at HX
      have HX2 : Hid (mstE 0 true e = 0) := HX
      go_wp2_with fail
      go_ret
      refine ⟨rfl, ?_⟩
      rw [hb, HX2.out]
      exact H2
  · have HX : Hid (mstE er (allM m.c m.p.o) e = er) := by rw [Hid, mstE, if_neg her]
    have he : (er == 0) = false := by simp [her]
    clear her
    go_enter Tryd.func48, Tryd.ntmps48
    go_wp2_with fail
    refine (fine_any _ c er c0).mono ?_
    rintro x w1 ⟨rfl, rfl⟩
    go_wp2_with fail
    go_ret
    refine ⟨rfl, ?_⟩
    rw [HX.out]
    exact H
theorem mst_chk (m : Pm) : mstE (mstE (mstE (mstE 0 (codB m.c) 6) (frmV m.c.toNat m.vs) 3) (witV m.c.toNat m.vs) 1) (allM m.c m.o) 6 = chk0M m := by
  unfold chk0M mstE
  cases codB m.c <;> cases frmV m.c.toNat m.vs <;> cases witV m.c.toNat m.vs <;> cases allM m.c m.o <;> rfl
theorem mst_cod (m : Pm) : mstE 0 (codB m.c) 6 = 0 → codB m.c = true := by
  unfold mstE; cases codB m.c <;> simp
theorem mst_frm (m : Pm) : mstE (mstE 0 (codB m.c) 6) (frmV m.c.toNat m.vs) 3 = 0 → codB m.c = true := by
  unfold mstE; cases codB m.c <;> simp
set_option maxHeartbeats 800000 in
theorem checked_any {B : Nat} (m : Mv) (w : World) (hm : m.ok w) (hV : CV B w) :
    Calls Tryd.prog 27 #[.agg m.cs] w fun x w' => ∃ c, x = .returned (.pointer (some ⟨c, 0, none⟩)) ∧ Hid (ChAt w w' c (chk0M m.p) m (.slice none 0 0)) := by
  have HM := hid hm
  have HV := hid hV
  have HA := hid hm.ro
  have R1 := hid (Row.new w 29 m.cs)
  have B1 := hid (balloc (Below.refl w.heap.size w) (.cells m.cs 29))
  clear hm hV
  go_enter Tryd.func27, Tryd.ntmps27
  go_upto_region 1 with fail
  generalize w.alloc (.cells m.cs 29) = w1 at *
  have H2 : Hid (ChAt w (w1.alloc (.cells (chc 0 m (.slice none 0 0)) 72)) w1.heap.size 0 m (.slice none 0 0)) := ⟨Row.new _ _ _, balloc B1.out _, B1.out.size, HA.out⟩
  go_upto_region 2 with (first | (refine ldM m29 _ rfl rfl _ _ rfl m HA.out R1.out.part ?_) | (refine bd72 _ rfl rfl m HA.out rfl ?_))
  generalize w1.alloc (.cells (chc 0 m (.slice none 0 0)) 72) = w2 at *
  generalize w1.heap.size = c at *
  clear R1
  go_wp2_with fail
  refine (must49 w _ c 0 6 m _ H2.out HM.out HV.out).mono ?_
  rintro x w3 ⟨rfl, H3⟩
  go_wp2_with fail
  refine (must50 w _ c _ 3 m _ H3.out HM.out HV.out (mst_cod m.p)).mono ?_
  rintro x w4 ⟨rfl, H4⟩
  go_wp2_with fail
  refine (must51 w _ c _ 1 m _ H4.out HM.out HV.out (mst_frm m.p)).mono ?_
  rintro x w5 ⟨rfl, H5⟩
  go_wp2_with fail
  refine (must52 w _ c _ 6 m _ H5.out HM.out HV.out).mono ?_
  rintro x w6 ⟨rfl, H6⟩
  have H7 : Hid (ChAt w w6 c (chk0M m.p) m (.slice none 0 0)) := by rw [Hid, ← mst_chk]; exact H6.out
  go_wp2_with fail
  go_ret
  exact ⟨c, rfl, H7⟩
end Go.Proofs.YtbfjkhafdkhhmaaDoor

namespace Go.Proofs.YtbfjkhafdkhhmaaDoor
open Go.ChangeShapes Go.WideShapes Go.ChangeAt Go.RowKit Go.Deep
set_option linter.unusedVariables false
set_option linter.unusedSimpArgs false

/-- At most twelve numbers, at most 100 bytes. -/
def cutP (p : Po) : Po := ⟨p.k, p.n.take 12, p.ad, p.t.take 100⟩
/-- An option with numbers of the call's own and a text that was there. -/
structure Mine (w0 w : World) (o : Ov) : Prop where
  n : w.ownsRow w0.heap.size 3 1 o.n.v o.n.l.length (i64s o.n.l)
  nn : o.n.n = o.n.l.length
  ad : Adr o.ad
  t : Lies .u8 w0 o.t.a o.t.n o.t.cap o.t.l
  oct : Oct o.t.l
theorem Mine.ok {w0 w : World} {o : Ov} (h : Mine w0 w o) (hb : Below w0.heap.size w0 w) : o.ok w := by
  refine ⟨?_, h.ad, h.t.below hb, h.oct⟩
  obtain ⟨a, cap, e, hl⟩ := owns_liesk h.n
  have e1 : Value.slice o.n.a o.n.n o.n.cap = .slice a o.n.l.length cap := e
  injection e1 with e2 e3 e4
  rw [e2, e3, e4]; exact hl
theorem Mine.below {w0 w w' : World} {o : Ov} (h : Mine w0 w o) (hb : Below w.heap.size w w') : Mine w0 w' o := ⟨own_below h.n hb, h.nn, h.ad, h.t, h.oct⟩
theorem Mine.kept {w0 w w' : World} {o : Ov} {v : Value} {n : Nat} {xs : List Value} (h : Mine w0 w o) (ho : w.ownsRow w0.heap.size 54 19 v n xs) (hg : w.grownBy w' v.ownBlock) : Mine w0 w' o :=
  ⟨h.n.kept hg (own_apart h.n ho (by decide)), h.nn, h.ad, h.t, h.oct⟩
theorem own_kept3 {w w' : World} {b b' : Nat} {v v' : Value} {n n' : Nat} {xs xs' : List Value} (h : w.ownsRow b 54 19 v n xs) (ho : w.ownsRow b' 3 1 v' n' xs') (hg : w.grownBy w' v'.ownBlock) : w'.ownsRow b 54 19 v n xs :=
  h.kept hg (own_apart h ho (by decide))
theorem Mine.new {w0 w w' : World} {o : Ov} {x : Obj} (h : Mine w0 w o) (hg : (w.alloc x).grownBy w' (some w.heap.size)) : Mine w0 w' o :=
  ⟨(h.n.alloc x).kept hg (by
    cases hv : o.n.v.ownBlock with
    | none => exact .inl rfl
    | some j => exact .inr (fun e => by have := Option.some.inj e; have := (h.n.lt j hv).2; omega)), h.nn, h.ad, h.t, h.oct⟩
theorem take_min' (l : List Int) (n m : Nat) (h : l.length = n) : l.take (min n m) = l.take m := by rw [Nat.min_comm, ← List.take_take, List.take_of_length_le (l := l) (by omega)]
theorem ocs_snoc (L : List Ov) (o : Ov) : ocs (L ++ [o]) = ocs L ++ o.cs.toList := by simp [ocs]

def ToOk (w : World) (n : Nat) (L : List Ov) (e : Ending) (w' : World) : Prop := ∃ a' cap' L', e = .returned (.slice a' (min n 20) cap') ∧ Opts w' a' (min n 20) cap' L' ∧ pos L' = ((pos L).take 20).map cutP ∧ Below w.heap.size w w'
/-- What To tells, with whose memory it is. -/
def ToOk2 (w : World) (n : Nat) (L : List Ov) (e : Ending) (w' : World) : Prop := ∃ a' cap' L', e = .returned (.slice a' (min n 20) cap') ∧ Opts w' a' (min n 20) cap' L' ∧ pos L' = ((pos L).take 20).map cutP ∧ w'.ownsRow w.heap.size 54 19 (.slice a' (min n 20) cap') (min n 20) (ocs L') ∧ (∀ o ∈ L', Mine w w' o) ∧ (∀ o ∈ L', ∃ o2 ∈ L, o.t.a = o2.t.a ∧ o.t.n ≤ o2.t.n) ∧ Below w.heap.size w w'
set_option maxRecDepth 100000 in
set_option maxHeartbeats 3200000 in
theorem optTo2_any (a : Option Addr) (n cap : Nat) (L : List Ov) (w : World) (hL : Opts w a n cap L) :
    Calls Tryd.prog 24 #[.slice a n cap] w (ToOk2 w n L) := by
  have hz := zov
  have HL := hid hL
  have hlen := hL.len
  have HLen := hid hlen
  have hncap := hL.le
  have hcm := hL.max
  unfold maxLen at hcm
  obtain ⟨m, hm⟩ : ∃ m, min n 20 = m := ⟨_, rfl⟩
  have m1 : m ≤ n := by omega
  have m2 : m ≤ 20 := by omega
  have HM3 : Hid (∀ k, k < m ↔ k < n ∧ k < 20) := by intro k; omega
  have HM := hid hm
  clear hL hlen hm
  go_enter Tryd.func24, Tryd.ntmps24
  go_wp2_with fail
  go_loopw [3, 4] (fun v i wr => ∃ (k : Nat) (L' : List Ov), k ≤ m ∧ i = .int .i64 k ∧ Hid (L'.length = k) ∧ Hid (pos L' = ((pos L).take k).map cutP) ∧ Hid (wr.ownsRow w.heap.size 54 19 v k (ocs L')) ∧ Hid (∀ o ∈ L', Mine w wr o) ∧ Hid (∀ o ∈ L', ∃ o2 ∈ L, o.t.a = o2.t.a ∧ o.t.n ≤ o2.t.n) ∧ Hid (Below w.heap.size w wr)) (fun _ i _ => m - (intOf i).toNat)
  case atStart => exact ⟨0, [], by omega, rfl, rfl, rfl, World.ownsRow_nil _ _ _ _, (fun o ho => by cases ho), (fun o ho => by cases ho), Below.refl _ _⟩
  case round =>
    obtain ⟨k, L', hk, rfl, HLL, HPL, HO, HMi, HSr, HB⟩ := hrel
    by_cases hlt : k < m
    · have i1 : (k : Int) < (n : Int) := by omega
      have i2 : (k : Int) < 20 := by omega
      have i3 : k < n := by omega
      have hL1 := HL.out.below HB.out
      obtain ⟨b, off, rfl, hp⟩ := hL1.cell k i3
      have hkl : k < L.length := by rw [HLen.out]; exact i3
      have hok0 := HL.out.at k i3
      have HPS : Hid ((pos L).take (k + 1) = (pos L).take k ++ [(L.getD k Ov.zero).p]) := by
        rw [Hid, List.take_succ_eq_append_getElem (by rw [pos_len]; exact hkl)]; simp [pos, hkl]
      have HMem : Hid (L.getD k Ov.zero ∈ L) := by rw [Hid]; simp [hkl]
      generalize hoo : L.getD k Ov.zero = o at *
      have PP := hid hp
      have OK0 := hid hok0
      have HA := hid hok0.ad
      clear hL1 hp hok0 hoo hkl
      have R2 := hid (layOo_new wr 57 o)
      have B2 := hid (layOo_below wr 57 o)
      obtain ⟨q1, hq1⟩ : ∃ q1, min o.n.n 12 = q1 := ⟨_, rfl⟩
      obtain ⟨q2, hq2⟩ : ∃ q2, min o.t.n 100 = q2 := ⟨_, rfl⟩
      have hmin1 : (if (12 : Int) < (o.n.n : Int) then (12 : Int) else (o.n.n : Int)) = (q1 : Int) := by split <;> omega
      have hmin2 : (if (100 : Int) < (o.t.n : Int) then (100 : Int) else (o.t.n : Int)) = (q2 : Int) := by split <;> omega
      have hnc := OK0.out.n.2.1
      have hnm := OK0.out.n.2.2.1
      have htc := OK0.out.t.2.1
      have htm := OK0.out.t.2.2.1
      unfold maxLen at hnm htm
      have hq1n : q1 ≤ o.n.n := by omega
      have hq2n : q2 ≤ o.t.n := by omega
      have hq12 : q1 ≤ 12 := by omega
      have hq1c : (q1 : Int) ≤ (o.n.cap : Int) := by omega
      have hq2c : (q2 : Int) ≤ (o.t.cap : Int) := by omega
      have HQ1 := hid hq1
      have HQ2 := hid hq2
      clear hq1 hq2
      go_upto_region 6 with (first | (refine ldOo o38 _ rfl rfl _ _ rfl o HA.out PP.out ?_) | (refine stOo o38 _ _ rfl rfl wr.heap.size o HA.out rfl rfl 57 Ov.zero adr_zeros (Row.new wr 57 _) ?_))
      generalize hw2 : (wr.alloc (.cells Ov.zero.cs 57)).setRow wr.heap.size o.cs = w2 at *
      have O2 := hid (own_below HO.out B2.out)
      have M2 := hid (fun o ho => (HMi.out o ho).below B2.out)
      have B3 := hid (bthen HB.out B2.out)
      have LN := hid ((OK0.out.n.below B3.out).pre q1 hq1n)
      have LN0 := hid OK0.out.n.1
      have LT0 := hid OK0.out.t.1
      have BA0 := hid (balloc (Below.refl w2.heap.size w2) (.cells #[] 3))
      have R3 := hid (R2.out.alloc (.cells #[] 3))
      have O3 := hid (O2.out.alloc (.cells #[] 3))
      have B4 := hid (bthen B3.out BA0.out)
      have OW := hid (World.ownsRow_made (e := 3) (size := 1) (base := w.heap.size) w2 #[] 0 B3.out.size (by decide) (by simp))
      have LN3 := hid (LN.out.below BA0.out)
      generalize hgs : wr.heap.size = g at *
      clear hw2 hgs PP B2 HO HMi hz
      refine wp_region_held_drew (S := fun w' => w'.cell? ⟨g, 0, none⟩ = some (.int .i64 o.k) ∧ (w'.cell? ⟨g, 1, none⟩ = some (.slice o.n.a o.n.n o.n.cap) ∧ (w'.cell? ⟨g, 18, none⟩ = some (.slice o.t.a o.t.n o.t.cap) ∧ Hid (Row w' g 57 o.cs)))) (by kernel_rfl) ?_ (fun hHeld => ?_)
      · exact ⟨(R2.out.cell 0).trans o.at0, (R2.out.cell 1).trans o.at1, (R2.out.cell 18).trans (Ov.at18 HA.out), R2.out⟩
      refine wpAnyH_take (i := 0) (oi := _) (v := ?va0) rfl (by kernel_rfl) (by kernel_rfl) (by kernel_rfl) (fun _ _ _ h => h) (Or.inl ⟨by rfl, ?hya0⟩) (by assumption) ?resta0
      case hya0 => (intro w hSw; (try dsimp only at hSw); go_split_ands; go_simp; try (with_reducible rfl))
      try simp only [List.getElem_toArray, List.getElem_cons_zero, List.getElem_cons_succ, Act.put, List.setIfInBounds_toArray, List.set_cons_zero, List.set_cons_succ]
      refine wpAnyH_take (i := 1) (oi := _) (v := ?va1) rfl (by kernel_rfl) (by kernel_rfl) (by kernel_rfl) (fun _ _ _ h => h) (Or.inl ⟨by rfl, ?hya1⟩) (by assumption) ?resta1
      case hya1 => (intro w hSw; (try dsimp only at hSw); go_split_ands; go_simp; try (with_reducible rfl))
      try simp only [List.getElem_toArray, List.getElem_cons_zero, List.getElem_cons_succ, Act.put, List.setIfInBounds_toArray, List.set_cons_zero, List.set_cons_succ]
      refine wpAnyH_take (i := 2) (oi := _) (v := ?va2) rfl (by kernel_rfl) (by kernel_rfl) (by kernel_rfl) (fun _ _ _ h => h) (Or.inl ⟨by rfl, ?hya2⟩) (by assumption) ?resta2
      case hya2 => (intro w hSw; (try dsimp only at hSw); go_split_ands; go_simp; try (with_reducible rfl))
      try simp only [List.getElem_toArray, List.getElem_cons_zero, List.getElem_cons_succ, Act.put, List.setIfInBounds_toArray, List.set_cons_zero, List.set_cons_succ]
      refine wpAnyH_take (i := 4) (oi := _) (v := ?va4) rfl (by kernel_rfl) (by kernel_rfl) (by kernel_rfl) (fun _ _ _ h => h) (Or.inl ⟨by rfl, ?hya4⟩) (by assumption) ?resta4
      case hya4 => (intro w hSw; (try dsimp only at hSw); go_split_ands; go_simp; try (with_reducible rfl))
      try simp only [List.getElem_toArray, List.getElem_cons_zero, List.getElem_cons_succ, Act.put, List.setIfInBounds_toArray, List.set_cons_zero, List.set_cons_succ]
      refine wpAnyH_take (i := 5) (oi := _) (v := ?va5) rfl (by kernel_rfl) (by kernel_rfl) (by kernel_rfl) (fun _ _ _ h => h) (Or.inl ⟨by rfl, ?hya5⟩) (by assumption) ?resta5
      case hya5 => (intro w hSw; (try dsimp only at hSw); go_split_ands; go_simp; try (with_reducible rfl))
      try simp only [List.getElem_toArray, List.getElem_cons_zero, List.getElem_cons_succ, Act.put, List.setIfInBounds_toArray, List.set_cons_zero, List.set_cons_succ]
      refine wpAnyH_take (i := 6) (oi := _) (v := ?va6) rfl (by kernel_rfl) (by kernel_rfl) (by kernel_rfl) (fun _ _ _ h => h) (Or.inl ⟨by rfl, ?hya6⟩) (by assumption) ?resta6
      case hya6 => (intro w hSw; (try dsimp only at hSw); go_split_ands; go_simp; try (with_reducible rfl))
      try simp only [List.getElem_toArray, List.getElem_cons_zero, List.getElem_cons_succ, Act.put, List.setIfInBounds_toArray, List.set_cons_zero, List.set_cons_succ]
      refine wpAnyH_take (i := 7) (oi := _) (v := ?va7) rfl (by kernel_rfl) (by kernel_rfl) (by kernel_rfl) (fun _ _ _ h => h) (Or.inl ⟨by rfl, ?hya7⟩) (by assumption) ?resta7
      case hya7 => (intro w hSw; (try dsimp only at hSw); go_split_ands; go_simp; try (with_reducible rfl))
      try simp only [List.getElem_toArray, List.getElem_cons_zero, List.getElem_cons_succ, Act.put, List.setIfInBounds_toArray, List.set_cons_zero, List.set_cons_succ]
      refine wpAnyH_take (i := 8) (oi := _) (v := ?va8) rfl (by kernel_rfl) (by kernel_rfl) (by kernel_rfl) (fun _ _ _ h => h) (Or.inl ⟨by rfl, ?hya8⟩) (by assumption) ?resta8
      case hya8 => (intro w hSw; (try dsimp only at hSw); go_split_ands; go_simp; try (with_reducible rfl))
      try simp only [List.getElem_toArray, List.getElem_cons_zero, List.getElem_cons_succ, Act.put, List.setIfInBounds_toArray, List.set_cons_zero, List.set_cons_succ]
      refine wpAnyH_take (i := 9) (oi := _) (v := ?va9) rfl (by kernel_rfl) (by kernel_rfl) (by kernel_rfl) (fun _ _ _ h => h) (Or.inl ⟨by rfl, ?hya9⟩) (by assumption) ?resta9
      case hya9 => (intro w hSw; (try dsimp only at hSw); go_split_ands; go_simp; try (with_reducible rfl))
      try simp only [List.getElem_toArray, List.getElem_cons_zero, List.getElem_cons_succ, Act.put, List.setIfInBounds_toArray, List.set_cons_zero, List.set_cons_succ]
      refine wpAnyH_take (i := 10) (oi := _) (v := ?va10) rfl (by kernel_rfl) (by kernel_rfl) (by kernel_rfl) (fun _ _ _ h => h) (Or.inl ⟨by rfl, ?hya10⟩) (by assumption) ?resta10
      case hya10 => (intro w hSw; (try dsimp only at hSw); go_split_ands; go_simp; try (with_reducible rfl))
      try simp only [List.getElem_toArray, List.getElem_cons_zero, List.getElem_cons_succ, Act.put, List.setIfInBounds_toArray, List.set_cons_zero, List.set_cons_succ]
      refine wpAnyH_take (i := 12) (oi := _) (v := ?va12) rfl (by kernel_rfl) (by kernel_rfl) (by kernel_rfl) (fun _ _ _ h => h) (Or.inl ⟨by rfl, ?hya12⟩) (by assumption) ?resta12
      case hya12 => (intro w hSw; (try dsimp only at hSw); go_split_ands; go_simp; try (with_reducible rfl))
      try simp only [List.getElem_toArray, List.getElem_cons_zero, List.getElem_cons_succ, Act.put, List.setIfInBounds_toArray, List.set_cons_zero, List.set_cons_succ]
      refine wpAnyH_take (i := 13) (oi := _) (v := .agg (arr o.ad)) rfl (by kernel_rfl) (by kernel_rfl) (by kernel_rfl) (fun _ _ _ h => h) (yld36 (by rfl) _ rfl g 2 rfl o.ad HA.out (fun w h => by have := h.2.2.2.out.part.ovA HA.out; exact this)) (by assumption) ?_
      try simp only [List.getElem_toArray, List.getElem_cons_zero, List.getElem_cons_succ, Act.put, List.setIfInBounds_toArray, List.set_cons_zero, List.set_cons_succ]
      refine wpAnyH_take (i := 14) (oi := _) (v := ?va14) rfl (by kernel_rfl) (by kernel_rfl) (by kernel_rfl) (fun _ _ _ h => h) (Or.inl ⟨by rfl, ?hya14⟩) (by assumption) ?resta14
      case hya14 => (intro w hSw; (try dsimp only at hSw); go_split_ands; go_simp; try (with_reducible rfl))
      try simp only [List.getElem_toArray, List.getElem_cons_zero, List.getElem_cons_succ, Act.put, List.setIfInBounds_toArray, List.set_cons_zero, List.set_cons_succ]
      refine wpAnyH_take (i := 15) (oi := _) (v := ?va15) rfl (by kernel_rfl) (by kernel_rfl) (by kernel_rfl) (fun _ _ _ h => h) (Or.inl ⟨by rfl, ?hya15⟩) (by assumption) ?resta15
      case hya15 => (intro w hSw; (try dsimp only at hSw); go_split_ands; go_simp; try (with_reducible rfl))
      try simp only [List.getElem_toArray, List.getElem_cons_zero, List.getElem_cons_succ, Act.put, List.setIfInBounds_toArray, List.set_cons_zero, List.set_cons_succ]
      refine wpAnyH_take (i := 16) (oi := _) (v := ?va16) rfl (by kernel_rfl) (by kernel_rfl) (by kernel_rfl) (fun _ _ _ h => h) (Or.inl ⟨by rfl, ?hya16⟩) (by assumption) ?resta16
      case hya16 => (intro w hSw; (try dsimp only at hSw); go_split_ands; go_simp; try (with_reducible rfl))
      try simp only [List.getElem_toArray, List.getElem_cons_zero, List.getElem_cons_succ, Act.put, List.setIfInBounds_toArray, List.set_cons_zero, List.set_cons_succ]
      refine wpAnyH_take (i := 17) (oi := _) (v := ?va17) rfl (by kernel_rfl) (by kernel_rfl) (by kernel_rfl) (fun _ _ _ h => h) (Or.inl ⟨by rfl, ?hya17⟩) (by assumption) ?resta17
      case hya17 => (intro w hSw; (try dsimp only at hSw); go_split_ands; go_simp; try (with_reducible rfl))
      try simp only [List.getElem_toArray, List.getElem_cons_zero, List.getElem_cons_succ, Act.put, List.setIfInBounds_toArray, List.set_cons_zero, List.set_cons_succ]
      refine wpAnyH_take (i := 18) (oi := _) (v := ?va18) rfl (by kernel_rfl) (by kernel_rfl) (by kernel_rfl) (fun _ _ _ h => h) (Or.inl ⟨by rfl, ?hya18⟩) (by assumption) ?resta18
      case hya18 => (intro w hSw; (try dsimp only at hSw); go_split_ands; go_simp; try (with_reducible rfl))
      try simp only [List.getElem_toArray, List.getElem_cons_zero, List.getElem_cons_succ, Act.put, List.setIfInBounds_toArray, List.set_cons_zero, List.set_cons_succ]
      refine wpAnyH_take (i := 19) (oi := _) (v := ?va19) rfl (by kernel_rfl) (by kernel_rfl) (by kernel_rfl) (fun _ _ _ h => h) (Or.inl ⟨by rfl, ?hya19⟩) (by assumption) ?resta19
      case hya19 => (intro w hSw; (try dsimp only at hSw); go_split_ands; go_simp; try (with_reducible rfl))
      try simp only [List.getElem_toArray, List.getElem_cons_zero, List.getElem_cons_succ, Act.put, List.setIfInBounds_toArray, List.set_cons_zero, List.set_cons_succ]
      refine wpAnyH_take (i := 20) (oi := _) (v := ?va20) rfl (by kernel_rfl) (by kernel_rfl) (by kernel_rfl) (fun _ _ _ h => h) (Or.inl ⟨by rfl, ?hya20⟩) (by assumption) ?resta20
      case hya20 => (intro w hSw; (try dsimp only at hSw); go_split_ands; go_simp; try (with_reducible rfl))
      try simp only [List.getElem_toArray, List.getElem_cons_zero, List.getElem_cons_succ, Act.put, List.setIfInBounds_toArray, List.set_cons_zero, List.set_cons_succ]
      refine wpAnyH_ready (rs := [3]) (by kernel_rfl) (by simp) ?_
      refine AllReadyH.cons (o := _) rfl (fun K hK => ?_) AllReadyH.nil
      go_simp
      go_wp2_with fail
      refine hK.out _ _ ⟨(R3.out.cell 0).trans o.at0, (R3.out.cell 1).trans o.at1, (R3.out.cell 18).trans (Ov.at18 HA.out), R3.out⟩ (fun hHeld => ?_)
      clear hK K
      try simp only [List.getElem_toArray, List.getElem_cons_zero, List.getElem_cons_succ, Act.put, List.setIfInBounds_toArray, List.set_cons_zero, List.set_cons_succ]
      refine wpAnyH_ready (rs := [11]) (by kernel_rfl) (by simp) ?_
      refine AllReadyH.cons (o := _) rfl (fun K hK => ?_) AllReadyH.nil
      refine step_appI (base := w.heap.size) (n := 0) (m := q1) (xs := []) (l := o.n.l.take q1) rfl _ _ rfl rfl rfl (by exact OW.out) (by exact LN3.out) (by exact B4.out.size) (by omega) ?_
      intro v4 w4 hown4 hg4
      have hg4 : (w2.alloc (.cells #[] 3)).grownBy w4 (some w2.heap.size) := ⟨hg4.os, hg4.tape, hg4.output, hg4.size, hg4.block⟩
      rw [Nat.zero_add, List.nil_append] at hown4
      have R4 := hid (R3.out.kept hg4 (fun e => by have := Option.some.inj e; have := R2.out.lt; omega))
      have O4 := hid (own_kept3 O3.out OW.out hg4)
      have M4 := hid (fun o ho => (M2.out o ho).new hg4)
      have B5 := hid (Below.grown B4.out hg4 B4.out.size (fun k hk => by have := Option.some.inj hk; have := B3.out.size; omega))
      obtain ⟨na, nc, rfl⟩ := owns_len hown4
      have N4 := hid hown4
      clear hown4 hg4
      refine hK.out _ _ ⟨(R4.out.cell 0).trans o.at0, (R4.out.cell 1).trans o.at1, (R4.out.cell 18).trans (Ov.at18 HA.out), R4.out⟩ (fun hHeld => ?_)
      clear hK K
      try simp only [List.getElem_toArray, List.getElem_cons_zero, List.getElem_cons_succ, Act.put, List.setIfInBounds_toArray, List.set_cons_zero, List.set_cons_succ]
      refine wpAnyH_take (i := 21) (oi := _) (v := .agg (Ov.cs (⟨o.k, ⟨na, q1, nc, o.n.l.take q1⟩, o.ad, ⟨o.t.a, q2, o.t.cap, o.t.l.take q2⟩⟩ : Ov))) rfl (by kernel_rfl) (by kernel_rfl) (by kernel_rfl) (fun _ _ _ h => h) (ybdO o43 (by rfl) _ _ _ _ rfl (⟨o.k, ⟨na, q1, nc, o.n.l.take q1⟩, o.ad, ⟨o.t.a, q2, o.t.cap, o.t.l.take q2⟩⟩ : Ov) HA.out rfl rfl rfl rfl) (by assumption) ?_
      try simp only [List.getElem_toArray, List.getElem_cons_zero, List.getElem_cons_succ, Act.put, List.setIfInBounds_toArray, List.set_cons_zero, List.set_cons_succ]
      have XS : Hid (Txt.a (Ov.t (⟨o.k, ⟨na, q1, nc, o.n.l.take q1⟩, o.ad, ⟨o.t.a, q2, o.t.cap, o.t.l.take q2⟩⟩ : Ov)) = o.t.a ∧ Txt.n (Ov.t (⟨o.k, ⟨na, q1, nc, o.n.l.take q1⟩, o.ad, ⟨o.t.a, q2, o.t.cap, o.t.l.take q2⟩⟩ : Ov)) ≤ o.t.n) := ⟨rfl, hq2n⟩
      have MX : Hid (Mine w w4 (⟨o.k, ⟨na, q1, nc, o.n.l.take q1⟩, o.ad, ⟨o.t.a, q2, o.t.cap, o.t.l.take q2⟩⟩ : Ov)) := ⟨ownsRow_i64 N4.out rfl (by rw [List.length_take, LN0.out]; omega) rfl, by simp only [List.length_take, LN0.out]; omega, HA.out, OK0.out.t.pre q2 hq2n, oct_take OK0.out.oct _⟩
      have PX : Hid (Ov.p (⟨o.k, ⟨na, q1, nc, o.n.l.take q1⟩, o.ad, ⟨o.t.a, q2, o.t.cap, o.t.l.take q2⟩⟩ : Ov) = cutP o.p) := by rw [Hid, ← HQ1.out, ← HQ2.out]; simp only [Ov.p, cutP, take_min' _ _ _ LN0.out, take_min' _ _ _ LT0.out]
      generalize hX : (⟨o.k, ⟨na, q1, nc, o.n.l.take q1⟩, o.ad, ⟨o.t.a, q2, o.t.cap, o.t.l.take q2⟩⟩ : Ov) = X at *
      clear hX
      refine wpAnyH_ready (rs := [22]) (by kernel_rfl) (by simp) ?_
      refine AllReadyH.cons (o := _) rfl (fun K hK => ?_) AllReadyH.nil
      refine step_bsO s23 rfl _ rfl X MX.out.ad rfl ?_
      have R5 := hid (R4.out.alloc (.cells X.cs 54))
      have O5 := hid (O4.out.alloc (.cells X.cs 54))
      have BA := hid (balloc (Below.refl w4.heap.size w4) (.cells X.cs 54))
      have M5 := hid (fun o ho => (M4.out o ho).below BA.out)
      have MX5 := hid (MX.out.below BA.out)
      have B6 := hid (bthen B5.out BA.out)
      have RX := hid (Row.new w4 54 X.cs)
      refine hK.out _ _ ⟨(R5.out.cell 0).trans o.at0, (R5.out.cell 1).trans o.at1, (R5.out.cell 18).trans (Ov.at18 HA.out), R5.out⟩ (fun hHeld => ?_)
      clear hK K
      try simp only [List.getElem_toArray, List.getElem_cons_zero, List.getElem_cons_succ, Act.put, List.setIfInBounds_toArray, List.set_cons_zero, List.set_cons_succ]
      generalize hw5 : w4.alloc (.cells X.cs 54) = w5 at *
      generalize hg5 : w4.heap.size = g5 at *
      clear hw5 hg5
      refine wpAnyH_ready (rs := [23]) (by kernel_rfl) (by simp) ?_
      refine AllReadyH.cons (o := _) rfl (fun K hK => ?_) AllReadyH.nil
      refine step_pushO s23 rfl _ _ rfl w.heap.size k g5 _ (ocs L') rfl O5.out X MX5.out.ad rfl RX.out (by exact B6.out.size) (by omega) ?_
      intro v6 w6 hown6 hg6
      have R6 := hid (R5.out.kept hg6 (fun e => own_row O5.out R5.out (by decide) e.symm))
      have M6 := hid (fun o ho => (M5.out o ho).kept O5.out hg6)
      have MX6 := hid (MX5.out.kept O5.out hg6)
      have B7 := hid (Below.grown B6.out hg6 B6.out.size (fun j hj => (O5.out.lt j hj).1))
      have O6 := hid hown6
      clear hown6 hg6
      refine hK.out _ _ ⟨(R6.out.cell 0).trans o.at0, (R6.out.cell 1).trans o.at1, (R6.out.cell 18).trans (Ov.at18 HA.out), R6.out⟩ (fun hHeld => ?_)
      clear hK K
      try simp only [List.getElem_toArray, List.getElem_cons_zero, List.getElem_cons_succ, Act.put, List.setIfInBounds_toArray, List.set_cons_zero, List.set_cons_succ]
      refine wpAnyH_take (i := 24) (oi := _) (v := ?va24) rfl (by kernel_rfl) (by kernel_rfl) (by kernel_rfl) (fun _ _ _ h => h) (Or.inl ⟨by rfl, ?hya24⟩) (by assumption) ?resta24
      case hya24 => (intro w hSw; (try dsimp only at hSw); go_split_ands; go_simp; try (with_reducible rfl))
      try simp only [List.getElem_toArray, List.getElem_cons_zero, List.getElem_cons_succ, Act.put, List.setIfInBounds_toArray, List.set_cons_zero, List.set_cons_succ]
      refine wpAnyH_done (by kernel_rfl) ?_ _
      go_wp2_with fail
      go_roundw
      case rel =>
        refine ⟨k + 1, L' ++ [X], by omega, by go_num, ?_, ?_, ?_, ?_, ?_, B7.out⟩
        · rw [Hid, List.length_append, HLL.out]; rfl
        · rw [Hid, HPS.out, pos, List.map_append, List.map_append, ← HPL.out]; simp [pos, PX.out]
        · rw [Hid, ocs_snoc]; exact O6.out
        · intro o ho
          rcases List.mem_append.1 ho with h | h
          · exact M6.out o h
          · rw [List.mem_singleton.1 h]; exact MX6.out
        · intro o ho
          rcases List.mem_append.1 ho with h | h
          · exact HSr.out o h
          · rw [List.mem_singleton.1 h]; exact ⟨_, HMem.out, XS.out⟩
      case measure => simp [intOf]; omega
    · obtain rfl : k = m := by omega
      have hcase : ¬ ((k : Int) < (n : Int)) ∨ ((k : Int) < (n : Int) ∧ ¬ (k : Int) < 20) := by
        by_cases hn : k < n
        · have : ¬ k < 20 := fun h => absurd ((HM3.out k).2 ⟨hn, h⟩) (Nat.lt_irrefl _)
          omega
        · omega
      have HOK := hid (fun o ho => (HMi.out o ho).ok HB.out)
      obtain ⟨va, vc, hv, hop⟩ := owns_opts (by rw [HLL.out]; exact HO.out) HOK.out
      subst hv
      rw [HLL.out] at hop HO
      have HOP := hid hop
      have HPF : Hid (pos L' = ((pos L).take 20).map cutP) := by
        rw [Hid, HPL.out, ← HM.out]
        congr 1
        have := pos_len L
        rw [HLen.out] at this
        rw [Nat.min_comm, ← List.take_take, List.take_of_length_le (l := pos L) (by omega)]
      rw [HLL.out]
      clear hop
      rcases hcase with h | ⟨h, h'⟩
      · go_wp2_with fail
        go_ret
        unfold ToOk2
        exact ⟨va, vc, L', by rw [HM.out]; rfl, by rw [HM.out]; exact HOP.out, HPF.out, by rw [HM.out]; exact HO.out, HMi.out, HSr.out, HB.out⟩
      · go_wp2_with fail
        go_ret
        unfold ToOk2
        exact ⟨va, vc, L', by rw [HM.out]; rfl, by rw [HM.out]; exact HOP.out, HPF.out, by rw [HM.out]; exact HO.out, HMi.out, HSr.out, HB.out⟩
theorem optTo_any (a : Option Addr) (n cap : Nat) (L : List Ov) (w : World) (hL : Opts w a n cap L) :
    Calls Tryd.prog 24 #[.slice a n cap] w (ToOk w n L) := by
  refine (optTo2_any a n cap L w hL).mono ?_
  rintro e w' ⟨a', cap', L', rfl, hO, hp, _, _, _, hb⟩
  exact ⟨a', cap', L', rfl, hO, hp, hb⟩
end Go.Proofs.YtbfjkhafdkhhmaaDoor

namespace Go.Proofs.YtbfjkhafdkhhmaaDoor
open Go.ChangeShapes Go.WideShapes Go.ChangeAt Go.RowKit Go.Deep
set_option linter.unusedVariables false
set_option linter.unusedSimpArgs false

/-- One option in a slice of its own. -/
theorem opts_one (w : World) (t : TypeId) (x : Ov) (h : x.ok w) : Opts (w.alloc (.cells x.cs t)) (some ⟨w.heap.size, 0, none⟩) 1 1 [x] := by
  refine ⟨rfl, Nat.le_refl _, by decide, (fun h => by cases h), fun k hk => ⟨w.heap.size, 0, rfl, ?_⟩, ?_⟩
  · obtain rfl : k = 0 := by omega
    exact (Row.new w t x.cs).part
  · intro o ho
    rw [List.mem_singleton.1 ho]
    exact h.below (balloc (Below.refl _ _) _)
def ex1 : List Int := [0, 0, 5, 255]
def po1 : Po := ⟨6, [0, 0, 5, 255], zeros, []⟩
def po2 : Po := ⟨1, [2], zeros, []⟩
theorem ex1_ok : (encE [po1], encsL [po1]) = (0, [6, 4, 0, 0, 5, 255]) := by kernel_rfl
theorem ex2_ok : (encE [po2], encsL [po2]) = (0, [1, 2, 0, 0]) := by kernel_rfl
theorem ex3_ok : wordOf 3 = ⟨#[114, 111, 117, 116, 101]⟩ := by kernel_rfl
theorem lies_lit (kd : IntKind) (w : World) (cs : Array Value) (t : TypeId) (l : List Int) (n : Nat) (h : cs.toList = l.map (Value.int kd)) (hn : l.length = n) (hs : n ≤ 100) : Lies kd (w.alloc (.cells cs t)) (some ⟨w.heap.size, 0, none⟩) n n l := by
  subst hn; exact lies_new kd w cs t l h hs
theorem enc_at {B : Nat} (a : Option Addr) (n cap : Nat) (L : List Ov) (P : List Po) (l : List Int) (w : World) (hL : Opts w a n cap L) (hV : Vars B w) (hn : n ≤ 1000) (hP : pos L = P) (he : (encE P, encsL P) = (0, l)) :
    Calls Tryd.prog 56 #[.slice a n cap] w fun e w' => ∃ v c, e = .returned (.tuple #[.slice v l.length c, .int .i64 0]) ∧ Lies .u8 w' v l.length c l ∧ Below w.heap.size w w' := by
  refine (optEncode_any a n cap L w hL hV hn).mono ?_
  rintro e w' ⟨v, rfl, hown, hb⟩
  have h2 : encsL P = l := congrArg Prod.snd he
  rw [hP, h2] at hown
  obtain ⟨va, vc, rfl, hl, _⟩ := owns_lies hown
  refine ⟨va, vc, ?_, hl, hb⟩
  rw [hP, show encE P = 0 from congrArg Prod.fst he]
end Go.Proofs.YtbfjkhafdkhhmaaDoor
