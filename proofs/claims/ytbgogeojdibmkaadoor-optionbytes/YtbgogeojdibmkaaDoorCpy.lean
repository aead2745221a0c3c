/- An option with lists of its own: slices.Clone, copied. -/
import Derived.Test.YtbgogeojdibmkaaDoorFnd
namespace Go.Proofs.YtbgogeojdibmkaaDoor
open Go.ChangeShapes Go.WideShapes Go.ChangeAt Go.RowKit Go.Deep
set_option linter.unusedVariables false
set_option linter.unusedSimpArgs false

theorem clone60_nil (w : World) : Calls Tryd.prog 60 #[.slice none 0 0] w fun e w' => e = .returned (.slice none 0 0) ∧ w' = w := by
  have he := fun w => Lib.run_eql_slice_nil (P := Tryd.prog) w 35 3 none 0 0 0 0 Tryd.underlying35
  go_enter Tryd.func60, Tryd.ntmps60
  go_wp2
  go_ret
  exact ⟨rfl, rfl⟩
theorem clone60_some (ad : Addr) (len cap : Nat) (l : List Int) (w : World) (h : Lies .i64 w (some ad) len cap l) (hl : len ≤ 100000) :
    Calls Tryd.prog 60 #[.slice (some ad) len cap] w fun e w' => ∃ v, e = .returned v ∧ w'.ownsRow w.heap.size 3 1 v l.length (i64s l) ∧ Below w.heap.size w w' := by
  have he := fun w => Lib.run_eql_slice_nil (P := Tryd.prog) w 35 3 (some ad) len cap 0 0 Tryd.underlying35
  obtain ⟨i0, hi, hz0, hz1, hz2⟩ := info_parts info3
  have HB : Hid (Lies .i64 w (some ad) len cap l) := h
  have hb1 : Below w.heap.size w (w.alloc (.cells #[] 3)) := (Below.refl _ _).alloc (Nat.le_refl _) _
  have hl1 := HB.out.below hb1
  have hown := World.ownsRow_made (e := 3) (size := 1) (base := w.heap.size) w #[] 0 (Nat.le_refl _) (by decide) (by simp)
  have HO : Hid _ := hown
  have HL1 : Hid _ := hl1
  clear h hown hl1 hb1
  go_enter Tryd.func60, Tryd.ntmps60
  go_wp2_with (at_builtin; refine wpList_append_own _ rfl _ _ 35 rfl w.heap.size 3 i0 (.int .i64 0) 1 8 Tryd.underlying35 hi hz0 hz1 hz2 rfl (by decide) _ _ _ rfl HO.out ad len cap (i64s l) rfl ?c1 (Lies.cells HL1.out ad rfl) (ints_oneCell8 _ _) ?c3 ?c4 ?c5 ?_)
  case c1 => have := HB.out.1; simp [i64s]; omega
  case c3 => unfold maxLen; omega
  case c4 => omega
  intro v1 w1 hown1 hg1 _
  have hb2 : Below w.heap.size w w1 := Below.grown ((Below.refl _ _).alloc (Nat.le_refl _) _) hg1 (by simp) (fun k hk => by cases hk; exact Nat.le_refl _)
  have hln := HB.out.1
  have HW : Hid _ := hown1
  clear hown1 hg1
  go_wp2
  go_ret
  exact ⟨_, rfl, ownsRow_i64 HW.out rfl (by omega) (by simp), hb2⟩
theorem clone60_any (a : Option Addr) (len cap : Nat) (l : List Int) (w : World) (h : Lies .i64 w a len cap l) (hl : len ≤ 100000) :
    Calls Tryd.prog 60 #[.slice a len cap] w fun e w' => ∃ v, e = .returned v ∧ w'.ownsRow w.heap.size 3 1 v l.length (i64s l) ∧ Below w.heap.size w w' := by
  cases a with
  | some ad => exact clone60_some ad len cap l w h hl
  | none =>
    obtain ⟨rfl, rfl⟩ := h.isNil rfl
    have : l = [] := List.eq_nil_of_length_eq_zero h.1
    subst this
    refine (clone60_nil w).mono ?_
    rintro e w' ⟨rfl, rfl⟩
    exact ⟨_, rfl, World.ownsRow_nil _ _ _ _, Below.refl _ _⟩
def Ov.setN (o : Ov) (t : Txt) : Ov := ⟨o.k, t, o.ad, o.t⟩
def Ov.setT (o : Ov) (t : Txt) : Ov := ⟨o.k, o.n, o.ad, t⟩
theorem Ov.set1 (o : Ov) (t : Txt) : o.cs.setIfInBounds 1 (.slice t.a t.n t.cap) = (o.setN t).cs := by
  apply Array.ext'; simp [Ov.cs, Ov.setN, Txt.v]
theorem Ov.set18 {o : Ov} (h : Adr o.ad) (t : Txt) : o.cs.setIfInBounds 18 (.slice t.a t.n t.cap) = (o.setT t).cs := by
  apply Array.ext'
  have e : o.cs.toList = (.int .i64 o.k :: o.n.v :: (arr o.ad).toList) ++ [o.t.v] := by simp [Ov.cs]
  have e2 : (o.setT t).cs.toList = (.int .i64 o.k :: o.n.v :: (arr o.ad).toList) ++ [.slice t.a t.n t.cap] := by simp [Ov.cs, Ov.setT, Txt.v]
  have hl : (Value.int .i64 o.k :: o.n.v :: (arr o.ad).toList).length = 18 := by simp [arr_size, h.1]
  rw [Array.toList_setIfInBounds, e, e2, List.set_append_right _ _ (by omega), hl]
  rfl
/-- An option with lists of the call's own. -/
structure Own2 (base : Nat) (w : World) (o : Ov) : Prop where
  n : w.ownsRow base 3 1 o.n.v o.n.l.length (i64s o.n.l)
  nn : o.n.n = o.n.l.length
  ad : Adr o.ad
  t : w.ownsRow base 5 1 o.t.v o.t.l.length (u8s o.t.l)
  tn : o.t.n = o.t.l.length
  oct : Oct o.t.l
theorem Own2.ok {base : Nat} {w : World} {o : Ov} (h : Own2 base w o) : o.ok w := by
  refine ⟨?_, h.ad, ?_, h.oct⟩
  · obtain ⟨a, cap, e, hl⟩ := owns_liesk h.n
    have e1 : Value.slice o.n.a o.n.n o.n.cap = .slice a o.n.l.length cap := e
    injection e1 with e2 e3 e4
    rw [e2, e3, e4]; exact hl
  · obtain ⟨a, cap, e, hl, _⟩ := owns_lies h.t
    have e1 : Value.slice o.t.a o.t.n o.t.cap = .slice a o.t.l.length cap := e
    injection e1 with e2 e3 e4
    rw [e2, e3, e4]; exact hl
theorem Own2.below {base : Nat} {w w' : World} {o : Ov} (h : Own2 base w o) (hb : Below w.heap.size w w') : Own2 base w' o := ⟨own_below h.n hb, h.nn, h.ad, own_below h.t hb, h.tn, h.oct⟩
theorem Own2.mono {base base' : Nat} {w : World} {o : Ov} (h : Own2 base w o) (hb : base' ≤ base) : Own2 base' w o := ⟨own_mono h.n hb, h.nn, h.ad, own_mono h.t hb, h.tn, h.oct⟩
theorem Own2.kept {base b' : Nat} {w w' : World} {o : Ov} {v : Value} {n : Nat} {xs : List Value} {ty : TypeId} (h : Own2 base w o) (ho : w.ownsRow b' ty 19 v n xs) (h3 : (3 : TypeId) ≠ ty) (h5 : (5 : TypeId) ≠ ty) (hg : w.grownBy w' v.ownBlock) : Own2 base w' o :=
  ⟨h.n.kept hg (own_apart h.n ho h3), h.nn, h.ad, h.t.kept hg (own_apart h.t ho h5), h.tn, h.oct⟩
theorem own_set {w : World} {b g : Nat} {e : TypeId} {size : Nat} {v : Value} {n : Nat} {xs : List Value} (h : w.ownsRow b e size v n xs) (hg : g < b) (j : Nat) (u : Value) : (w.setCell ⟨g, j, none⟩ u).ownsRow b e size v n xs :=
  h.kept (grownBy_setCell w g j u) (by
    cases hv : v.ownBlock with
    | none => exact .inl rfl
    | some k => exact .inr (fun e => by have := Option.some.inj e; have := (h.lt k hv).1; omega))
theorem Lies.other {kd : IntKind} {w w' : World} {d : Nat} {a : Option Addr} {len cap : Nat} {l : List Int} (h : Lies kd w a len cap l) (hg : w.grownBy w' (some d)) (hne : ∀ ad, a = some ad → ad.block ≠ d) : Lies kd w' a len cap l := by
  refine ⟨h.1, h.2.1, h.2.2.1, h.2.2.2.1, fun k hk => ?_⟩
  obtain ⟨b, off, he, hc⟩ := h.2.2.2.2 k hk
  exact ⟨b, off, he, hg.cell hc (fun e => hne _ he (by have := Option.some.inj e; exact this))⟩
theorem own_setRowT {w : World} {b g : Nat} {e t : TypeId} {size : Nat} {v : Value} {n : Nat} {xs : List Value} {c cs : Array Value} (h : w.ownsRow b e size v n xs) (hr : Row w g t c) (hne : e ≠ t) : (w.setRow g cs).ownsRow b e size v n xs :=
  h.kept (grownBy_setRow w g cs) (.inr (own_row h hr hne))
theorem resO {fn : Func} {p : Tmp} {t : TypeId} (ht : OT t) (hf : fn.results = #[.cell p t]) (tmps : Array Value) (w : World) (g : Nat) (t' : TypeId) (h : Ov) (hl : Adr h.ad)
    (hp : tmps.getD p undef = .pointer (some ⟨g, 0, none⟩)) (hg : Row w g t' h.cs) : (results fn tmps).run Tryd.prog w = .ok (.agg h.cs) w := by
  obtain ⟨fs, h1⟩ := ht.desc
  exact results_cell_row hf tmps w g t' h.cs (0, 0) _ hp hg h1 rfl (by rw [Ov.size hl]; exact ht.info)
theorem ldRun {t : TypeId} (ht : OT t) (w : World) (g : Nat) (t' : TypeId) (h : Ov) (hl : Adr h.ad) (hg : Row w g t' h.cs) : (loadVar t ⟨g, 0, none⟩).run Tryd.prog w = .ok (.agg h.cs) w := by
  obtain ⟨fs, h1⟩ := ht.desc
  exact run_loadVar_row w g t' t h.cs (0, 0) _ hg h1 rfl (by rw [Ov.size hl]; exact ht.info)
theorem resOe {fn : Func} {p u : Tmp} {t : TypeId} (ht : OT t) (hf : fn.results = #[.cell p t, .tmp u]) (tmps : Array Value) (w : World) (g : Nat) (t' : TypeId) (h : Ov) (hl : Adr h.ad) (v : Value)
    (hp : tmps.getD p undef = .pointer (some ⟨g, 0, none⟩)) (hu : tmps.getD u undef = v) (hg : Row w g t' h.cs) : (results fn tmps).run Tryd.prog w = .ok (.tuple #[.agg h.cs, v]) w := by
  rw [results_cell_tmp hf]
  have hp' : tmps[p]?.getD undef = .pointer (some ⟨g, 0, none⟩) := by simpa using hp
  have hu' : tmps[u]?.getD undef = v := by simpa using hu
  simp [hp', hu', asAddr, ldRun ht w g t' h hl hg]
set_option maxRecDepth 100000 in
set_option maxHeartbeats 1600000 in
theorem copied_any (o : Ov) (w : World) (ho : o.ok w) (hn : o.n.n ≤ 100000) (ht : o.t.n ≤ 100000) :
    Calls Tryd.prog 44 #[.agg o.cs] w fun e w' => (∃ o' : Ov, e = .returned (.agg o'.cs) ∧ Hid (o'.p = o.p) ∧ Hid (Own2 w.heap.size w' o')) ∧ Below w.heap.size w w' := by
  have hz := zov
  have R0 := hid ((Row.new w 43 o.cs).alloc (.cells Ov.zero.cs 43))
  have Z0 := hid (Row.new (w.alloc (.cells o.cs 43)) 43 Ov.zero.cs)
  have hs1 : (w.alloc (.cells o.cs 43)).heap.size = w.heap.size + 1 := World.size_alloc ..
  have hs2 : ((w.alloc (.cells o.cs 43)).alloc (.cells Ov.zero.cs 43)).heap.size = w.heap.size + 2 := by rw [World.size_alloc, hs1]
  rw [hs1] at Z0
  have B0 := hid (balloc (balloc (Below.refl w.heap.size w) (.cells o.cs 43)) (.cells Ov.zero.cs 43))
  have O0 := hid (ho.below B0.out)
  have HA := hid ho.ad
  have HOct := hid ho.oct
  have ltt : Hid (∀ ad, o.t.a = some ad → o.t.n ≠ 0 → ad.block ≠ w.heap.size) := by
    intro ad h1 h2 h3
    obtain ⟨b, off, h4, h5⟩ := ho.t.2.2.2.2 0 (by omega)
    rw [h1] at h4
    obtain rfl := Option.some.inj h4
    have := World.block_lt_of_cell? w _ h5
    simp at h3 this; omega
  clear ho
  go_enter Tryd.func44, Tryd.ntmps44
  go_upto_region 1 with fail
  generalize hw1 : (w.alloc (.cells o.cs 43)).alloc (.cells Ov.zero.cs 43) = w1 at *
  generalize hg0 : w.heap.size = g0 at *
  have a1 := (R0.out.cell 1).trans o.at1
  have f1 := R0.out.frozen 1
  clear hw1 hs1 hz
  go_wp2_with fail
  refine (clone60_any _ _ _ _ _ O0.out.n hn).mono ?_
  rintro e w2 ⟨v2, rfl, hown2, hb2⟩
  obtain ⟨na, nc, rfl⟩ := owns_len hown2
  have R2 := hid (R0.out.below hb2)
  have Z2 := hid (Z0.out.below hb2)
  have T2 := hid (O0.out.t.below hb2)
  have B2 := hid (B0.out.trans (hb2.mono (by rw [hs2]; omega)))
  have N2 := hid hown2
  have hs3 := hb2.size
  clear hown2 hb2 a1 f1 O0 R0 Z0 B0
  have a1 := (R2.out.cell 1).trans o.at1
  have f1 := R2.out.frozen 1
  go_upto_region 2 with fail
  have R3 := hid (R2.out.set 1 (.slice na o.n.l.length nc))
  have Z3 := hid (Z2.out.other ⟨g0, 1, none⟩ (.slice na o.n.l.length nc) (by simp))
  have B3 := hid (bset 1 (.slice na o.n.l.length nc) B2.out (Nat.le_refl g0))
  have N3 := hid (own_set N2.out (g := g0) (by rw [hs2]; omega) 1 (.slice na o.n.l.length nc))
  have S3 : (w2.setCell ⟨g0, 1, none⟩ (.slice na o.n.l.length nc)).heap.size = w2.heap.size := by simp
  have T3 : Hid (Lies .u8 (w2.setCell ⟨g0, 1, none⟩ (.slice na o.n.l.length nc)) o.t.a o.t.n o.t.cap o.t.l) := by
    by_cases h0 : o.t.n = 0
    · exact ⟨T2.out.1, T2.out.2.1, T2.out.2.2.1, T2.out.2.2.2.1, fun k hk => by omega⟩
    · exact T2.out.other (grownBy_setCell ..) (fun ad had => ltt.out ad had h0)
  rw [Ov.set1 o ⟨na, o.n.l.length, nc, o.n.l⟩] at R3
  generalize hw3 : w2.setCell ⟨g0, 1, none⟩ (.slice na o.n.l.length nc) = w3 at *
  generalize hX : o.setN ⟨na, o.n.l.length, nc, o.n.l⟩ = X at *
  have HAX : Hid (Adr X.ad) := by rw [Hid, ← hX]; exact HA.out
  have HXt : X.t = o.t := by rw [← hX]; rfl
  have b18 := (R3.out.cell 18).trans (Ov.at18 HAX.out)
  rw [HXt] at b18
  have g18 := R3.out.frozen 18
  clear hw3 a1 f1
  go_wp2_with fail
  refine (clone_any _ _ _ _ _ T3.out ht).mono ?_
  rintro e w4 ⟨v4, rfl, hown4, hb4⟩
  obtain ⟨ta, tc, rfl⟩ := owns_len hown4
  have R4 := hid (R3.out.below hb4)
  have Z4 := hid (Z3.out.below hb4)
  have N4 := hid (own_below N3.out hb4)
  have B4 := hid (B3.out.trans (hb4.mono (by omega)))
  have T4 := hid hown4
  have hs4 := hb4.size
  clear hown4 hb4 b18 g18 R3 Z3 N3 B3
  have b18 := (R4.out.cell 18).trans (Ov.at18 HAX.out)
  rw [HXt] at b18
  have g18 := R4.out.frozen 18
  go_upto_region 3 with fail
  have R5 := hid (R4.out.set 18 (.slice ta o.t.l.length tc))
  have Z5 := hid (Z4.out.other ⟨g0, 18, none⟩ (.slice ta o.t.l.length tc) (by simp))
  have B5 := hid (bset 18 (.slice ta o.t.l.length tc) B4.out (Nat.le_refl g0))
  have N5 := hid (own_set N4.out (g := g0) (by rw [hs2]; omega) 18 (.slice ta o.t.l.length tc))
  have T5 := hid (own_set T4.out (g := g0) (by omega) 18 (.slice ta o.t.l.length tc))
  rw [Ov.set18 HAX.out ⟨ta, o.t.l.length, tc, o.t.l⟩] at R5
  generalize hw5 : w4.setCell ⟨g0, 18, none⟩ (.slice ta o.t.l.length tc) = w5 at *
  generalize hY : X.setT ⟨ta, o.t.l.length, tc, o.t.l⟩ = Y at *
  have HAY : Hid (Adr Y.ad) := by rw [Hid, ← hY]; exact HAX.out
  have HP : Hid (Y.p = o.p) := by rw [Hid, ← hY, ← hX]; rfl
  have HO5 : Hid (Own2 g0 w5 Y) := by
    subst hY; subst hX
    exact ⟨own_mono N5.out (by rw [hs2]; omega), rfl, HA.out, own_mono T5.out (by omega), rfl, HOct.out⟩
  clear hw5 hY hX b18 g18 N5 T5
  have R6 := hid (R5.out.rowOther (g0 + 1) Y.cs (by omega))
  have Z6 := hid (Z5.out.setRow Y.cs)
  have B6 := hid (below_setRow' B5.out (g := g0 + 1) (by omega) Y.cs)
  have H6 : Hid (Own2 g0 (w5.setRow (g0 + 1) Y.cs) Y) := ⟨own_setRowT HO5.out.n Z5.out (by decide), HO5.out.nn, HO5.out.ad, own_setRowT HO5.out.t Z5.out (by decide), HO5.out.tn, HO5.out.oct⟩
  go_wp2_with (first | (refine ldO o43 _ rfl rfl g0 0 rfl Y HAY.out R5.out.part ?_) | (refine stO o43 _ _ rfl rfl (g0 + 1) Y HAY.out rfl rfl 43 Ov.zero adr_zeros Z5.out ?_))
  refine bodyPost_ret (resO o43 rfl _ _ (g0 + 1) 43 Y HAY.out rfl Z6.out) rfl ⟨⟨Y, rfl, HP.out, by rw [hg0]; exact H6⟩, by rw [hg0]; exact B6.out⟩
end Go.Proofs.YtbgogeojdibmkaaDoor
