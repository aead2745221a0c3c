/- An option with lists of its own: slices.Clone, copied. · Control messages in memory. · The table of codes in memory; isCode, Word, May, flag. -/
import Derived.Test.YtbfjkhafdkhhmaaDoorM6
import Derived.Test.YtbfjkhafdkhhmaaDoorM5
import Derived.Test.YtbfjkhafdkhhmaaDoorM4
namespace Go.Proofs.YtbfjkhafdkhhmaaDoor
open Go.ChangeShapes Go.WideShapes Go.ChangeAt Go.RowKit Go.Deep
set_option linter.unusedVariables false
set_option linter.unusedSimpArgs false

theorem clone60_nil (w : World) : Calls Tryd.prog 89 #[.slice none 0 0] w fun e w' => e = .returned (.slice none 0 0) ∧ w' = w := by
  have he := fun w => Lib.run_eql_slice_nil (P := Tryd.prog) w 52 3 none 0 0 0 0 Tryd.underlying52
  go_enter Tryd.func89, Tryd.ntmps89
  go_wp2
  go_ret
  exact ⟨rfl, rfl⟩
theorem clone60_some (ad : Addr) (len cap : Nat) (l : List Int) (w : World) (h : Lies .i64 w (some ad) len cap l) (hl : len ≤ 100000) :
    Calls Tryd.prog 89 #[.slice (some ad) len cap] w fun e w' => ∃ v, e = .returned v ∧ w'.ownsRow w.heap.size 3 1 v l.length (i64s l) ∧ Below w.heap.size w w' := by
  have he := fun w => Lib.run_eql_slice_nil (P := Tryd.prog) w 52 3 (some ad) len cap 0 0 Tryd.underlying52
  obtain ⟨i0, hi, hz0, hz1, hz2⟩ := info_parts info3
  have HB : Hid (Lies .i64 w (some ad) len cap l) := h
  have hb1 : Below w.heap.size w (w.alloc (.cells #[] 3)) := (Below.refl _ _).alloc (Nat.le_refl _) _
  have hl1 := HB.out.below hb1
  have hown := World.ownsRow_made (e := 3) (size := 1) (base := w.heap.size) w #[] 0 (Nat.le_refl _) (by decide) (by simp)
  have HO : Hid _ := hown
  have HL1 : Hid _ := hl1
  clear h hown hl1 hb1
  go_enter Tryd.func89, Tryd.ntmps89
  go_wp2_with (at_builtin; refine wpList_append_own _ rfl _ _ 52 rfl w.heap.size 3 i0 (.int .i64 0) 1 8 Tryd.underlying52 hi hz0 hz1 hz2 rfl (by decide) _ _ _ rfl HO.out ad len cap (i64s l) rfl ?c1 (Lies.cells HL1.out ad rfl) (ints_oneCell8 _ _) ?c3o ?c4 ?c5 ?_)
  case c1 => have := HB.out.1; simp [i64s]; omega
  case c3o => unfold maxLen; omega
  case c4 => omega
  intro v1 w1 hown1 hg1 _
  have hb2 : Below w.heap.size w w1 := Below.grown ((Below.refl _ _).alloc (Nat.le_refl _) _) hg1 (by simp) (fun k hk => by cases hk; exact Nat.le_refl _)
  have hln := HB.out.1
  have HW : Hid _ := hown1
  clear hown1 hg1
  go_wp2
  go_ret
  exact ⟨_, rfl, ownsRow_i64 HW.out rfl (by omega) (by simp), hb2⟩
theorem clone60_any (a : Option Addr) (len cap : Nat) (l : List Int) (w : World) (h : Lies .i64 w a len cap l) (hl : len ≤ 100000) :
    Calls Tryd.prog 89 #[.slice a len cap] w fun e w' => ∃ v, e = .returned v ∧ w'.ownsRow w.heap.size 3 1 v l.length (i64s l) ∧ Below w.heap.size w w' := by
  cases a with
  | some ad => exact clone60_some ad len cap l w h hl
  | none =>
    obtain ⟨rfl, rfl⟩ := h.isNil rfl
    have : l = [] := List.eq_nil_of_length_eq_zero h.1
    subst this
    refine (clone60_nil w).mono ?_
    rintro e w' ⟨rfl, rfl⟩
    exact ⟨_, rfl, World.ownsRow_nil _ _ _ _, Below.refl _ _⟩
def Ov.setN (o : Ov) (t : Txt) : Ov := ⟨o.k, t, o.ad, o.t⟩
def Ov.setT (o : Ov) (t : Txt) : Ov := ⟨o.k, o.n, o.ad, t⟩
theorem Ov.set1 (o : Ov) (t : Txt) : o.cs.setIfInBounds 1 (.slice t.a t.n t.cap) = (o.setN t).cs := by
  apply Array.ext'; simp [Ov.cs, Ov.setN, Txt.v]
theorem Ov.set18 {o : Ov} (h : Adr o.ad) (t : Txt) : o.cs.setIfInBounds 18 (.slice t.a t.n t.cap) = (o.setT t).cs := by
  apply Array.ext'
  have e : o.cs.toList = (.int .i64 o.k :: o.n.v :: (arr o.ad).toList) ++ [o.t.v] := by simp [Ov.cs]
  have e2 : (o.setT t).cs.toList = (.int .i64 o.k :: o.n.v :: (arr o.ad).toList) ++ [.slice t.a t.n t.cap] := by simp [Ov.cs, Ov.setT, Txt.v]
  have hl : (Value.int .i64 o.k :: o.n.v :: (arr o.ad).toList).length = 18 := by simp [arr_size, h.1]
  rw [Array.toList_setIfInBounds, e, e2, List.set_append_right _ _ (by omega), hl]
  rfl
/-- An option with lists of the call's own. -/
structure Own2 (base : Nat) (w : World) (o : Ov) : Prop where
  n : w.ownsRow base 3 1 o.n.v o.n.l.length (i64s o.n.l)
  nn : o.n.n = o.n.l.length
  ad : Adr o.ad
  t : w.ownsRow base 5 1 o.t.v o.t.l.length (u8s o.t.l)
  tn : o.t.n = o.t.l.length
  oct : Oct o.t.l
theorem Own2.ok {base : Nat} {w : World} {o : Ov} (h : Own2 base w o) : o.ok w := by
  refine ⟨?_, h.ad, ?_, h.oct⟩
  · obtain ⟨a, cap, e, hl⟩ := owns_liesk h.n
    have e1 : Value.slice o.n.a o.n.n o.n.cap = .slice a o.n.l.length cap := e
    injection e1 with e2 e3 e4
    rw [e2, e3, e4]; exact hl
  · obtain ⟨a, cap, e, hl, _⟩ := owns_lies h.t
    have e1 : Value.slice o.t.a o.t.n o.t.cap = .slice a o.t.l.length cap := e
    injection e1 with e2 e3 e4
    rw [e2, e3, e4]; exact hl
theorem Own2.below {base : Nat} {w w' : World} {o : Ov} (h : Own2 base w o) (hb : Below w.heap.size w w') : Own2 base w' o := ⟨own_below h.n hb, h.nn, h.ad, own_below h.t hb, h.tn, h.oct⟩
theorem Own2.mono {base base' : Nat} {w : World} {o : Ov} (h : Own2 base w o) (hb : base' ≤ base) : Own2 base' w o := ⟨own_mono h.n hb, h.nn, h.ad, own_mono h.t hb, h.tn, h.oct⟩
theorem Own2.kept {base b' : Nat} {w w' : World} {o : Ov} {v : Value} {n : Nat} {xs : List Value} {ty : TypeId} (h : Own2 base w o) (ho : w.ownsRow b' ty 19 v n xs) (h3 : (3 : TypeId) ≠ ty) (h5 : (5 : TypeId) ≠ ty) (hg : w.grownBy w' v.ownBlock) : Own2 base w' o :=
  ⟨h.n.kept hg (own_apart h.n ho h3), h.nn, h.ad, h.t.kept hg (own_apart h.t ho h5), h.tn, h.oct⟩
theorem own_set {w : World} {b g : Nat} {e : TypeId} {size : Nat} {v : Value} {n : Nat} {xs : List Value} (h : w.ownsRow b e size v n xs) (hg : g < b) (j : Nat) (u : Value) : (w.setCell ⟨g, j, none⟩ u).ownsRow b e size v n xs :=
  h.kept (grownBy_setCell w g j u) (by
    cases hv : v.ownBlock with
    | none => exact .inl rfl
    | some k => exact .inr (fun e => by have := Option.some.inj e; have := (h.lt k hv).1; omega))
theorem Lies.other {kd : IntKind} {w w' : World} {d : Nat} {a : Option Addr} {len cap : Nat} {l : List Int} (h : Lies kd w a len cap l) (hg : w.grownBy w' (some d)) (hne : ∀ ad, a = some ad → ad.block ≠ d) : Lies kd w' a len cap l := by
  refine ⟨h.1, h.2.1, h.2.2.1, h.2.2.2.1, fun k hk => ?_⟩
  obtain ⟨b, off, he, hc⟩ := h.2.2.2.2 k hk
  exact ⟨b, off, he, hg.cell hc (fun e => hne _ he (by have := Option.some.inj e; exact this))⟩
theorem own_setRowT {w : World} {b g : Nat} {e t : TypeId} {size : Nat} {v : Value} {n : Nat} {xs : List Value} {c cs : Array Value} (h : w.ownsRow b e size v n xs) (hr : Row w g t c) (hne : e ≠ t) : (w.setRow g cs).ownsRow b e size v n xs :=
  h.kept (grownBy_setRow w g cs) (.inr (own_row h hr hne))
theorem resOo {fn : Func} {p : Tmp} {t : TypeId} (ht : OTo t) (hf : fn.results = #[.cell p t]) (tmps : Array Value) (w : World) (g : Nat) (t' : TypeId) (h : Ov) (hl : Adr h.ad)
    (hp : tmps.getD p undef = .pointer (some ⟨g, 0, none⟩)) (hg : Row w g t' h.cs) : (results fn tmps).run Tryd.prog w = .ok (.agg h.cs) w := by
  obtain ⟨fs, h1⟩ := ht.desc
  exact results_cell_row hf tmps w g t' h.cs (0, 0) _ hp hg h1 rfl (by rw [Ov.size hl]; exact ht.info)
theorem ldRunO {t : TypeId} (ht : OTo t) (w : World) (g : Nat) (t' : TypeId) (h : Ov) (hl : Adr h.ad) (hg : Row w g t' h.cs) : (loadVar t ⟨g, 0, none⟩).run Tryd.prog w = .ok (.agg h.cs) w := by
  obtain ⟨fs, h1⟩ := ht.desc
  exact run_loadVar_row w g t' t h.cs (0, 0) _ hg h1 rfl (by rw [Ov.size hl]; exact ht.info)
theorem resOoe {fn : Func} {p u : Tmp} {t : TypeId} (ht : OTo t) (hf : fn.results = #[.cell p t, .tmp u]) (tmps : Array Value) (w : World) (g : Nat) (t' : TypeId) (h : Ov) (hl : Adr h.ad) (v : Value)
    (hp : tmps.getD p undef = .pointer (some ⟨g, 0, none⟩)) (hu : tmps.getD u undef = v) (hg : Row w g t' h.cs) : (results fn tmps).run Tryd.prog w = .ok (.tuple #[.agg h.cs, v]) w := by
  rw [results_cell_tmp hf]
  have hp' : tmps[p]?.getD undef = .pointer (some ⟨g, 0, none⟩) := by simpa using hp
  have hu' : tmps[u]?.getD undef = v := by simpa using hu
  simp [hp', hu', asAddr, ldRunO ht w g t' h hl hg]
set_option maxRecDepth 100000 in
set_option maxHeartbeats 1600000 in
theorem copied_any (o : Ov) (w : World) (ho : o.ok w) (hn : o.n.n ≤ 100000) (ht : o.t.n ≤ 100000) :
    Calls Tryd.prog 73 #[.agg o.cs] w fun e w' => (∃ o' : Ov, e = .returned (.agg o'.cs) ∧ Hid (o'.p = o.p) ∧ Hid (Own2 w.heap.size w' o')) ∧ Below w.heap.size w w' := by
  have hz := zov
  have R0 := hid ((Row.new w 54 o.cs).alloc (.cells Ov.zero.cs 54))
  have Z0 := hid (Row.new (w.alloc (.cells o.cs 54)) 54 Ov.zero.cs)
  have hs1 : (w.alloc (.cells o.cs 54)).heap.size = w.heap.size + 1 := World.size_alloc ..
  have hs2 : ((w.alloc (.cells o.cs 54)).alloc (.cells Ov.zero.cs 54)).heap.size = w.heap.size + 2 := by rw [World.size_alloc, hs1]
  rw [hs1] at Z0
  have B0 := hid (balloc (balloc (Below.refl w.heap.size w) (.cells o.cs 54)) (.cells Ov.zero.cs 54))
  have O0 := hid (ho.below B0.out)
  have HA := hid ho.ad
  have HOct := hid ho.oct
  have ltt : Hid (∀ ad, o.t.a = some ad → o.t.n ≠ 0 → ad.block ≠ w.heap.size) := by
    intro ad h1 h2 h3
    obtain ⟨b, off, h4, h5⟩ := ho.t.2.2.2.2 0 (by omega)
    rw [h1] at h4
    obtain rfl := Option.some.inj h4
    have := World.block_lt_of_cell? w _ h5
    simp at h3 this; omega
  clear ho
  go_enter Tryd.func73, Tryd.ntmps73
  go_upto_region 1 with fail
  generalize hw1 : (w.alloc (.cells o.cs 54)).alloc (.cells Ov.zero.cs 54) = w1 at *
  generalize hg0 : w.heap.size = g0 at *
  have a1 := (R0.out.cell 1).trans o.at1
  have f1 := R0.out.frozen 1
  clear hw1 hs1 hz
  go_wp2_with fail
  refine (clone60_any _ _ _ _ _ O0.out.n hn).mono ?_
  rintro e w2 ⟨v2, rfl, hown2, hb2⟩
  obtain ⟨na, nc, rfl⟩ := owns_len hown2
  have R2 := hid (R0.out.below hb2)
  have Z2 := hid (Z0.out.below hb2)
  have T2 := hid (O0.out.t.below hb2)
  have B2 := hid (B0.out.trans (hb2.mono (by rw [hs2]; omega)))
  have N2 := hid hown2
  have hs3 := hb2.size
  clear hown2 hb2 a1 f1 O0 R0 Z0 B0
  have a1 := (R2.out.cell 1).trans o.at1
  have f1 := R2.out.frozen 1
  go_upto_region 2 with fail
  have R3 := hid (R2.out.set 1 (.slice na o.n.l.length nc))
  have Z3 := hid (Z2.out.other ⟨g0, 1, none⟩ (.slice na o.n.l.length nc) (by simp))
  have B3 := hid (bset 1 (.slice na o.n.l.length nc) B2.out (Nat.le_refl g0))
  have N3 := hid (own_set N2.out (g := g0) (by rw [hs2]; omega) 1 (.slice na o.n.l.length nc))
  have S3 : (w2.setCell ⟨g0, 1, none⟩ (.slice na o.n.l.length nc)).heap.size = w2.heap.size := by simp
  have T3 : Hid (Lies .u8 (w2.setCell ⟨g0, 1, none⟩ (.slice na o.n.l.length nc)) o.t.a o.t.n o.t.cap o.t.l) := by
    by_cases h0 : o.t.n = 0
    · exact ⟨T2.out.1, T2.out.2.1, T2.out.2.2.1, T2.out.2.2.2.1, fun k hk => by omega⟩
    · exact T2.out.other (grownBy_setCell ..) (fun ad had => ltt.out ad had h0)
  rw [Ov.set1 o ⟨na, o.n.l.length, nc, o.n.l⟩] at R3
  generalize hw3 : w2.setCell ⟨g0, 1, none⟩ (.slice na o.n.l.length nc) = w3 at *
  generalize hX : o.setN ⟨na, o.n.l.length, nc, o.n.l⟩ = X at *
  have HAX : Hid (Adr X.ad) := by rw [Hid, ← hX]; exact HA.out
  have HXt : X.t = o.t := by rw [← hX]; rfl
  have b18 := (R3.out.cell 18).trans (Ov.at18 HAX.out)
  rw [HXt] at b18
  have g18 := R3.out.frozen 18
  clear hw3 a1 f1
  go_wp2_with fail
  refine (clone_any _ _ _ _ _ T3.out ht).mono ?_
  rintro e w4 ⟨v4, rfl, hown4, hb4⟩
  obtain ⟨ta, tc, rfl⟩ := owns_len hown4
  have R4 := hid (R3.out.below hb4)
  have Z4 := hid (Z3.out.below hb4)
  have N4 := hid (own_below N3.out hb4)
  have B4 := hid (B3.out.trans (hb4.mono (by omega)))
  have T4 := hid hown4
  have hs4 := hb4.size
  clear hown4 hb4 b18 g18 R3 Z3 N3 B3
  have b18 := (R4.out.cell 18).trans (Ov.at18 HAX.out)
  rw [HXt] at b18
  have g18 := R4.out.frozen 18
  go_upto_region 3 with fail
  have R5 := hid (R4.out.set 18 (.slice ta o.t.l.length tc))
  have Z5 := hid (Z4.out.other ⟨g0, 18, none⟩ (.slice ta o.t.l.length tc) (by simp))
  have B5 := hid (bset 18 (.slice ta o.t.l.length tc) B4.out (Nat.le_refl g0))
  have N5 := hid (own_set N4.out (g := g0) (by rw [hs2]; omega) 18 (.slice ta o.t.l.length tc))
  have T5 := hid (own_set T4.out (g := g0) (by omega) 18 (.slice ta o.t.l.length tc))
  rw [Ov.set18 HAX.out ⟨ta, o.t.l.length, tc, o.t.l⟩] at R5
  generalize hw5 : w4.setCell ⟨g0, 18, none⟩ (.slice ta o.t.l.length tc) = w5 at *
  generalize hY : X.setT ⟨ta, o.t.l.length, tc, o.t.l⟩ = Y at *
  have HAY : Hid (Adr Y.ad) := by rw [Hid, ← hY]; exact HAX.out
  have HP : Hid (Y.p = o.p) := by rw [Hid, ← hY, ← hX]; rfl
  have HO5 : Hid (Own2 g0 w5 Y) := by
    subst hY; subst hX
    exact ⟨own_mono N5.out (by rw [hs2]; omega), rfl, HA.out, own_mono T5.out (by omega), rfl, HOct.out⟩
  clear hw5 hY hX b18 g18 N5 T5
  have R6 := hid (R5.out.rowOther (g0 + 1) Y.cs (by omega))
  have Z6 := hid (Z5.out.setRow Y.cs)
  have B6 := hid (below_setRow' B5.out (g := g0 + 1) (by omega) Y.cs)
  have H6 : Hid (Own2 g0 (w5.setRow (g0 + 1) Y.cs) Y) := ⟨own_setRowT HO5.out.n Z5.out (by decide), HO5.out.nn, HO5.out.ad, own_setRowT HO5.out.t Z5.out (by decide), HO5.out.tn, HO5.out.oct⟩
  go_wp2_with (first | (refine ldOo o43 _ rfl rfl g0 0 rfl Y HAY.out R5.out.part ?_) | (refine stOo o43 _ _ rfl rfl (g0 + 1) Y HAY.out rfl rfl 54 Ov.zero adr_zeros Z5.out ?_))
  refine bodyPost_ret (resOo o43 rfl _ _ (g0 + 1) 54 Y HAY.out rfl Z6.out) rfl ⟨⟨Y, rfl, HP.out, by rw [hg0]; exact H6⟩, by rw [hg0]; exact B6.out⟩
end Go.Proofs.YtbfjkhafdkhhmaaDoor

namespace Go.Proofs.YtbfjkhafdkhhmaaDoor
open Go.ChangeShapes Go.WideShapes Go.ChangeAt Go.RowKit Go.Deep
set_option linter.unusedVariables false
set_option linter.unusedSimpArgs false

/-- A message as it lies. -/
structure Mv where
  c : Int
  i : Int
  v : Int
  r : Int
  mo : Int
  pf : Int
  d : Int
  sq : Int
  st : Int
  g : Bool
  a : Bool
  ro : List Int
  oa : Option Addr
  on : Nat
  oc : Nat
  L : List Ov
def Mv.p (m : Mv) : Pm := ⟨m.c, m.i, m.v, m.r, m.mo, m.pf, m.d, m.sq, m.st, m.g, m.a, m.ro, pos m.L⟩
def Mv.hd (m : Mv) : Array Value := #[.int .i64 m.c, .int .i64 m.i, .int .i64 m.v, .int .i64 m.r, .int .i64 m.mo, .int .i64 m.pf, .int .i64 m.d, .int .i64 m.sq, .int .i64 m.st, .bool m.g, .bool m.a]
/-- Its cells. -/
def Mv.cs (m : Mv) : Array Value := m.hd ++ (arr m.ro ++ #[.slice m.oa m.on m.oc])
structure Mv.ok (w : World) (m : Mv) : Prop where
  ro : Adr m.ro
  o : Opts w m.oa m.on m.oc m.L
def Mv.zero : Mv := ⟨0, 0, 0, 0, 0, 0, 0, 0, 0, false, false, zeros, none, 0, 0, []⟩
theorem Mv.zero_ok (w : World) : Mv.zero.ok w := ⟨adr_zeros, Opts.none w⟩
theorem Mv.ok.below {w w' : World} {m : Mv} (h : m.ok w) (hb : Below w.heap.size w w') : m.ok w' := ⟨h.ro, h.o.below hb⟩
theorem Mv.hsize (m : Mv) : m.hd.size = 11 := rfl
theorem Mv.size {m : Mv} (h : Adr m.ro) : m.cs.size = 28 := by simp [Mv.cs, arr_size, h.1, Mv.hsize]
theorem Mv.one (m : Mv) : m.cs.all (·.oneCell') = true := by simp [Mv.cs, Mv.hd, Array.all_append, arr, u8s, Value.oneCell']
theorem Mv.atH (m : Mv) (j : Nat) (hj : j < 11) : m.cs[j]? = m.hd[j]? := by rw [Mv.cs, Array.getElem?_append_left (by rw [Mv.hsize]; exact hj)]
theorem Mv.at0 (m : Mv) : m.cs[0]? = some (.int .i64 m.c) := m.atH 0 (by decide)
theorem Mv.at1 (m : Mv) : m.cs[1]? = some (.int .i64 m.i) := m.atH 1 (by decide)
theorem Mv.at2 (m : Mv) : m.cs[2]? = some (.int .i64 m.v) := m.atH 2 (by decide)
theorem Mv.at3 (m : Mv) : m.cs[3]? = some (.int .i64 m.r) := m.atH 3 (by decide)
theorem Mv.at4 (m : Mv) : m.cs[4]? = some (.int .i64 m.mo) := m.atH 4 (by decide)
theorem Mv.at5 (m : Mv) : m.cs[5]? = some (.int .i64 m.pf) := m.atH 5 (by decide)
theorem Mv.at6 (m : Mv) : m.cs[6]? = some (.int .i64 m.d) := m.atH 6 (by decide)
theorem Mv.at7 (m : Mv) : m.cs[7]? = some (.int .i64 m.sq) := m.atH 7 (by decide)
theorem Mv.at8 (m : Mv) : m.cs[8]? = some (.int .i64 m.st) := m.atH 8 (by decide)
theorem Mv.at9 (m : Mv) : m.cs[9]? = some (.bool m.g) := m.atH 9 (by decide)
theorem Mv.at10 (m : Mv) : m.cs[10]? = some (.bool m.a) := m.atH 10 (by decide)
theorem Mv.atA {m : Mv} (h : Adr m.ro) (j : Nat) (hj : j < 16) : m.cs[11 + j]? = some (.int .u8 (m.ro.getD j 0)) := by
  rw [Mv.cs, Array.getElem?_append_right (by rw [Mv.hsize]; omega), show 11 + j - m.hd.size = j by rw [Mv.hsize]; omega, Array.getElem?_append_left (by rw [arr_size, h.1]; exact hj), arr_at _ _ (by rw [h.1]; exact hj)]
theorem Mv.at27 {m : Mv} (h : Adr m.ro) : m.cs[27]? = some (.slice m.oa m.on m.oc) := by
  rw [Mv.cs, Array.getElem?_append_right (by rw [Mv.hsize]; omega), Array.getElem?_append_right (by rw [arr_size, h.1, Mv.hsize]; omega), arr_size, h.1, Mv.hsize]; rfl
theorem Part.mvA {w : World} {b off : Nat} {m : Mv} (h : Adr m.ro) (r : Part w b off m.cs) : Part w b (off + 11) (arr m.ro) := fun j v hv => by
  have hj : j < 16 := by have := (Array.getElem?_eq_some_iff.1 hv).1; rw [arr_size, h.1] at this; exact this
  rw [Nat.add_assoc]
  refine r (11 + j) v ?_
  rw [Mv.atA h j hj, ← hv, arr_at _ _ (by rw [h.1]; exact hj)]
theorem zmv : (#[.int .i64 0, .int .i64 0, .int .i64 0, .int .i64 0, .int .i64 0, .int .i64 0, .int .i64 0, .int .i64 0, .int .i64 0, .bool false, .bool false, .int .u8 0, .int .u8 0, .int .u8 0, .int .u8 0, .int .u8 0, .int .u8 0, .int .u8 0, .int .u8 0, .int .u8 0, .int .u8 0, .int .u8 0, .int .u8 0, .int .u8 0, .int .u8 0, .int .u8 0, .int .u8 0, .slice none 0 0] : Array Value) = Mv.zero.cs := rfl
/-- A type of messages. -/
structure MT (t : TypeId) : Prop where
  desc : ∃ fs, Tryd.prog.underlying t = some (.struct fs)
  info : (Tryd.prog.info? t).map (·.size) = some 28
  full : ∀ (m : Mv), m.ro.length = 16 → Tryd.prog.built t [(0, .int .i64 m.c), (1, .int .i64 m.i), (2, .int .i64 m.v), (3, .int .i64 m.r), (4, .int .i64 m.mo), (5, .int .i64 m.pf), (6, .int .i64 m.d), (7, .int .i64 m.sq), (8, .int .i64 m.st), (9, .bool m.g), (10, .bool m.a), (11, .agg (arr m.ro)), (12, .slice m.oa m.on m.oc)] = some m.cs
  part : ∀ (c i v r mo pf d sq st : Int) (g a : Bool), Tryd.prog.built t [(0, .int .i64 c), (1, .int .i64 i), (2, .int .i64 v), (3, .int .i64 r), (4, .int .i64 mo), (5, .int .i64 pf), (6, .int .i64 d), (7, .int .i64 sq), (8, .int .i64 st), (9, .bool g), (10, .bool a)] = some (Mv.cs ⟨c, i, v, r, mo, pf, d, sq, st, g, a, zeros, none, 0, 0, []⟩)
  code : ∀ (c : Int), Tryd.prog.built t [(0, .int .i64 c)] = some (Mv.cs ⟨c, 0, 0, 0, 0, 0, 0, 0, 0, false, false, zeros, none, 0, 0, []⟩)
  bare : Tryd.prog.built t [] = some Mv.zero.cs
theorem builtM29 (c i v r mo pf d sq st : Int) (g a : Bool) (a0 a1 a2 a3 a4 a5 a6 a7 a8 a9 a10 a11 a12 a13 a14 a15 : Int) (oa : Option Addr) (on oc : Nat) (L : List Ov) : Tryd.prog.built 29 [(0, .int .i64 c), (1, .int .i64 i), (2, .int .i64 v), (3, .int .i64 r), (4, .int .i64 mo), (5, .int .i64 pf), (6, .int .i64 d), (7, .int .i64 sq), (8, .int .i64 st), (9, .bool g), (10, .bool a), (11, .agg (arr [a0, a1, a2, a3, a4, a5, a6, a7, a8, a9, a10, a11, a12, a13, a14, a15])), (12, .slice oa on oc)] =
    some (Mv.cs ⟨c, i, v, r, mo, pf, d, sq, st, g, a, [a0, a1, a2, a3, a4, a5, a6, a7, a8, a9, a10, a11, a12, a13, a14, a15], oa, on, oc, L⟩) := by kernel_rfl
theorem fullM29 (m : Mv) (h : m.ro.length = 16) : Tryd.prog.built 29 [(0, .int .i64 m.c), (1, .int .i64 m.i), (2, .int .i64 m.v), (3, .int .i64 m.r), (4, .int .i64 m.mo), (5, .int .i64 m.pf), (6, .int .i64 m.d), (7, .int .i64 m.sq), (8, .int .i64 m.st), (9, .bool m.g), (10, .bool m.a), (11, .agg (arr m.ro)), (12, .slice m.oa m.on m.oc)] = some m.cs := by
  obtain ⟨c, i, v, r, mo, pf, d, sq, st, g, a, ro, oa, on, oc, L⟩ := m
  simp only at h
  match ro, h with
  | [a0, a1, a2, a3, a4, a5, a6, a7, a8, a9, a10, a11, a12, a13, a14, a15], _ => exact builtM29 c i v r mo pf d sq st g a a0 a1 a2 a3 a4 a5 a6 a7 a8 a9 a10 a11 a12 a13 a14 a15 oa on oc L
theorem partM29 (c i v r mo pf d sq st : Int) (g a : Bool) : Tryd.prog.built 29 [(0, .int .i64 c), (1, .int .i64 i), (2, .int .i64 v), (3, .int .i64 r), (4, .int .i64 mo), (5, .int .i64 pf), (6, .int .i64 d), (7, .int .i64 sq), (8, .int .i64 st), (9, .bool g), (10, .bool a)] = some (Mv.cs ⟨c, i, v, r, mo, pf, d, sq, st, g, a, zeros, none, 0, 0, []⟩) := by kernel_rfl
theorem codeM29 (c : Int) : Tryd.prog.built 29 [(0, .int .i64 c)] = some (Mv.cs ⟨c, 0, 0, 0, 0, 0, 0, 0, 0, false, false, zeros, none, 0, 0, []⟩) := by kernel_rfl
theorem m29 : MT 29 := ⟨⟨_, Tryd.underlying29⟩, by kernel_rfl, fullM29, partM29, codeM29, by kernel_rfl⟩
theorem builtM25 (c i v r mo pf d sq st : Int) (g a : Bool) (a0 a1 a2 a3 a4 a5 a6 a7 a8 a9 a10 a11 a12 a13 a14 a15 : Int) (oa : Option Addr) (on oc : Nat) (L : List Ov) : Tryd.prog.built 25 [(0, .int .i64 c), (1, .int .i64 i), (2, .int .i64 v), (3, .int .i64 r), (4, .int .i64 mo), (5, .int .i64 pf), (6, .int .i64 d), (7, .int .i64 sq), (8, .int .i64 st), (9, .bool g), (10, .bool a), (11, .agg (arr [a0, a1, a2, a3, a4, a5, a6, a7, a8, a9, a10, a11, a12, a13, a14, a15])), (12, .slice oa on oc)] =
    some (Mv.cs ⟨c, i, v, r, mo, pf, d, sq, st, g, a, [a0, a1, a2, a3, a4, a5, a6, a7, a8, a9, a10, a11, a12, a13, a14, a15], oa, on, oc, L⟩) := by kernel_rfl
theorem fullM25 (m : Mv) (h : m.ro.length = 16) : Tryd.prog.built 25 [(0, .int .i64 m.c), (1, .int .i64 m.i), (2, .int .i64 m.v), (3, .int .i64 m.r), (4, .int .i64 m.mo), (5, .int .i64 m.pf), (6, .int .i64 m.d), (7, .int .i64 m.sq), (8, .int .i64 m.st), (9, .bool m.g), (10, .bool m.a), (11, .agg (arr m.ro)), (12, .slice m.oa m.on m.oc)] = some m.cs := by
  obtain ⟨c, i, v, r, mo, pf, d, sq, st, g, a, ro, oa, on, oc, L⟩ := m
  simp only at h
  match ro, h with
  | [a0, a1, a2, a3, a4, a5, a6, a7, a8, a9, a10, a11, a12, a13, a14, a15], _ => exact builtM25 c i v r mo pf d sq st g a a0 a1 a2 a3 a4 a5 a6 a7 a8 a9 a10 a11 a12 a13 a14 a15 oa on oc L
theorem partM25 (c i v r mo pf d sq st : Int) (g a : Bool) : Tryd.prog.built 25 [(0, .int .i64 c), (1, .int .i64 i), (2, .int .i64 v), (3, .int .i64 r), (4, .int .i64 mo), (5, .int .i64 pf), (6, .int .i64 d), (7, .int .i64 sq), (8, .int .i64 st), (9, .bool g), (10, .bool a)] = some (Mv.cs ⟨c, i, v, r, mo, pf, d, sq, st, g, a, zeros, none, 0, 0, []⟩) := by kernel_rfl
theorem codeM25 (c : Int) : Tryd.prog.built 25 [(0, .int .i64 c)] = some (Mv.cs ⟨c, 0, 0, 0, 0, 0, 0, 0, 0, false, false, zeros, none, 0, 0, []⟩) := by kernel_rfl
theorem m25 : MT 25 := ⟨⟨_, Tryd.underlying25⟩, by kernel_rfl, fullM25, partM25, codeM25, by kernel_rfl⟩
theorem ldM {ops : Array Oper} {rest : List Oper} {o : Oper} {a : Act} {w : World} {Q : Exit → Act → World → Prop} {t : TypeId} (ht : MT t) (x : Operand) (ho : o.op = .load t x) (hw : Region.wanted o (yielded ops a.tmps) = true) (g off : Nat) (hx : a.eval x = .pointer (some ⟨g, off, none⟩)) (m : Mv) (hl : Adr m.ro) (hg : Part w g off m.cs)
    (hn : wpList Tryd.prog ops Q rest (a.put o.dst (.agg m.cs)) w) : wpList Tryd.prog ops Q (o :: rest) a w := by
  obtain ⟨fs, h1⟩ := ht.desc
  exact wp_ld t x ho hw g off hx m.cs _ h1 rfl (by rw [Mv.size hl]; exact ht.info) hg hn
theorem stM {ops : Array Oper} {rest : List Oper} {o : Oper} {a : Act} {w : World} {Q : Exit → Act → World → Prop} {t : TypeId} (ht : MT t) (x y : Operand) (ho : o.op = .store t x y) (hgd : o.guard = none) (g : Nat) (m : Mv) (hl : Adr m.ro) (hx : a.eval x = .pointer (some ⟨g, 0, none⟩)) (hy : a.eval y = .agg m.cs) (t' : TypeId) (old : Mv) (hlo : Adr old.ro) (hg : Row w g t' old.cs)
    (hn : wpList Tryd.prog ops Q rest (a.put o.dst undef) (w.setRow g m.cs)) : wpList Tryd.prog ops Q (o :: rest) a w :=
  wp_st t x y ho hgd g m.cs hx hy (by rw [Mv.size hl]; exact ht.info) m.one t' old.cs (by rw [Mv.size hl, Mv.size hlo]) hg hn
theorem bdM {ops : Array Oper} {rest : List Oper} {o : Oper} {a : Act} {w : World} {Q : Exit → Act → World → Prop} {t : TypeId} (ht : MT t) (x0 x1 x2 x3 x4 x5 x6 x7 x8 x9 x10 x11 x12 : Operand) (ho : o.op = .build t #[(0, x0), (1, x1), (2, x2), (3, x3), (4, x4), (5, x5), (6, x6), (7, x7), (8, x8), (9, x9), (10, x10), (11, x11), (12, x12)]) (hg : o.guard = none)
    (m : Mv) (hl : Adr m.ro) (h0 : a.eval x0 = .int .i64 m.c) (h1 : a.eval x1 = .int .i64 m.i) (h2 : a.eval x2 = .int .i64 m.v) (h3 : a.eval x3 = .int .i64 m.r) (h4 : a.eval x4 = .int .i64 m.mo) (h5 : a.eval x5 = .int .i64 m.pf) (h6 : a.eval x6 = .int .i64 m.d) (h7 : a.eval x7 = .int .i64 m.sq) (h8 : a.eval x8 = .int .i64 m.st) (h9 : a.eval x9 = .bool m.g) (h10 : a.eval x10 = .bool m.a) (h11 : a.eval x11 = .agg (arr m.ro)) (h12 : a.eval x12 = .slice m.oa m.on m.oc)
    (hn : wpList Tryd.prog ops Q rest (a.put o.dst (.agg m.cs)) w) : wpList Tryd.prog ops Q (o :: rest) a w :=
  wp_bd t _ ho hg m.cs (by simp only [List.map_toArray, List.map_cons, List.map_nil, h0, h1, h2, h3, h4, h5, h6, h7, h8, h9, h10, h11, h12]; exact ht.full m hl.1) hn
theorem bdMp {ops : Array Oper} {rest : List Oper} {o : Oper} {a : Act} {w : World} {Q : Exit → Act → World → Prop} {t : TypeId} (ht : MT t) (x0 x1 x2 x3 x4 x5 x6 x7 x8 x9 x10 : Operand) (ho : o.op = .build t #[(0, x0), (1, x1), (2, x2), (3, x3), (4, x4), (5, x5), (6, x6), (7, x7), (8, x8), (9, x9), (10, x10)]) (hg : o.guard = none)
    (m : Mv) (h0 : a.eval x0 = .int .i64 m.c) (h1 : a.eval x1 = .int .i64 m.i) (h2 : a.eval x2 = .int .i64 m.v) (h3 : a.eval x3 = .int .i64 m.r) (h4 : a.eval x4 = .int .i64 m.mo) (h5 : a.eval x5 = .int .i64 m.pf) (h6 : a.eval x6 = .int .i64 m.d) (h7 : a.eval x7 = .int .i64 m.sq) (h8 : a.eval x8 = .int .i64 m.st) (h9 : a.eval x9 = .bool m.g) (h10 : a.eval x10 = .bool m.a) (hr : m.ro = zeros) (hoa : m.oa = none) (hon : m.on = 0) (hoc : m.oc = 0)
    (hn : wpList Tryd.prog ops Q rest (a.put o.dst (.agg m.cs)) w) : wpList Tryd.prog ops Q (o :: rest) a w :=
  wp_bd t _ ho hg m.cs (by
    simp only [List.map_toArray, List.map_cons, List.map_nil, h0, h1, h2, h3, h4, h5, h6, h7, h8, h9, h10]
    obtain ⟨c, i, v, r, mo, pf, d, sq, st, g, a, ro, oa, on, oc, L⟩ := m
    simp only at hr hoa hon hoc
    subst hr; subst hoa; subst hon; subst hoc
    exact ht.part c i v r mo pf d sq st g a) hn
theorem bdMz {ops : Array Oper} {rest : List Oper} {o : Oper} {a : Act} {w : World} {Q : Exit → Act → World → Prop} {t : TypeId} (ht : MT t) (ho : o.op = .build t #[]) (hg : o.guard = none)
    (hn : wpList Tryd.prog ops Q rest (a.put o.dst (.agg Mv.zero.cs)) w) : wpList Tryd.prog ops Q (o :: rest) a w :=
  wp_bd t _ ho hg Mv.zero.cs (by simp only [List.map_toArray, List.map_nil]; exact ht.bare) hn
theorem bdM1 {ops : Array Oper} {rest : List Oper} {o : Oper} {a : Act} {w : World} {Q : Exit → Act → World → Prop} {t : TypeId} (ht : MT t) (x0 : Operand) (ho : o.op = .build t #[(0, x0)]) (hg : o.guard = none)
    (c : Int) (h0 : a.eval x0 = .int .i64 c)
    (hn : wpList Tryd.prog ops Q rest (a.put o.dst (.agg (Mv.cs ⟨c, 0, 0, 0, 0, 0, 0, 0, 0, false, false, zeros, none, 0, 0, []⟩))) w) : wpList Tryd.prog ops Q (o :: rest) a w :=
  wp_bd t _ ho hg _ (by simp only [List.map_toArray, List.map_cons, List.map_nil, h0]; exact ht.code c) hn
theorem yldM {ops : Array Oper} {S : World → Prop} {op : Oper} {a : Act} {t : TypeId} (ht : MT t) (hw : Region.wanted op (yielded ops a.tmps) = true) (x : Operand) (ho : op.op = .load t x)
    (g off : Nat) (hx : a.eval x = .pointer (some ⟨g, off, none⟩)) (m : Mv) (hl : Adr m.ro) (hS : ∀ w, S w → Part w g off m.cs) : YieldsIf Tryd.prog ops S op (.agg m.cs) a := by
  obtain ⟨fs, h1⟩ := ht.desc
  exact yields_ldo hw t x ho g off hx m.cs _ hS h1 rfl (by rw [Mv.size hl]; exact ht.info)
theorem ybdM {ops : Array Oper} {S : World → Prop} {op : Oper} {a : Act} {t : TypeId} (ht : MT t) (hw : Region.wanted op (yielded ops a.tmps) = true) (x0 x1 x2 x3 x4 x5 x6 x7 x8 x9 x10 x11 x12 : Operand) (ho : op.op = .build t #[(0, x0), (1, x1), (2, x2), (3, x3), (4, x4), (5, x5), (6, x6), (7, x7), (8, x8), (9, x9), (10, x10), (11, x11), (12, x12)])
    (m : Mv) (hl : Adr m.ro) (h0 : a.eval x0 = .int .i64 m.c) (h1 : a.eval x1 = .int .i64 m.i) (h2 : a.eval x2 = .int .i64 m.v) (h3 : a.eval x3 = .int .i64 m.r) (h4 : a.eval x4 = .int .i64 m.mo) (h5 : a.eval x5 = .int .i64 m.pf) (h6 : a.eval x6 = .int .i64 m.d) (h7 : a.eval x7 = .int .i64 m.sq) (h8 : a.eval x8 = .int .i64 m.st) (h9 : a.eval x9 = .bool m.g) (h10 : a.eval x10 = .bool m.a) (h11 : a.eval x11 = .agg (arr m.ro)) (h12 : a.eval x12 = .slice m.oa m.on m.oc) : YieldsIf Tryd.prog ops S op (.agg m.cs) a :=
  .inl ⟨hw, fun w _ => by
    have hf : Tryd.prog.built t ((#[(0, x0), (1, x1), (2, x2), (3, x3), (4, x4), (5, x5), (6, x6), (7, x7), (8, x8), (9, x9), (10, x10), (11, x11), (12, x12)] : Array (Nat × Operand)).map fun (i, x) => (i, a.eval x)).toList = some m.cs := by
      simp only [List.map_toArray, List.map_cons, List.map_nil, h0, h1, h2, h3, h4, h5, h6, h7, h8, h9, h10, h11, h12]; exact ht.full m hl.1
    unfold execOp
    simp only [ho, Sem.run_bind, run_build w t _ m.cs hf, Result.andThen_ok]
    rfl⟩
theorem resM {fn : Func} {p : Tmp} {t : TypeId} (ht : MT t) (hf : fn.results = #[.cell p t]) (tmps : Array Value) (w : World) (g : Nat) (t' : TypeId) (m : Mv) (hl : Adr m.ro)
    (hp : tmps.getD p undef = .pointer (some ⟨g, 0, none⟩)) (hg : Row w g t' m.cs) : (results fn tmps).run Tryd.prog w = .ok (.agg m.cs) w := by
  obtain ⟨fs, h1⟩ := ht.desc
  exact results_cell_row hf tmps w g t' m.cs (0, 0) _ hp hg h1 rfl (by rw [Mv.size hl]; exact ht.info)
theorem ldRunM {t : TypeId} (ht : MT t) (w : World) (g : Nat) (t' : TypeId) (m : Mv) (hl : Adr m.ro) (hg : Row w g t' m.cs) : (loadVar t ⟨g, 0, none⟩).run Tryd.prog w = .ok (.agg m.cs) w := by
  obtain ⟨fs, h1⟩ := ht.desc
  exact run_loadVar_row w g t' t m.cs (0, 0) _ hg h1 rfl (by rw [Mv.size hl]; exact ht.info)
theorem resMe {fn : Func} {p u : Tmp} {t : TypeId} (ht : MT t) (hf : fn.results = #[.cell p t, .tmp u]) (tmps : Array Value) (w : World) (g : Nat) (t' : TypeId) (m : Mv) (hl : Adr m.ro) (v : Value)
    (hp : tmps.getD p undef = .pointer (some ⟨g, 0, none⟩)) (hu : tmps.getD u undef = v) (hg : Row w g t' m.cs) : (results fn tmps).run Tryd.prog w = .ok (.tuple #[.agg m.cs, v]) w := by
  rw [results_cell_tmp hf]
  have hp' : tmps[p]?.getD undef = .pointer (some ⟨g, 0, none⟩) := by simpa using hp
  have hu' : tmps[u]?.getD undef = v := by simpa using hu
  simp [hp', hu', asAddr, ldRunM ht w g t' m hl hg]
theorem layM_new (w : World) (t : TypeId) (m : Mv) : Row ((w.alloc (.cells Mv.zero.cs t)).setRow w.heap.size m.cs) w.heap.size t m.cs := (Row.new w t _).setRow _
theorem layM_below (w : World) (t : TypeId) (m : Mv) : Below w.heap.size w ((w.alloc (.cells Mv.zero.cs t)).setRow w.heap.size m.cs) := below_setRow' (balloc (Below.refl w.heap.size w) _) (Nat.le_refl _) _
end Go.Proofs.YtbfjkhafdkhhmaaDoor

namespace Go.Proofs.YtbfjkhafdkhhmaaDoor
open Go.ChangeShapes Go.WideShapes Go.ChangeAt Go.RowKit Go.Deep
set_option linter.unusedVariables false
set_option linter.unusedSimpArgs false

/-- Numbers in memory, below a bound. -/
structure NLies (B : Nat) (w : World) (a : Option Addr) (n cap : Nat) (l : List Int) : Prop where
  len : l.length = n
  le : n ≤ cap
  max : cap ≤ maxLen
  isNil : a = none → cap = 0
  cell : ∀ i, i < n → ∃ b off, a = some ⟨b, off, none⟩ ∧ b < B ∧ w.cell? ⟨b, off + i, none⟩ = some (.int .i64 (l.getD i 0))
theorem NLies.lies {B : Nat} {w : World} {a : Option Addr} {n cap : Nat} {l : List Int} (h : NLies B w a n cap l) : Lies .i64 w a n cap l :=
  ⟨h.len, h.le, h.max, h.isNil, fun k hk => by obtain ⟨b, off, h1, _, h2⟩ := h.cell k hk; exact ⟨b, off, h1, h2⟩⟩
/-- Fields in memory. -/
structure FLies (B : Nat) (w : World) (a : Option Addr) (n cap : Nat) (l : List Fl) : Prop where
  len : l.length = n
  le : n ≤ cap
  max : cap ≤ maxLen
  cell : ∀ i, i < n → ∃ b off, a = some ⟨b, off, none⟩ ∧ b < B ∧ w.cell? ⟨b, off + i * 3, none⟩ = some (.int .i64 ((l.getD i Fl.none).p : Int)) ∧ w.cell? ⟨b, off + i * 3 + 1, none⟩ = some (.int .i64 ((l.getD i Fl.none).s : Int)) ∧ w.cell? ⟨b, off + i * 3 + 2, none⟩ = some (.int .i64 ((l.getD i Fl.none).l : Int))
/-- Parts in memory. -/
structure PaLies (B : Nat) (w : World) (a : Option Addr) (n cap : Nat) (l : List Pa) : Prop where
  len : l.length = n
  le : n ≤ cap
  max : cap ≤ maxLen
  cell : ∀ i, i < n → ∃ b off, a = some ⟨b, off, none⟩ ∧ b < B ∧ w.cell? ⟨b, off + i * 2, none⟩ = some (.int .i64 ((l.getD i Pa.none).z : Int)) ∧ ∃ fa fn fc, w.cell? ⟨b, off + i * 2 + 1, none⟩ = some (.slice fa fn fc) ∧ FLies B w fa fn fc (l.getD i Pa.none).f
/-- The table of codes in memory. -/
structure CVars (B : Nat) (w : World) : Prop where
  pos : 0 < B
  le : B ≤ w.heap.size
  word : ∀ k, k < 4 → w.cell? ⟨0, k * 4, none⟩ = some (.string (cwd k))
  parts : ∀ k, k < 4 → ∃ a n cap, w.cell? ⟨0, k * 4 + 1, none⟩ = some (.slice a n cap) ∧ PaLies B w a n cap (cpa k)
  root : ∀ k, k < 4 → w.cell? ⟨0, k * 4 + 2, none⟩ = some (.bool (crt k))
  kinds : ∀ k, k < 4 → ∃ a n cap, w.cell? ⟨0, k * 4 + 3, none⟩ = some (.slice a n cap) ∧ NLies B w a n cap (cki k)
section
variable {B : Nat} {w w' : World}
theorem NLies.same {a : Option Addr} {n cap : Nat} {l : List Int} (h : NLies B w a n cap l) (hc : ∀ b o, b < B → w'.cell? ⟨b, o, none⟩ = w.cell? ⟨b, o, none⟩) : NLies B w' a n cap l :=
  ⟨h.len, h.le, h.max, h.isNil, fun i hi => by
    obtain ⟨b, off, h1, h2, h3⟩ := h.cell i hi
    exact ⟨b, off, h1, h2, (hc _ _ h2).trans h3⟩⟩
theorem FLies.same {a : Option Addr} {n cap : Nat} {l : List Fl} (h : FLies B w a n cap l) (hc : ∀ b o, b < B → w'.cell? ⟨b, o, none⟩ = w.cell? ⟨b, o, none⟩) : FLies B w' a n cap l :=
  ⟨h.len, h.le, h.max, fun i hi => by
    obtain ⟨b, off, h1, h2, h3, h4, h5⟩ := h.cell i hi
    exact ⟨b, off, h1, h2, (hc _ _ h2).trans h3, (hc _ _ h2).trans h4, (hc _ _ h2).trans h5⟩⟩
theorem PaLies.same {a : Option Addr} {n cap : Nat} {l : List Pa} (h : PaLies B w a n cap l) (hc : ∀ b o, b < B → w'.cell? ⟨b, o, none⟩ = w.cell? ⟨b, o, none⟩) : PaLies B w' a n cap l :=
  ⟨h.len, h.le, h.max, fun i hi => by
    obtain ⟨b, off, h1, h2, h3, fa, fn, fc, h4, h5⟩ := h.cell i hi
    exact ⟨b, off, h1, h2, (hc _ _ h2).trans h3, fa, fn, fc, (hc _ _ h2).trans h4, h5.same hc⟩⟩
theorem CVars.same (h : CVars B w) (hs : w.heap.size ≤ w'.heap.size) (hc : ∀ b o, b < B → w'.cell? ⟨b, o, none⟩ = w.cell? ⟨b, o, none⟩) : CVars B w' :=
  ⟨h.pos, Nat.le_trans h.le hs, fun k hk => (hc _ _ h.pos).trans (h.word k hk), fun k hk => by
    obtain ⟨a, n, cap, h1, h2⟩ := h.parts k hk
    exact ⟨a, n, cap, (hc _ _ h.pos).trans h1, h2.same hc⟩, fun k hk => (hc _ _ h.pos).trans (h.root k hk), fun k hk => by
    obtain ⟨a, n, cap, h1, h2⟩ := h.kinds k hk
    exact ⟨a, n, cap, (hc _ _ h.pos).trans h1, h2.same hc⟩⟩
/-- Both tables. -/
structure CV (B : Nat) (w : World) : Prop where
  c : CVars B w
  o : Vars B w
theorem CV.le (h : CV B w) : B ≤ w.heap.size := h.c.le
theorem cells_below {B0 : Nat} (hb : Below B0 w w') (hB : B ≤ B0) : ∀ b o, b < B → w'.cell? ⟨b, o, none⟩ = w.cell? ⟨b, o, none⟩ := fun b o h => hb.cell (p := ⟨b, o, none⟩) (Nat.lt_of_lt_of_le h hB)
theorem cells_grown {c : Nat} (hg : w.grownBy w' (some c)) (hc : B ≤ c) (hl : B ≤ w.heap.size) : ∀ b o, b < B → w'.cell? ⟨b, o, none⟩ = w.cell? ⟨b, o, none⟩ := fun b o hlt => by
  have := hg.block b (Nat.lt_of_lt_of_le hlt hl) (fun e => by have := Option.some.inj e; omega)
  simp only [World.cell?, this]
theorem CV.same (h : CV B w) (hs : w.heap.size ≤ w'.heap.size) (hc : ∀ b o, b < B → w'.cell? ⟨b, o, none⟩ = w.cell? ⟨b, o, none⟩) : CV B w' := ⟨h.c.same hs hc, h.o.same hs hc⟩
theorem CV.below (h : CV B w) (hb : Below w.heap.size w w') : CV B w' := h.same hb.size (cells_below hb h.le)
theorem CV.rd {B0 : Nat} (h : CV B w) (hb : Below B0 w w') (hB : B ≤ B0) : CV B w' := h.same hb.size (cells_below hb hB)
theorem CV.grown {c : Nat} (h : CV B w) (hg : w.grownBy w' (some c)) (hc : B ≤ c) : CV B w' := h.same hg.size (cells_grown hg hc h.le)
theorem CV.drewN (h : CV B w) (q : Nat) : CV B (w.drewN q) := h.same (Nat.le_refl _) (fun _ _ _ => rfl)
end

theorem isCode_any (n : Int) (w : World) : Calls Tryd.prog 36 #[.int .i64 n] w fun e w' => e = .returned (.bool (codB n)) ∧ w' = w := by
  have HV : Hid (codB n = decide (0 ≤ n ∧ n < 4)) := rfl
  generalize codB n = b at *
  by_cases h0 : 0 ≤ n
  · have e0 : decide (0 ≤ n) = true := decide_eq_true h0
    by_cases h1 : n < 4
    · have e1 : decide (n < 4) = true := decide_eq_true h1
      go_enter Tryd.func36, Tryd.ntmps36
      go_wp2
      go_ret
      exact ⟨ret_bool (by rw [HV.out]; simp; omega), rfl⟩
    · have e1 : decide (n < 4) = false := decide_eq_false h1
      go_enter Tryd.func36, Tryd.ntmps36
      go_wp2
      go_ret
      exact ⟨ret_bool (by rw [HV.out]; simp; omega), rfl⟩
  · have e0 : decide (0 ≤ n) = false := decide_eq_false h0
    go_enter Tryd.func36, Tryd.ntmps36
    go_wp2
    go_ret
    exact ⟨ret_bool (by rw [HV.out]; simp; omega), rfl⟩
def cwOf (n : Int) : ByteArray := if codB n = true then cwd n.toNat else ByteArray.empty
theorem ret_strc {a b : ByteArray} (h : a = b) : Ending.returned (.string a) = .returned (.string b) := by rw [h]
theorem cword_any {B : Nat} (n : Int) (w : World) (hV : CV B w) : Calls Tryd.prog 21 #[.int .i64 n] w fun e w' => e = .returned (.string (cwOf n)) ∧ w' = w := by
  cases hk : codB n
  · have HV : Hid (cwOf n = ByteArray.empty) := by simp [Hid, cwOf, hk]
    go_enter Tryd.func21, Tryd.ntmps21
    go_wp2_with (go_at_call 36; refine (isCode_any _ _).mono ?_; rintro e w ⟨rfl, rfl⟩)
    go_ret
    exact ⟨ret_strc HV.out.symm, rfl⟩
  · obtain ⟨k, rfl, hk4⟩ := cod_nat hk
    have HV : Hid (cwOf k = cwd k) := by simp [Hid, cwOf, hk]
    have c0 := hV.c.word k hk4
    have HK := hid hk
    clear hV hk
    go_enter Tryd.func21, Tryd.ntmps21
    go_wp2_with (go_at_call 36; refine (isCode_any _ _).mono ?_; rintro e w ⟨rfl, rfl⟩; rw [HK.out])
    go_ret
    exact ⟨ret_strc HV.out.symm, rfl⟩
theorem may_any {B : Nat} (c k : Int) (w : World) (hV : CV B w) : Calls Tryd.prog 22 #[.int .i64 c, .int .i64 k] w fun e w' => e = .returned (.bool (mayB c k)) ∧ w' = w := by
  cases hk : codB c
  · have HV : Hid (mayB c k = false) := by simp [Hid, mayB, hk]
    go_enter Tryd.func22, Tryd.ntmps22
    go_wp2_with fail
    refine (isCode_any _ _).mono ?_
    rintro e w1 ⟨rfl, rfl⟩
    rw [hk]
    go_wp2_with fail
    go_ret
    exact ⟨ret_bool HV.out.symm, rfl⟩
  · obtain ⟨j, rfl, hk4⟩ := cod_nat hk
    have HV : Hid (mayB j k = decide (k ∈ cki j)) := by simp [Hid, mayB, hk]
    obtain ⟨a, n, cap, c0, hN⟩ := hV.c.kinds j hk4
    have HN := hid hN.lies
    have HK := hid hk
    clear hV hk hN
    go_enter Tryd.func22, Tryd.ntmps22
    go_wp2_with fail
    refine (isCode_any _ _).mono ?_
    rintro e w1 ⟨rfl, rfl⟩
    rw [HK.out]
    go_wp2_with fail
    refine (contains_any a n cap _ k _ HN.out).mono ?_
    rintro e w1 ⟨rfl, rfl⟩
    go_wp2_with fail
    go_ret
    exact ⟨ret_bool HV.out.symm, rfl⟩
theorem flag_any (b : Bool) (w : World) : Calls Tryd.prog 57 #[.bool b] w fun e w' => e = .returned (.int .i64 (bitI b)) ∧ w' = w := by
  cases b
  all_goals
    go_enter Tryd.func57, Tryd.ntmps57
    go_wp2
    go_ret
    exact ⟨rfl, rfl⟩
end Go.Proofs.YtbfjkhafdkhhmaaDoor
