/- An option with lists of its own: slices.Clone, copied. · Reading: are all bytes that are left 0? · Reading: skipZeros. · Reading: takeParts. · Cursors whose bytes are their own; a reader and an option in memory. -/
import Derived.Test.YtbgogeojdibmkaaDoorM9
import Derived.Test.YtbgogeojdibmkaaDoorM5
namespace Go.Proofs.YtbgogeojdibmkaaDoor
open Go.ChangeShapes Go.WideShapes Go.ChangeAt Go.RowKit Go.Deep
set_option linter.unusedVariables false
set_option linter.unusedSimpArgs false

theorem clone60_nil (w : World) : Calls Tryd.prog 60 #[.slice none 0 0] w fun e w' => e = .returned (.slice none 0 0) ∧ w' = w := by
  have he := fun w => Lib.run_eql_slice_nil (P := Tryd.prog) w 35 3 none 0 0 0 0 Tryd.underlying35
  go_enter Tryd.func60, Tryd.ntmps60
  go_wp2
  go_ret
  exact ⟨rfl, rfl⟩
theorem clone60_some (ad : Addr) (len cap : Nat) (l : List Int) (w : World) (h : Lies .i64 w (some ad) len cap l) (hl : len ≤ 100000) :
    Calls Tryd.prog 60 #[.slice (some ad) len cap] w fun e w' => ∃ v, e = .returned v ∧ w'.ownsRow w.heap.size 3 1 v l.length (i64s l) ∧ Below w.heap.size w w' := by
  have he := fun w => Lib.run_eql_slice_nil (P := Tryd.prog) w 35 3 (some ad) len cap 0 0 Tryd.underlying35
  obtain ⟨i0, hi, hz0, hz1, hz2⟩ := info_parts info3
  have HB : Hid (Lies .i64 w (some ad) len cap l) := h
  have hb1 : Below w.heap.size w (w.alloc (.cells #[] 3)) := (Below.refl _ _).alloc (Nat.le_refl _) _
  have hl1 := HB.out.below hb1
  have hown := World.ownsRow_made (e := 3) (size := 1) (base := w.heap.size) w #[] 0 (Nat.le_refl _) (by decide) (by simp)
  have HO : Hid _ := hown
  have HL1 : Hid _ := hl1
  clear h hown hl1 hb1
  go_enter Tryd.func60, Tryd.ntmps60
  go_wp2_with (at_builtin; refine wpList_append_own _ rfl _ _ 35 rfl w.heap.size 3 i0 (.int .i64 0) 1 8 Tryd.underlying35 hi hz0 hz1 hz2 rfl (by decide) _ _ _ rfl HO.out ad len cap (i64s l) rfl ?c1 (Lies.cells HL1.out ad rfl) (ints_oneCell8 _ _) ?c3 ?c4 ?c5 ?_)
  case c1 => have := HB.out.1; simp [i64s]; omega
  case c3 => unfold maxLen; omega
  case c4 => omega
  intro v1 w1 hown1 hg1 _
  have hb2 : Below w.heap.size w w1 := Below.grown ((Below.refl _ _).alloc (Nat.le_refl _) _) hg1 (by simp) (fun k hk => by cases hk; exact Nat.le_refl _)
  have hln := HB.out.1
  have HW : Hid _ := hown1
  clear hown1 hg1
  go_wp2
  go_ret
  exact ⟨_, rfl, ownsRow_i64 HW.out rfl (by omega) (by simp), hb2⟩
theorem clone60_any (a : Option Addr) (len cap : Nat) (l : List Int) (w : World) (h : Lies .i64 w a len cap l) (hl : len ≤ 100000) :
    Calls Tryd.prog 60 #[.slice a len cap] w fun e w' => ∃ v, e = .returned v ∧ w'.ownsRow w.heap.size 3 1 v l.length (i64s l) ∧ Below w.heap.size w w' := by
  cases a with
  | some ad => exact clone60_some ad len cap l w h hl
  | none =>
    obtain ⟨rfl, rfl⟩ := h.isNil rfl
    have : l = [] := List.eq_nil_of_length_eq_zero h.1
    subst this
    refine (clone60_nil w).mono ?_
    rintro e w' ⟨rfl, rfl⟩
    exact ⟨_, rfl, World.ownsRow_nil _ _ _ _, Below.refl _ _⟩
def Ov.setN (o : Ov) (t : Txt) : Ov := ⟨o.k, t, o.ad, o.t⟩
def Ov.setT (o : Ov) (t : Txt) : Ov := ⟨o.k, o.n, o.ad, t⟩
theorem Ov.set1 (o : Ov) (t : Txt) : o.cs.setIfInBounds 1 (.slice t.a t.n t.cap) = (o.setN t).cs := by
  apply Array.ext'; simp [Ov.cs, Ov.setN, Txt.v]
theorem Ov.set18 {o : Ov} (h : Adr o.ad) (t : Txt) : o.cs.setIfInBounds 18 (.slice t.a t.n t.cap) = (o.setT t).cs := by
  apply Array.ext'
  have e : o.cs.toList = (.int .i64 o.k :: o.n.v :: (arr o.ad).toList) ++ [o.t.v] := by simp [Ov.cs]
  have e2 : (o.setT t).cs.toList = (.int .i64 o.k :: o.n.v :: (arr o.ad).toList) ++ [.slice t.a t.n t.cap] := by simp [Ov.cs, Ov.setT, Txt.v]
  have hl : (Value.int .i64 o.k :: o.n.v :: (arr o.ad).toList).length = 18 := by simp [arr_size, h.1]
  rw [Array.toList_setIfInBounds, e, e2, List.set_append_right _ _ (by omega), hl]
  rfl
/-- An option with lists of the call's own. -/
structure Own2 (base : Nat) (w : World) (o : Ov) : Prop where
  n : w.ownsRow base 3 1 o.n.v o.n.l.length (i64s o.n.l)
  nn : o.n.n = o.n.l.length
  ad : Adr o.ad
  t : w.ownsRow base 5 1 o.t.v o.t.l.length (u8s o.t.l)
  tn : o.t.n = o.t.l.length
  oct : Oct o.t.l
theorem Own2.ok {base : Nat} {w : World} {o : Ov} (h : Own2 base w o) : o.ok w := by
  refine ⟨?_, h.ad, ?_, h.oct⟩
  · obtain ⟨a, cap, e, hl⟩ := owns_liesk h.n
    have e1 : Value.slice o.n.a o.n.n o.n.cap = .slice a o.n.l.length cap := e
    injection e1 with e2 e3 e4
    rw [e2, e3, e4]; exact hl
  · obtain ⟨a, cap, e, hl, _⟩ := owns_lies h.t
    have e1 : Value.slice o.t.a o.t.n o.t.cap = .slice a o.t.l.length cap := e
    injection e1 with e2 e3 e4
    rw [e2, e3, e4]; exact hl
theorem Own2.below {base : Nat} {w w' : World} {o : Ov} (h : Own2 base w o) (hb : Below w.heap.size w w') : Own2 base w' o := ⟨own_below h.n hb, h.nn, h.ad, own_below h.t hb, h.tn, h.oct⟩
theorem Own2.mono {base base' : Nat} {w : World} {o : Ov} (h : Own2 base w o) (hb : base' ≤ base) : Own2 base' w o := ⟨own_mono h.n hb, h.nn, h.ad, own_mono h.t hb, h.tn, h.oct⟩
theorem Own2.kept {base b' : Nat} {w w' : World} {o : Ov} {v : Value} {n : Nat} {xs : List Value} {ty : TypeId} (h : Own2 base w o) (ho : w.ownsRow b' ty 19 v n xs) (h3 : (3 : TypeId) ≠ ty) (h5 : (5 : TypeId) ≠ ty) (hg : w.grownBy w' v.ownBlock) : Own2 base w' o :=
  ⟨h.n.kept hg (own_apart h.n ho h3), h.nn, h.ad, h.t.kept hg (own_apart h.t ho h5), h.tn, h.oct⟩
theorem own_set {w : World} {b g : Nat} {e : TypeId} {size : Nat} {v : Value} {n : Nat} {xs : List Value} (h : w.ownsRow b e size v n xs) (hg : g < b) (j : Nat) (u : Value) : (w.setCell ⟨g, j, none⟩ u).ownsRow b e size v n xs :=
  h.kept (grownBy_setCell w g j u) (by
    cases hv : v.ownBlock with
    | none => exact .inl rfl
    | some k => exact .inr (fun e => by have := Option.some.inj e; have := (h.lt k hv).1; omega))
theorem Lies.other {kd : IntKind} {w w' : World} {d : Nat} {a : Option Addr} {len cap : Nat} {l : List Int} (h : Lies kd w a len cap l) (hg : w.grownBy w' (some d)) (hne : ∀ ad, a = some ad → ad.block ≠ d) : Lies kd w' a len cap l := by
  refine ⟨h.1, h.2.1, h.2.2.1, h.2.2.2.1, fun k hk => ?_⟩
  obtain ⟨b, off, he, hc⟩ := h.2.2.2.2 k hk
  exact ⟨b, off, he, hg.cell hc (fun e => hne _ he (by have := Option.some.inj e; exact this))⟩
theorem own_setRowT {w : World} {b g : Nat} {e t : TypeId} {size : Nat} {v : Value} {n : Nat} {xs : List Value} {c cs : Array Value} (h : w.ownsRow b e size v n xs) (hr : Row w g t c) (hne : e ≠ t) : (w.setRow g cs).ownsRow b e size v n xs :=
  h.kept (grownBy_setRow w g cs) (.inr (own_row h hr hne))
theorem resO {fn : Func} {p : Tmp} {t : TypeId} (ht : OT t) (hf : fn.results = #[.cell p t]) (tmps : Array Value) (w : World) (g : Nat) (t' : TypeId) (h : Ov) (hl : Adr h.ad)
    (hp : tmps.getD p undef = .pointer (some ⟨g, 0, none⟩)) (hg : Row w g t' h.cs) : (results fn tmps).run Tryd.prog w = .ok (.agg h.cs) w := by
  obtain ⟨fs, h1⟩ := ht.desc
  exact results_cell_row hf tmps w g t' h.cs (0, 0) _ hp hg h1 rfl (by rw [Ov.size hl]; exact ht.info)
theorem ldRun {t : TypeId} (ht : OT t) (w : World) (g : Nat) (t' : TypeId) (h : Ov) (hl : Adr h.ad) (hg : Row w g t' h.cs) : (loadVar t ⟨g, 0, none⟩).run Tryd.prog w = .ok (.agg h.cs) w := by
  obtain ⟨fs, h1⟩ := ht.desc
  exact run_loadVar_row w g t' t h.cs (0, 0) _ hg h1 rfl (by rw [Ov.size hl]; exact ht.info)
theorem resOe {fn : Func} {p u : Tmp} {t : TypeId} (ht : OT t) (hf : fn.results = #[.cell p t, .tmp u]) (tmps : Array Value) (w : World) (g : Nat) (t' : TypeId) (h : Ov) (hl : Adr h.ad) (v : Value)
    (hp : tmps.getD p undef = .pointer (some ⟨g, 0, none⟩)) (hu : tmps.getD u undef = v) (hg : Row w g t' h.cs) : (results fn tmps).run Tryd.prog w = .ok (.tuple #[.agg h.cs, v]) w := by
  rw [results_cell_tmp hf]
  have hp' : tmps[p]?.getD undef = .pointer (some ⟨g, 0, none⟩) := by simpa using hp
  have hu' : tmps[u]?.getD undef = v := by simpa using hu
  simp [hp', hu', asAddr, ldRun ht w g t' h hl hg]
set_option maxRecDepth 100000 in
set_option maxHeartbeats 1600000 in
theorem copied_any (o : Ov) (w : World) (ho : o.ok w) (hn : o.n.n ≤ 100000) (ht : o.t.n ≤ 100000) :
    Calls Tryd.prog 44 #[.agg o.cs] w fun e w' => (∃ o' : Ov, e = .returned (.agg o'.cs) ∧ Hid (o'.p = o.p) ∧ Hid (Own2 w.heap.size w' o')) ∧ Below w.heap.size w w' := by
  have hz := zov
  have R0 := hid ((Row.new w 43 o.cs).alloc (.cells Ov.zero.cs 43))
  have Z0 := hid (Row.new (w.alloc (.cells o.cs 43)) 43 Ov.zero.cs)
  have hs1 : (w.alloc (.cells o.cs 43)).heap.size = w.heap.size + 1 := World.size_alloc ..
  have hs2 : ((w.alloc (.cells o.cs 43)).alloc (.cells Ov.zero.cs 43)).heap.size = w.heap.size + 2 := by rw [World.size_alloc, hs1]
  rw [hs1] at Z0
  have B0 := hid (balloc (balloc (Below.refl w.heap.size w) (.cells o.cs 43)) (.cells Ov.zero.cs 43))
  have O0 := hid (ho.below B0.out)
  have HA := hid ho.ad
  have HOct := hid ho.oct
  have ltt : Hid (∀ ad, o.t.a = some ad → o.t.n ≠ 0 → ad.block ≠ w.heap.size) := by
    intro ad h1 h2 h3
    obtain ⟨b, off, h4, h5⟩ := ho.t.2.2.2.2 0 (by omega)
    rw [h1] at h4
    obtain rfl := Option.some.inj h4
    have := World.block_lt_of_cell? w _ h5
    simp at h3 this; omega
  clear ho
  go_enter Tryd.func44, Tryd.ntmps44
  go_upto_region 1 with fail
  generalize hw1 : (w.alloc (.cells o.cs 43)).alloc (.cells Ov.zero.cs 43) = w1 at *
  generalize hg0 : w.heap.size = g0 at *
  have a1 := (R0.out.cell 1).trans o.at1
  have f1 := R0.out.frozen 1
  clear hw1 hs1 hz
  go_wp2_with fail
  refine (clone60_any _ _ _ _ _ O0.out.n hn).mono ?_
  rintro e w2 ⟨v2, rfl, hown2, hb2⟩
  obtain ⟨na, nc, rfl⟩ := owns_len hown2
  have R2 := hid (R0.out.below hb2)
  have Z2 := hid (Z0.out.below hb2)
  have T2 := hid (O0.out.t.below hb2)
  have B2 := hid (B0.out.trans (hb2.mono (by rw [hs2]; omega)))
  have N2 := hid hown2
  have hs3 := hb2.size
  clear hown2 hb2 a1 f1 O0 R0 Z0 B0
  have a1 := (R2.out.cell 1).trans o.at1
  have f1 := R2.out.frozen 1
  go_upto_region 2 with fail
  have R3 := hid (R2.out.set 1 (.slice na o.n.l.length nc))
  have Z3 := hid (Z2.out.other ⟨g0, 1, none⟩ (.slice na o.n.l.length nc) (by simp))
  have B3 := hid (bset 1 (.slice na o.n.l.length nc) B2.out (Nat.le_refl g0))
  have N3 := hid (own_set N2.out (g := g0) (by rw [hs2]; omega) 1 (.slice na o.n.l.length nc))
  have S3 : (w2.setCell ⟨g0, 1, none⟩ (.slice na o.n.l.length nc)).heap.size = w2.heap.size := by simp
  have T3 : Hid (Lies .u8 (w2.setCell ⟨g0, 1, none⟩ (.slice na o.n.l.length nc)) o.t.a o.t.n o.t.cap o.t.l) := by
    by_cases h0 : o.t.n = 0
    · exact ⟨T2.out.1, T2.out.2.1, T2.out.2.2.1, T2.out.2.2.2.1, fun k hk => by omega⟩
    · exact T2.out.other (grownBy_setCell ..) (fun ad had => ltt.out ad had h0)
  rw [Ov.set1 o ⟨na, o.n.l.length, nc, o.n.l⟩] at R3
  generalize hw3 : w2.setCell ⟨g0, 1, none⟩ (.slice na o.n.l.length nc) = w3 at *
  generalize hX : o.setN ⟨na, o.n.l.length, nc, o.n.l⟩ = X at *
  have HAX : Hid (Adr X.ad) := by rw [Hid, ← hX]; exact HA.out
  have HXt : X.t = o.t := by rw [← hX]; rfl
  have b18 := (R3.out.cell 18).trans (Ov.at18 HAX.out)
  rw [HXt] at b18
  have g18 := R3.out.frozen 18
  clear hw3 a1 f1
  go_wp2_with fail
  refine (clone_any _ _ _ _ _ T3.out ht).mono ?_
  rintro e w4 ⟨v4, rfl, hown4, hb4⟩
  obtain ⟨ta, tc, rfl⟩ := owns_len hown4
  have R4 := hid (R3.out.below hb4)
  have Z4 := hid (Z3.out.below hb4)
  have N4 := hid (own_below N3.out hb4)
  have B4 := hid (B3.out.trans (hb4.mono (by omega)))
  have T4 := hid hown4
  have hs4 := hb4.size
  clear hown4 hb4 b18 g18 R3 Z3 N3 B3
  have b18 := (R4.out.cell 18).trans (Ov.at18 HAX.out)
  rw [HXt] at b18
  have g18 := R4.out.frozen 18
  go_upto_region 3 with fail
  have R5 := hid (R4.out.set 18 (.slice ta o.t.l.length tc))
  have Z5 := hid (Z4.out.other ⟨g0, 18, none⟩ (.slice ta o.t.l.length tc) (by simp))
  have B5 := hid (bset 18 (.slice ta o.t.l.length tc) B4.out (Nat.le_refl g0))
  have N5 := hid (own_set N4.out (g := g0) (by rw [hs2]; omega) 18 (.slice ta o.t.l.length tc))
  have T5 := hid (own_set T4.out (g := g0) (by omega) 18 (.slice ta o.t.l.length tc))
  rw [Ov.set18 HAX.out ⟨ta, o.t.l.length, tc, o.t.l⟩] at R5
  generalize hw5 : w4.setCell ⟨g0, 18, none⟩ (.slice ta o.t.l.length tc) = w5 at *
  generalize hY : X.setT ⟨ta, o.t.l.length, tc, o.t.l⟩ = Y at *
  have HAY : Hid (Adr Y.ad) := by rw [Hid, ← hY]; exact HAX.out
  have HP : Hid (Y.p = o.p) := by rw [Hid, ← hY, ← hX]; rfl
  have HO5 : Hid (Own2 g0 w5 Y) := by
    subst hY; subst hX
    exact ⟨own_mono N5.out (by rw [hs2]; omega), rfl, HA.out, own_mono T5.out (by omega), rfl, HOct.out⟩
  clear hw5 hY hX b18 g18 N5 T5
  have R6 := hid (R5.out.rowOther (g0 + 1) Y.cs (by omega))
  have Z6 := hid (Z5.out.setRow Y.cs)
  have B6 := hid (below_setRow' B5.out (g := g0 + 1) (by omega) Y.cs)
  have H6 : Hid (Own2 g0 (w5.setRow (g0 + 1) Y.cs) Y) := ⟨own_setRowT HO5.out.n Z5.out (by decide), HO5.out.nn, HO5.out.ad, own_setRowT HO5.out.t Z5.out (by decide), HO5.out.tn, HO5.out.oct⟩
  go_wp2_with (first | (refine ldO o43 _ rfl rfl g0 0 rfl Y HAY.out R5.out.part ?_) | (refine stO o43 _ _ rfl rfl (g0 + 1) Y HAY.out rfl rfl 43 Ov.zero adr_zeros Z5.out ?_))
  refine bodyPost_ret (resO o43 rfl _ _ (g0 + 1) 43 Y HAY.out rfl Z6.out) rfl ⟨⟨Y, rfl, HP.out, by rw [hg0]; exact H6⟩, by rw [hg0]; exact B6.out⟩
end Go.Proofs.YtbgogeojdibmkaaDoor

namespace Go.Proofs.YtbgogeojdibmkaaDoor
open Go.ChangeShapes Go.WideShapes Go.ChangeAt Go.RowKit Go.Deep
set_option linter.unusedVariables false
set_option linter.unusedSimpArgs false

/-- Are there bytes other than 0? -/
def anyN (l : List Int) : Bool := l.any (fun x => x != 0)
theorem isn0_any (x : Int) (w : World) : Calls Tryd.prog 74 #[.int .u8 x] w fun e w' => e = .returned (.bool (x != 0)) ∧ w' = w := by
  go_enter Tryd.func74, Tryd.ntmps74
  go_wp2_with fail
  go_ret
  exact ⟨rfl, rfl⟩
theorem indexFunc8_any (a : Option Addr) (n cap : Nat) (l : List Int) (w : World) (h : Lies .u8 w a n cap l) :
    Calls Tryd.prog 77 #[.slice a n cap, .func (.func 74) #[] #[]] w fun e w' => (∃ r : Int, e = .returned (.int .i64 r) ∧ decide (0 ≤ r) = anyN l) ∧ w' = w := by
  obtain ⟨hl, hlc, hcm, _, hc⟩ := h
  unfold maxLen at hcm
  have HC : Hid _ := hc
  have HL : Hid (l.length = n) := hl
  clear hc hl
  go_enter Tryd.func77, Tryd.ntmps77
  go_wp2_with fail
  go_loop [8] (fun i => ∃ k : Nat, k ≤ n ∧ i = .int .i64 k ∧ Hid (anyN (l.take k) = false)) (fun i => n - (intOf i).toNat)
  case atStart => exact ⟨0, Nat.zero_le _, rfl, by rw [Hid]; simp [anyN]⟩
  case round =>
    obtain ⟨k, hk, rfl, hno⟩ := hrel
    by_cases hlt : k < n
    · obtain ⟨b, off, rfl, hcell⟩ := HC.out k hlt
      have hlt' : (k : Int) < (n : Int) := by omega
      have HM : Hid (l.getD k 0 ∈ l) := by rw [Hid]; simp [show k < l.length by rw [HL.out]; exact hlt]
      have HN : Hid ((l.getD k 0 != 0) = false → anyN (l.take (k + 1)) = false) := by
        intro hz
        rw [anyN, List.take_add_one, List.any_append, show (l.take k).any (fun x => x != 0) = false from hno.out]
        have hk' : k < l.length := by rw [HL.out]; exact hlt
        simp [hk'] at hz ⊢
        exact hz
      generalize l.getD k 0 = z at *
      go_wp2_with fail
      refine (isn0_any z _).mono ?_
      rintro e w1 ⟨rfl, rfl⟩
      cases hz : (z != 0)
      · go_wp2_with fail
        go_round
        case rel => exact ⟨k + 1, by omega, by go_num, HN.out hz⟩
        case measure => simp [intOf]; omega
      · go_wp2_with fail
        go_ret
        refine ⟨⟨_, rfl, ?_⟩, rfl⟩
        have : anyN l = true := List.any_eq_true.2 ⟨z, HM.out, hz⟩
        rw [this]; simp
    · obtain rfl : k = n := by omega
      go_wp2_with fail
      go_ret
      refine ⟨⟨_, rfl, ?_⟩, rfl⟩
      have := hno.out
      rw [List.take_of_length_le (by rw [HL.out]; exact Nat.le_refl _)] at this
      simp [this]
theorem containsFunc8_any (a : Option Addr) (n cap : Nat) (l : List Int) (w : World) (h : Lies .u8 w a n cap l) :
    Calls Tryd.prog 75 #[.slice a n cap, .func (.func 74) #[] #[]] w fun e w' => e = .returned (.bool (anyN l)) ∧ w' = w := by
  have HL := hid h
  clear h
  go_enter Tryd.func75, Tryd.ntmps75
  go_wp2_with fail
  refine (indexFunc8_any a n cap l _ HL.out).mono ?_
  rintro e w1 ⟨⟨r, rfl, hr⟩, rfl⟩
  have HR := hid hr
  clear hr
  go_wp2_with fail
  go_ret
  exact ⟨ret_bool HR.out, rfl⟩
end Go.Proofs.YtbgogeojdibmkaaDoor

namespace Go.Proofs.YtbgogeojdibmkaaDoor
open Go.ChangeShapes Go.WideShapes Go.ChangeAt Go.RowKit Go.Deep
set_option linter.unusedVariables false
set_option linter.unusedSimpArgs false

/-- What is wrong with a cursor behind Spoil. -/
def spE (er e : Int) : Int := if er = 0 then e else er
theorem spoil_any (w : World) (c : Nat) (a : Option Addr) (len cap at_ : Nat) (l : List Int) (er e : Int) (h : CurAt w c a len cap l at_ er) :
    Calls Tryd.prog 50 #[.pointer (some ⟨c, 0, none⟩), .int .i64 e] w fun e' w' => e' = .returned (.tuple #[]) ∧ CurAt w' c a len cap l at_ (spE er e) ∧ w.grownBy w' (some c) ∧ w'.heap.size = w.heap.size := by
  by_cases her : er = 0
  · subst her
    have : spE 0 e = e := by simp [spE]
    rw [this]
    exact spoil_now w c a len cap at_ l e h
  · have : spE er e = er := by simp [spE, her]
    rw [this]
    refine (spoil_was w c er e h.cell2 her).mono ?_
    rintro e' w' ⟨rfl, rfl⟩
    exact ⟨rfl, h, grownBy_drewN w' 0 _, rfl⟩
theorem rd_all (len at_ : Nat) (h : at_ ≤ len) : rdE 1 ((len : Int) - at_) (len - at_) 0 = 0 ∧ rdN 1 ((len : Int) - at_) (len - at_) 0 = len - at_ := by
  have h1 : rdE 1 ((len : Int) - at_) (len - at_) 0 = 0 := by
    unfold rdE
    have hz : sizeB 1 = true := by decide
    rw [if_pos rfl, if_neg (by rw [hz]; simp; omega), if_neg (by omega)]
  refine ⟨h1, ?_⟩
  rw [rdN, if_pos h1]; omega
/-- bytes(left) with nothing wrong. -/
theorem bytes_left (w : World) (c : Nat) (a : Option Addr) (len cap at_ : Nat) (l : List Int) (h : CurAt w c a len cap l at_ 0) :
    Calls Tryd.prog 67 #[.pointer (some ⟨c, 0, none⟩), .int .i64 ((len : Int) - at_)] w fun e w' => ∃ b cp, e = .returned (.slice b (len - at_) cp) ∧ w'.ownsRow w.heap.size 5 1 (.slice b (len - at_) cp) (len - at_) (u8s (l.drop at_)) ∧
      Lies .u8 w' b (len - at_) cp (l.drop at_) ∧ CurAt w' c a len cap l len 0 ∧ w.grownBy w' (some c) := by
  have hle := h.le
  obtain ⟨hE, hN⟩ := rd_all len at_ h.le
  have hll := h.lies.1
  have hd : (l.drop at_).take (len - at_) = l.drop at_ := List.take_of_length_le (by rw [List.length_drop]; omega)
  have hdl : (l.drop at_).length = len - at_ := by rw [List.length_drop]; omega
  have := bytes_any w c a len cap at_ l 0 ((len : Int) - at_) h
  rw [hE, hN, hd] at this
  refine this.mono ?_
  rintro e w' ⟨v, rfl, hown, hc, hg⟩
  have hown' := ownsRow_u8 hown hdl.symm rfl
  obtain ⟨b, cp, rfl, hl, _⟩ := owns_lies hown'
  rw [hdl] at hl ⊢
  rw [show at_ + (len - at_) = len by omega] at hc
  rw [hdl] at hown
  exact ⟨b, cp, rfl, hown, hl, hc, hg⟩
def zerE (l : List Int) : Int := if anyN l = true then 3 else 0
theorem skipZeros_any (w : World) (p c : Nat) (a : Option Addr) (len cap at_ : Nat) (l : List Int) (gv : Value) (hr : Row w p 72 #[.pointer (some ⟨c, 0, none⟩), gv]) (h : CurAt w c a len cap l at_ 0) :
    Calls Tryd.prog 66 #[.pointer (some ⟨p, 0, none⟩)] w fun e w' => e = .returned (.tuple #[]) ∧ CurAt w' c a len cap l len (zerE (l.drop at_)) ∧ w.grownBy w' (some c) := by
  have hpc : p ≠ c := by
    intro e
    subst e
    have := h.block
    rw [hr] at this
    simp at this
  have R0 := hid hr
  have C0 := hid h
  clear hr h
  go_enter Tryd.func66, Tryd.ntmps66
  go_wp2_with fail
  refine wp_region_held_drew (S := fun w' => w'.cell? ⟨p, 0, none⟩ = some (.pointer (some ⟨c, 0, none⟩))) (by kernel_rfl) ?_ (fun hHeld => ?_)
  · exact R0.out.cell 0
  refine wpAnyH_take (i := 0) (oi := _) (v := ?va0) rfl (by kernel_rfl) (by kernel_rfl) (by kernel_rfl) (fun _ _ _ h => h) (Or.inl ⟨by rfl, ?hya0⟩) (by assumption) ?resta0
  case hya0 => (intro w hSw; (try dsimp only at hSw); go_split_ands; go_simp; try (with_reducible rfl))
  try simp only [List.getElem_toArray, List.getElem_cons_zero, List.getElem_cons_succ, Act.put, List.setIfInBounds_toArray, List.set_cons_zero, List.set_cons_succ]
  refine wpAnyH_take (i := 1) (oi := _) (v := ?va1) rfl (by kernel_rfl) (by kernel_rfl) (by kernel_rfl) (fun _ _ _ h => h) (Or.inl ⟨by rfl, ?hya1⟩) (by assumption) ?resta1
  case hya1 => (intro w hSw; (try dsimp only at hSw); go_split_ands; go_simp; try (with_reducible rfl))
  try simp only [List.getElem_toArray, List.getElem_cons_zero, List.getElem_cons_succ, Act.put, List.setIfInBounds_toArray, List.set_cons_zero, List.set_cons_succ]
  refine wpAnyH_take (i := 2) (oi := _) (v := ?va2) rfl (by kernel_rfl) (by kernel_rfl) (by kernel_rfl) (fun _ _ _ h => h) (Or.inl ⟨by rfl, ?hya2⟩) (by assumption) ?resta2
  case hya2 => (intro w hSw; (try dsimp only at hSw); go_split_ands; go_simp; try (with_reducible rfl))
  try simp only [List.getElem_toArray, List.getElem_cons_zero, List.getElem_cons_succ, Act.put, List.setIfInBounds_toArray, List.set_cons_zero, List.set_cons_succ]
  refine wpAnyH_take (i := 3) (oi := _) (v := ?va3) rfl (by kernel_rfl) (by kernel_rfl) (by kernel_rfl) (fun _ _ _ h => h) (Or.inl ⟨by rfl, ?hya3⟩) (by assumption) ?resta3
  case hya3 => (intro w hSw; (try dsimp only at hSw); go_split_ands; go_simp; try (with_reducible rfl))
  try simp only [List.getElem_toArray, List.getElem_cons_zero, List.getElem_cons_succ, Act.put, List.setIfInBounds_toArray, List.set_cons_zero, List.set_cons_succ]
  refine wpAnyH_take (i := 4) (oi := _) (v := ?va4) rfl (by kernel_rfl) (by kernel_rfl) (by kernel_rfl) (fun _ _ _ h => h) (Or.inl ⟨by rfl, ?hya4⟩) (by assumption) ?resta4
  case hya4 => (intro w hSw; (try dsimp only at hSw); go_split_ands; go_simp; try (with_reducible rfl))
  try simp only [List.getElem_toArray, List.getElem_cons_zero, List.getElem_cons_succ, Act.put, List.setIfInBounds_toArray, List.set_cons_zero, List.set_cons_succ]
  refine wpAnyH_take (i := 5) (oi := _) (v := ?va5) rfl (by kernel_rfl) (by kernel_rfl) (by kernel_rfl) (fun _ _ _ h => h) (Or.inl ⟨by rfl, ?hya5⟩) (by assumption) ?resta5
  case hya5 => (intro w hSw; (try dsimp only at hSw); go_split_ands; go_simp; try (with_reducible rfl))
  try simp only [List.getElem_toArray, List.getElem_cons_zero, List.getElem_cons_succ, Act.put, List.setIfInBounds_toArray, List.set_cons_zero, List.set_cons_succ]
  refine wpAnyH_take (i := 6) (oi := _) (v := ?va6) rfl (by kernel_rfl) (by kernel_rfl) (by kernel_rfl) (fun _ _ _ h => h) (Or.inl ⟨by rfl, ?hya6⟩) (by assumption) ?resta6
  case hya6 => (intro w hSw; (try dsimp only at hSw); go_split_ands; go_simp; try (with_reducible rfl))
  try simp only [List.getElem_toArray, List.getElem_cons_zero, List.getElem_cons_succ, Act.put, List.setIfInBounds_toArray, List.set_cons_zero, List.set_cons_succ]
  refine wpAnyH_take (i := 7) (oi := _) (v := ?va7) rfl (by kernel_rfl) (by kernel_rfl) (by kernel_rfl) (fun _ _ _ h => h) (Or.inl ⟨by rfl, ?hya7⟩) (by assumption) ?resta7
  case hya7 => (intro w hSw; (try dsimp only at hSw); go_split_ands; go_simp; try (with_reducible rfl))
  try simp only [List.getElem_toArray, List.getElem_cons_zero, List.getElem_cons_succ, Act.put, List.setIfInBounds_toArray, List.set_cons_zero, List.set_cons_succ]
  refine wpAnyH_take (i := 10) (oi := _) (v := ?va10) rfl (by kernel_rfl) (by kernel_rfl) (by kernel_rfl) (fun _ _ _ h => h) (Or.inl ⟨by rfl, ?hya10⟩) (by assumption) ?resta10
  case hya10 => (intro w hSw; (try dsimp only at hSw); go_split_ands; go_simp; try (with_reducible rfl))
  try simp only [List.getElem_toArray, List.getElem_cons_zero, List.getElem_cons_succ, Act.put, List.setIfInBounds_toArray, List.set_cons_zero, List.set_cons_succ]
  refine wpAnyH_ready (rs := [8]) (by kernel_rfl) (by simp) ?_
  refine AllReadyH.cons (o := _) rfl (fun K hK => ?_) AllReadyH.nil
  go_simp
  refine (left_any _ c a len cap at_ l 0 (C0.out.drewN _)).mono ?_
  rintro e w1 ⟨rfl, q, rfl⟩
  go_wp2_with fail
  refine hK.out _ _ (R0.out.cell 0) (fun hHeld => ?_)
  clear hK K
  try simp only [List.getElem_toArray, List.getElem_cons_zero, List.getElem_cons_succ, Act.put, List.setIfInBounds_toArray, List.set_cons_zero, List.set_cons_succ]
  refine wpAnyH_ready (rs := [9]) (by kernel_rfl) (by simp) ?_
  refine AllReadyH.cons (o := _) rfl (fun K hK => ?_) AllReadyH.nil
  go_simp
  refine (bytes_left _ c a len cap at_ l (C0.out.drewN _)).mono ?_
  rintro e w2 ⟨b, cp, rfl, hown, hl, hc, hg⟩
  have R2 := hid ((R0.out.drewN _).kept hg (by simp [hpc]))
  have L2 := hid hl
  have C2 := hid hc
  have G2 := hid ((grownBy_drewN w _ (some c)).trans hg)
  clear hown hl hc hg
  go_wp2_with fail
  refine hK.out _ _ (R2.out.cell 0) (fun hHeld => ?_)
  clear hK K
  try simp only [List.getElem_toArray, List.getElem_cons_zero, List.getElem_cons_succ, Act.put, List.setIfInBounds_toArray, List.set_cons_zero, List.set_cons_succ]
  refine wpAnyH_ready (rs := [11]) (by kernel_rfl) (by simp) ?_
  refine AllReadyH.cons (o := _) rfl (fun K hK => ?_) AllReadyH.nil
  go_simp
  refine (containsFunc8_any _ _ _ _ _ L2.out).mono ?_
  rintro e w3 ⟨rfl, rfl⟩
  go_wp2_with fail
  refine hK.out _ _ (R2.out.cell 0) (fun hHeld => ?_)
  clear hK K
  try simp only [List.getElem_toArray, List.getElem_cons_zero, List.getElem_cons_succ, Act.put, List.setIfInBounds_toArray, List.set_cons_zero, List.set_cons_succ]
  refine wpAnyH_done (by kernel_rfl) ?_ _
  cases hz : anyN (l.drop at_)
  · have HZ : Hid (zerE (l.drop at_) = 0) := by simp [Hid, zerE, hz]
    go_wp2_with fail
    go_returns
    exact ⟨rfl, by rw [HZ.out]; exact C2.out, G2.out⟩
  · have HZ : Hid (zerE (l.drop at_) = 3) := by simp [Hid, zerE, hz]
    go_wp2_with fail
    refine (spoil_any _ c a len cap len l 0 3 C2.out).mono ?_
    rintro e w4 ⟨rfl, hc, hg, hs⟩
    have C4 := hid hc
    have G4 := hid (G2.out.trans hg)
    clear hc hg hs
    go_wp2_with fail
    go_returns
    exact ⟨rfl, by rw [HZ.out]; exact C4.out, G4.out⟩
end Go.Proofs.YtbgogeojdibmkaaDoor

namespace Go.Proofs.YtbgogeojdibmkaaDoor
open Go.ChangeShapes Go.WideShapes Go.ChangeAt Go.RowKit Go.Deep
set_option linter.unusedVariables false
set_option linter.unusedSimpArgs false

def Ov.setA (o : Ov) (F : List Int) : Ov := ⟨o.k, o.n, F, o.t⟩
theorem splice_A {o : Ov} {F : List Int} (h : Adr o.ad) (hF : F.length = 16) : (o.cs.toList.take 2 ++ u8s F ++ o.cs.toList.drop (2 + (u8s F).length)).toArray = (o.setA F).cs := by
  have e : o.cs.toList = [.int .i64 o.k, o.n.v] ++ (u8s o.ad ++ [o.t.v]) := by simp [Ov.cs, arr]
  have l1 : (u8s o.ad).length = 16 := by rw [u8s_len, h.1]
  have l2 : (u8s F).length = 16 := by rw [u8s_len, hF]
  apply Array.ext'
  rw [e, l2]
  have e1 : ([Value.int .i64 o.k, o.n.v] ++ (u8s o.ad ++ [o.t.v])).take 2 = [.int .i64 o.k, o.n.v] := rfl
  have e2 : ([Value.int .i64 o.k, o.n.v] ++ (u8s o.ad ++ [o.t.v])).drop (2 + 16) = [o.t.v] := by
    rw [show 2 + 16 = ([Value.int .i64 o.k, o.n.v] ++ u8s o.ad).length by simp [l1], ← List.append_assoc, List.drop_left]
  rw [e1, e2]
  simp [Ov.cs, Ov.setA, arr]
/-- copy(o.Addr[:], ..) as one step of a region that draws its order. -/
theorem step_copyA {ops : Array Oper} {op : Oper} {a : Act} {w : World} {K : Act → World → Prop} {Q : Exit → Act → World → Prop} {E : Prop} (hgd : op.guard = none) (d s : Operand)
    (hop : op.op = .call { callee := .builtin .copy, args := #[d, s], argTypes := #[26, 26] }) (g dCap sCap : Nat) (sp : Option Addr) (hd : a.eval d = .slice (some ⟨g, 2, none⟩) 16 dCap) (hs : a.eval s = .slice sp 16 sCap)
    (o : Ov) (hA : Adr o.ad) (hr : Row w g 43 o.cs) (F : List Int) (hl : Lies .u8 w sp 16 sCap F)
    (h : K (a.put op.dst (goInt 16)) (w.setRow g (o.setA F).cs)) :
    if Region.wanted op (yielded ops a.tmps) = true then Oper.wp Tryd.prog op a w K Q else E := by
  have hw : Region.wanted op (yielded ops a.tmps) = true := by simp [Region.wanted, hgd]
  rw [if_pos hw]
  have hF : F.length = 16 := hl.1
  have l2 : (u8s F).length = 16 := by rw [u8s_len, hF]
  obtain ⟨b, off, e, _⟩ := hl.2.2.2.2 0 (by omega)
  subst e
  have hrun := run_copy_row (P := Tryd.prog) w 26 26 op.type 5 g 2 16 dCap ⟨b, off, none⟩ 16 sCap o.cs 43 (u8s F) Tryd.underlying26 (by kernel_rfl) hr (by rw [l2]; rfl) (hl.cells _ rfl) (by rw [l2, Ov.size hA]; decide) (ints_oneCell8 F .u8)
  rw [splice_A hA hF, l2] at hrun
  unfold Oper.wp
  simp [execOp, hop, resolve, invoke, builtin, hd, hs, hrun, Result.andThen]
  exact h
/-- Reading one part more: how many bytes were read, the numbers, the address. -/
def stp (l : List Int) (s : Nat × List Int × List Int) (p : Int × Int) : Nat × List Int × List Int :=
  if (p.1 == 16) = true then (s.1 + 16, s.2.1, (l.drop s.1).take 16) else (s.1 + p.1.toNat, s.2.1 ++ [numOf ((l.drop s.1).take p.1.toNat)], s.2.2)
def stps (l : List Int) (P : List (Int × Int)) : Nat × List Int × List Int := P.foldl (stp l) (0, [], zeros)
theorem stps_succ (l : List Int) (P : List (Int × Int)) (j : Nat) (h : j < P.length) : stps l (P.take (j + 1)) = stp l (stps l (P.take j)) (P.getD j (0, 0)) := by
  rw [List.take_succ_eq_append_getElem h, stps, List.foldl_append]; simp [stps, h]
theorem stps_at (l : List Int) (P : List (Int × Int)) (h : ∀ p ∈ P, (p.1 == 16) = true ∨ sizeB p.1 = true) (j : Nat) (hj : j ≤ P.length) : ((stps l (P.take j)).1 : Int) = sumP (P.take j) := by
  induction j with
  | zero => rfl
  | succ j ih =>
    have hj' : j < P.length := by omega
    rw [stps_succ l P j hj', sumP_succ P j hj', ← ih (by omega)]
    have hm : P.getD j (0, 0) ∈ P := by simp [hj']
    rcases h _ hm with hp | hp
    · rw [stp, if_pos hp]
      have : (P.getD j (0, 0)).1 = 16 := by simpa using hp
      rw [this]; simp
    · have hne : ¬ ((P.getD j (0, 0)).1 == 16) = true := by rcases sizeB_cases hp with e | e | e <;> rw [e] <;> decide
      rw [stp, if_neg hne]
      rcases sizeB_cases hp with e | e | e <;> rw [e] <;> simp
theorem stps_adr (l : List Int) (P : List (Int × Int)) (h : ∀ p ∈ P, (p.1 == 16) = true ∨ sizeB p.1 = true) (ho : Oct l) (hl : sumP P = l.length) (j : Nat) (hj : j ≤ P.length) (hle : ∀ i, i ≤ P.length → sumP (P.take i) ≤ sumP P) : Adr (stps l (P.take j)).2.2 := by
  induction j with
  | zero => exact adr_zeros
  | succ j ih =>
    have hj' : j < P.length := by omega
    have ha := stps_at l P h j (by omega)
    have hs := sumP_succ P j hj'
    have hb := hle (j + 1) hj
    rw [stps_succ l P j hj', stp]
    split
    · rename_i h16
      have : (P.getD j (0, 0)).1 = 16 := by simpa using h16
      refine ⟨?_, ho.cut _ _⟩
      rw [List.length_take, List.length_drop]
      omega
    · exact ih (by omega)
theorem rd_n (size : Int) (len at_ : Nat) (hz : sizeB size = true) (h : (at_ : Int) + size ≤ len) : rdE size 1 (len - at_) 0 = 0 ∧ rdN size 1 (len - at_) 0 = size.toNat := by
  have h1 : rdE size 1 (len - at_) 0 = 0 := by
    unfold rdE
    rw [if_pos rfl, if_neg (by rw [hz]; simp), if_neg (by omega)]
  refine ⟨h1, ?_⟩
  rw [rdN, if_pos h1]; simp
theorem rd_b (n len at_ : Nat) (h : at_ + n ≤ len) : rdE 1 n (len - at_) 0 = 0 ∧ rdN 1 n (len - at_) 0 = n := by
  have h1 : rdE 1 n (len - at_) 0 = 0 := by
    unfold rdE
    have hz : sizeB 1 = true := by decide
    rw [if_pos rfl, if_neg (by rw [hz]; simp), if_neg (by omega)]
  refine ⟨h1, ?_⟩
  rw [rdN, if_pos h1]; simp
end Go.Proofs.YtbgogeojdibmkaaDoor

namespace Go.Proofs.YtbgogeojdibmkaaDoor
open Go.ChangeShapes Go.WideShapes Go.ChangeAt Go.RowKit Go.Deep
set_option linter.unusedVariables false
set_option linter.unusedSimpArgs false

theorem over_own (a : Option Addr) (len cap : Nat) (l : List Int) (w : World) (h : Lies .u8 w a len cap l) (ho : Oct l) (hl : len ≤ 100000) :
    Calls Tryd.prog 32 #[.slice a len cap] w fun e w' => ∃ c a' cap', e = .returned (.pointer (some ⟨c, 0, none⟩)) ∧ CurAt w' c a' len cap' l 0 0 ∧ Below w.heap.size w w' ∧ w.heap.size ≤ c ∧ c < w'.heap.size ∧ w'.ownsRow w.heap.size 5 1 (.slice a' len cap') len (u8s l) := by
  have HB := hid h
  have HO := hid ho
  clear h ho
  go_enter Tryd.func32, Tryd.ntmps32
  go_wp2_with (go_at_call 48; refine (clone_any _ _ _ l _ HB.out hl).mono ?_; rintro e w1 ⟨v1, rfl, hown1, hb1⟩; have HOW := hid hown1; obtain ⟨a1, cap1, rfl, hl1, ho1⟩ := owns_lies hown1)
  have hln : l.length = len := HB.out.1
  rw [hln] at hl1
  go_ret
  have hb2 : Below w1.heap.size w1 (w1.alloc (.cells #[.slice a1 l.length cap1, .int .i64 0, .int .i64 0] 92)) := (Below.refl _ _).alloc (Nat.le_refl _) _
  refine ⟨w1.heap.size, a1, cap1, rfl, ⟨?_, hl1.below hb2, HO.out, Nat.zero_le _, hl⟩, hb1.trans (hb2.mono hb1.size), hb1.size, by simp, ?_⟩
  rotate_left
  · have := own_below HOW.out hb2
    rw [hln] at this ⊢
    exact this
  rw [heap_alloc_new, hln]; rfl

set_option maxHeartbeats 400000 in
theorem within_own (w : World) (c : Nat) (a : Option Addr) (len cap at_ : Nat) (l : List Int) (er n : Int) (h : CurAt w c a len cap l at_ er) :
    Calls Tryd.prog 52 #[.pointer (some ⟨c, 0, none⟩), .int .i64 n] w fun e w' => ∃ c2 a2 cap2, e = .returned (.pointer (some ⟨c2, 0, none⟩)) ∧
      CurAt w' c2 a2 (rdN 1 n (len - at_) er) cap2 ((l.drop at_).take (rdN 1 n (len - at_) er)) 0 (rdE 1 n (len - at_) er) ∧
      CurAt w' c a len cap l (at_ + rdN 1 n (len - at_) er) (rdE 1 n (len - at_) er) ∧ w.grownBy w' (some c) ∧ w.heap.size ≤ c2 ∧ w'.ownsRow w.heap.size 5 1 (.slice a2 (rdN 1 n (len - at_) er) cap2) (rdN 1 n (len - at_) er) (u8s ((l.drop at_).take (rdN 1 n (len - at_) er))) := by
  have H := hid h
  have hm0 := rdN_le 1 n (len - at_) er
  have hs := h.small
  have ho := hid (h.oct.cut at_ (rdN 1 n (len - at_) er))
  clear h
  go_enter Tryd.func52, Tryd.ntmps52
  go_wp2_with fail
  refine (read_any _ c a len cap at_ l er 1 n H.out).mono ?_
  rintro e w1 ⟨a1, rfl, hl1, hc1, hg1, hs1⟩
  have HL1 := hid hl1
  have HC1 := hid hc1
  have HG1 := hid hg1
  have HS1 := hid hs1
  clear hl1 hc1 hg1 hs1
  generalize hm : rdN 1 n (len - at_) er = m at *
  generalize he : rdE 1 n (len - at_) er = er' at *
  have HM := hid hm
  have HE := hid he
  clear hm he
  go_wp2_with fail
  refine (over_own _ _ _ _ _ HL1.out ho.out (by omega)).mono ?_
  rintro e w2 ⟨c2, a2, cap2, rfl, hc2, hb2, hlo2, hhi2, hap⟩
  have HC2 := hid hc2
  have HB2 := hid hb2
  have HAP := hid hap
  clear hap
  have hcc := HC1.out.below HB2.out
  have HCC := hid hcc
  have h2 := hcc.cell2
  clear hc2 hb2 hcc
  go_wp2_with fail
  refine (err_any _ _ _ h2).mono ?_
  rintro e w2 ⟨rfl, rfl⟩
  go_wp2_with fail
  refine (spoil_now _ c2 a2 m cap2 0 _ er' HC2.out).mono ?_
  rintro e w3 ⟨rfl, hc4, hg4, hs4⟩
  have HC4 := hid hc4
  have HG4 := hid hg4
  clear hc4 hg4 hs4
  go_wp2
  go_ret
  have hlt1 : c < w1.heap.size := HC1.out.lt
  rw [HM.out, HE.out]
  refine ⟨c2, a2, cap2, rfl, HC4.out, HCC.out.grown HC2.out.noU8 (by omega) HG4.out, ?_, by have := HS1.out; omega, ?_⟩
  rotate_left
  · have := HAP.out.kept HG4.out (.inr (own_row HAP.out HC2.out.block (by decide)))
    rw [HS1.out] at this
    exact this
  have hb3 : Below w1.heap.size w1 w3 := Below.grown HB2.out HG4.out HB2.out.size (fun k hk => by cases hk; exact hlo2)
  exact grownBy_below HG1.out hb3

/-- A reader, its cursor and an option in memory. -/
structure RdAt (base : Nat) (w wr : World) (p c g : Nat) (gv : Value) (a : Option Addr) (len cap : Nat) (l : List Int) (at_ : Nat) (er : Int) (o : Ov) : Prop where
  r : Row wr p 72 #[.pointer (some ⟨c, 0, none⟩), gv]
  cur : CurAt wr c a len cap l at_ er
  win : wr.ownsRow base 5 1 (.slice a len cap) len (u8s l)
  row : Row wr g 43 o.cs
  own : Own2 base wr o
  below : Below base w wr
  hc : base ≤ c
  hg : base ≤ g
theorem CurAt.row {w : World} {c : Nat} {a : Option Addr} {len cap : Nat} {l : List Int} {at_ : Nat} {er : Int} (h : CurAt w c a len cap l at_ er) : Row w c 92 #[.slice a len cap, .int .i64 at_, .int .i64 er] := h.block
theorem Row.ne {w : World} {b d : Nat} {t u : TypeId} {cs ds : Array Value} (h : Row w b t cs) (k : Row w d u ds) (hne : t ≠ u) : b ≠ d := by
  intro e
  subst e
  rw [Row] at h k
  rw [h] at k
  simp at k
  exact hne k.2
theorem Own2.row {base g : Nat} {w w' : World} {o : Ov} {t : TypeId} {cs : Array Value} (h : Own2 base w o) (hr : Row w g t cs) (h3 : (3 : TypeId) ≠ t) (h5 : (5 : TypeId) ≠ t) (hg : w.grownBy w' (some g)) : Own2 base w' o :=
  ⟨h.n.kept hg (.inr (own_row h.n hr h3)), h.nn, h.ad, h.t.kept hg (.inr (own_row h.t hr h5)), h.tn, h.oct⟩
theorem CurAt.other {w w' : World} {c : Nat} {d : Option Nat} {a : Option Addr} {len cap : Nat} {l : List Int} {at_ : Nat} {er : Int} (h : CurAt w c a len cap l at_ er) (hcd : some c ≠ d) (ha : ∀ ad, a = some ad → some ad.block ≠ d) (hg : w.grownBy w' d) : CurAt w' c a len cap l at_ er :=
  ⟨(hg.block c h.lt hcd).trans h.block, ⟨h.lies.1, h.lies.2.1, h.lies.2.2.1, h.lies.2.2.2.1, fun k hk => by
    obtain ⟨b, off, he, hc⟩ := h.lies.2.2.2.2 k hk
    exact ⟨b, off, he, hg.cell hc (ha ⟨b, off, none⟩ he)⟩⟩, h.oct, h.le, h.small⟩
section
variable {base : Nat} {w wr w' : World} {p c g : Nat} {gv : Value} {a : Option Addr} {len cap : Nat} {l : List Int} {at_ : Nat} {er : Int} {o : Ov}
theorem RdAt.on (h : RdAt base w wr p c g gv a len cap l at_ er o) (hb : Below wr.heap.size wr w') : RdAt base w w' p c g gv a len cap l at_ er o :=
  ⟨h.r.below hb, h.cur.below hb, own_below h.win hb, h.row.below hb, h.own.below hb, h.below.trans (hb.mono (Nat.le_of_lt (Nat.lt_of_le_of_lt h.hc h.cur.lt))), h.hc, h.hg⟩
theorem RdAt.drewN (h : RdAt base w wr p c g gv a len cap l at_ er o) (q : Nat) : RdAt base w (wr.drewN q) p c g gv a len cap l at_ er o := h.on (bdrew (Below.refl _ _) q)
theorem RdAt.size (h : RdAt base w wr p c g gv a len cap l at_ er o) : base ≤ wr.heap.size := Nat.le_of_lt (Nat.lt_of_le_of_lt h.hc h.cur.lt)
theorem RdAt.read (h : RdAt base w wr p c g gv a len cap l at_ er o) {at2 : Nat} {er2 : Int} (hc : CurAt w' c a len cap l at2 er2) (hg : wr.grownBy w' (some c)) : RdAt base w w' p c g gv a len cap l at2 er2 o :=
  ⟨h.r.kept hg (fun e => h.r.ne h.cur.row (by decide) (Option.some.inj e)), hc, h.win.kept hg (.inr (own_row h.win h.cur.row (by decide))), h.row.kept hg (fun e => h.row.ne h.cur.row (by decide) (Option.some.inj e)), h.own.row h.cur.row (by decide) (by decide) hg,
    Below.grown h.below hg h.size (fun k hk => by cases hk; exact h.hc), h.hc, h.hg⟩
theorem RdAt.wrote (h : RdAt base w wr p c g gv a len cap l at_ er o) {o2 : Ov} (hr : Row w' g 43 o2.cs) (hg : wr.grownBy w' (some g)) (ho : Own2 base w' o2) : RdAt base w w' p c g gv a len cap l at_ er o2 :=
  ⟨h.r.kept hg (fun e => h.r.ne h.row (by decide) (Option.some.inj e)), h.cur.other (fun e => h.cur.row.ne h.row (by decide) (Option.some.inj e)) (fun ad e => by have := own_row h.win h.row (by decide); rw [e] at this; exact this) hg, h.win.kept hg (.inr (own_row h.win h.row (by decide))), hr, ho,
    Below.grown h.below hg h.size (fun k hk => by cases hk; exact h.hg), h.hc, h.hg⟩
/-- The address is copied. -/
theorem RdAt.setA (h : RdAt base w wr p c g gv a len cap l at_ er o) (F : List Int) (hF : Adr F) : RdAt base w (wr.setRow g (o.setA F).cs) p c g gv a len cap l at_ er (o.setA F) := by
  have hg := grownBy_setRow wr g (o.setA F).cs
  have h2 := h.own.row h.row (by decide) (by decide) hg
  exact h.wrote (h.row.setRow _) hg ⟨h2.n, h2.nn, hF, h2.t, h2.tn, h2.oct⟩
/-- A list of numbers of the call's own is laid in. -/
theorem RdAt.setN (h : RdAt base w wr p c g gv a len cap l at_ er o) (na : Option Addr) (nc : Nat) (L : List Int) (hn : wr.ownsRow base 3 1 (.slice na L.length nc) L.length (i64s L)) : RdAt base w (wr.setCell ⟨g, 1, none⟩ (.slice na L.length nc)) p c g gv a len cap l at_ er (o.setN ⟨na, L.length, nc, L⟩) := by
  have hg := grownBy_setCell wr g 1 (.slice na L.length nc)
  have h2 := h.own.row h.row (by decide) (by decide) hg
  refine h.wrote ?_ hg ⟨hn.kept hg (.inr (own_row hn h.row (by decide))), rfl, h2.ad, h2.t, h2.tn, h2.oct⟩
  rw [← Ov.set1]
  exact h.row.set 1 _
theorem RdAt.setT (h : RdAt base w wr p c g gv a len cap l at_ er o) (na : Option Addr) (nc : Nat) (L : List Int) (hn : wr.ownsRow base 5 1 (.slice na L.length nc) L.length (u8s L)) (hO : Oct L) : RdAt base w (wr.setCell ⟨g, 18, none⟩ (.slice na L.length nc)) p c g gv a len cap l at_ er (o.setT ⟨na, L.length, nc, L⟩) := by
  have hg := grownBy_setCell wr g 18 (.slice na L.length nc)
  have h2 := h.own.row h.row (by decide) (by decide) hg
  refine h.wrote ?_ hg ⟨h2.n, h2.nn, h2.ad, hn.kept hg (.inr (own_row hn h.row (by decide))), rfl, hO⟩
  rw [← Ov.set18 h.own.ad]
  exact h.row.set 18 _
/-- An append onto the option's numbers. -/
theorem RdAt.grow (h : RdAt base w wr p c g gv a len cap l at_ er o) (hg : wr.grownBy w' o.n.v.ownBlock) : Row w' p 72 #[.pointer (some ⟨c, 0, none⟩), gv] ∧ CurAt w' c a len cap l at_ er ∧ w'.ownsRow base 5 1 (.slice a len cap) len (u8s l) ∧ Row w' g 43 o.cs ∧ w'.ownsRow base 5 1 o.t.v o.t.l.length (u8s o.t.l) ∧ Below base w w' := by
  have hw := own_apart h.win h.own.n (by decide)
  have ht := own_apart h.own.t h.own.n (by decide)
  refine ⟨h.r.kept hg (fun e => own_row h.own.n h.r (by decide) e.symm), h.cur.other (fun e => own_row h.own.n h.cur.row (by decide) e.symm) ?_ hg, h.win.kept hg hw, h.row.kept hg (fun e => own_row h.own.n h.row (by decide) e.symm), h.own.t.kept hg ht,
    Below.grown h.below hg h.size (fun k hk => (h.own.n.lt k hk).1)⟩
  intro ad e
  rcases hw with hw | hw
  · rw [e] at hw; simp [Value.ownBlock] at hw
  · rw [e] at hw; exact hw
/-- An append onto the option's numbers: the row that it writes. -/
theorem RdAt.app (h : RdAt base w wr p c g gv a len cap l at_ er o) (hg : wr.grownBy w' o.n.v.ownBlock) : Row w' p 72 #[.pointer (some ⟨c, 0, none⟩), gv] ∧ Row w' g 43 o.cs :=
  ⟨h.r.kept hg (fun e => own_row h.own.n h.r (by decide) e.symm), h.row.kept hg (fun e => own_row h.own.n h.row (by decide) e.symm)⟩
end
/-- n bytes, which are there. -/
theorem bytes_n (w : World) (c : Nat) (a : Option Addr) (len cap at_ : Nat) (l : List Int) (n : Nat) (h : CurAt w c a len cap l at_ 0) (hn : at_ + n ≤ len) :
    Calls Tryd.prog 67 #[.pointer (some ⟨c, 0, none⟩), .int .i64 n] w fun e w' => ∃ b cp, e = .returned (.slice b n cp) ∧
      Lies .u8 w' b n cp ((l.drop at_).take n) ∧ CurAt w' c a len cap l (at_ + n) 0 ∧ w.grownBy w' (some c) := by
  obtain ⟨hE, hN⟩ := rd_b n len at_ hn
  have hll := h.lies.1
  have hdl : ((l.drop at_).take n).length = n := by rw [List.length_take, List.length_drop]; omega
  have := bytes_any w c a len cap at_ l 0 n h
  rw [hE, hN] at this
  refine this.mono ?_
  rintro e w' ⟨v, rfl, hown, hc, hg⟩
  have hown' := ownsRow_u8 hown hdl.symm rfl
  obtain ⟨b, cp, rfl, hl, _⟩ := owns_lies hown'
  rw [hdl] at hl ⊢
  exact ⟨b, cp, rfl, hl, hc, hg⟩
/-- A number, which is there. -/
theorem take_n (w : World) (c : Nat) (a : Option Addr) (len cap at_ : Nat) (l : List Int) (size : Int) (h : CurAt w c a len cap l at_ 0) (hz : sizeB size = true) (hn : (at_ : Int) + size ≤ len) :
    Calls Tryd.prog 51 #[.pointer (some ⟨c, 0, none⟩), .int .i64 size] w fun e w' => e = .returned (.int .i64 (numOf ((l.drop at_).take size.toNat))) ∧
      CurAt w' c a len cap l (at_ + size.toNat) 0 ∧ w.grownBy w' (some c) ∧ w'.heap.size = w.heap.size := by
  obtain ⟨hE, hN⟩ := rd_n size len at_ hz hn
  have := take_any w c a len cap at_ l 0 size h
  rw [takeV, hE, hN] at this
  exact this
end Go.Proofs.YtbgogeojdibmkaaDoor
