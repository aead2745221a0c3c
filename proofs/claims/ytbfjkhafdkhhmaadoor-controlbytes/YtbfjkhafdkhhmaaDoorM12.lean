/- What the rows' lists give, and how options that came in are opened. · The document's answer: a kind's letters; Parts, Word, size. · What the document's own Digits answers: contracts. · The document's answer: Check. -/
import Derived.Test.YtbfjkhafdkhhmaaDoorM6
import Derived.Test.YtbfjkhafdkhhmaaDoorCards
import Derived.Test.YtbfjkhafdkhhmaaDoorTie
import Derived.Deep.DeepHandedRow
import Derived.Lib.LaidTab
import Derived.Stop.LaidErr
import Derived.LaidLaws
import Derived.ChangeOld
import Derived.Carry
import Derived.Test.YtbfjkhafdkhhmaaDoorM3
namespace Go.Proofs.YtbfjkhafdkhhmaaDoor
open Go.ChangeShapes Go.WideShapes Go.ChangeAt Go.RowKit Go.Deep
set_option linter.unusedVariables false
set_option linter.unusedSimpArgs false
set_option maxRecDepth 100000

theorem g0 : Tryd.prog.globalNamed "rivulet/option.shapes" = some 1 := by kernel_rfl
theorem gt0 : (Tryd.prog.globals[1]?).map (·.type) = some 158 := by kernel_rfl
theorem u63 : Tryd.prog.underlying 158 = some (.array 10 157) := by kernel_rfl
theorem u62 : Tryd.prog.underlying 157 = some (.struct (Tryd.prog.fieldsOf 157)) := by kernel_rfl
theorem u87 : Tryd.prog.underlying 160 = some (.struct (Tryd.prog.fieldsOf 160)) := by kernel_rfl
theorem u60 : Tryd.prog.underlying 154 = some (.slice 160) := by kernel_rfl
theorem c62 : Tryd.prog.cellsOf 157 = 4 := by kernel_rfl
theorem c63 : Tryd.prog.cellsOf 158 = 40 := by kernel_rfl
theorem c87 : Tryd.prog.cellsOf 160 = 2 := by kernel_rfl
theorem c60 : Tryd.prog.cellsOf 154 = 1 := by kernel_rfl
theorem c9 : Tryd.prog.cellsOf 9 = 1 := by kernel_rfl
theorem c4 : Tryd.prog.cellsOf 4 = 1 := by kernel_rfl
theorem c3o : Tryd.prog.cellsOf 3 = 1 := by kernel_rfl
theorem fs62 : (Tryd.prog.fieldsOf 157).toList.map (fun f => (f.type, f.offset)) = [(9, 0), (154, 1), (4, 2), (4, 3)] := by kernel_rfl
theorem fs87 : (Tryd.prog.fieldsOf 160).toList.map (fun f => (f.type, f.offset)) = [(3, 0), (3, 1)] := by kernel_rfl

/-- The fields of a struct, each read by itself. -/
theorem fields_of {H : Type} {enc : TypeId × Value → H} {W : World} {held : Bool} {fuel : Nat} {t : TypeId} {cs : List Value} {x : DataW H × List MemPlace} (hu : Tryd.prog.underlying t = some (.struct (Tryd.prog.fieldsOf t)))
    (l : List (TypeId × Nat)) (hl : (Tryd.prog.fieldsOf t).toList.map (fun f => (f.type, f.offset)) = l) (h : DataW.trod enc Tryd.prog W 0 (fun _ => true) held fuel t cs = some x) :
    ∃ (xs : List (DataW H × List MemPlace)) (n : Nat), x = (.agg (xs.map (·.1)), xs.flatMap (·.2)) ∧ cs.length = Tryd.prog.cellsOf t ∧ xs.length = l.length ∧
      ∀ (i : Nat) (ty : TypeId) (o : Nat), l[i]? = some (ty, o) → DataW.trod enc Tryd.prog W 0 (fun _ => true) held n ty ((cs.drop o).take (Tryd.prog.cellsOf ty)) = xs[i]? := by
  obtain ⟨xs, n, _, hx, hlen, hxl, hall⟩ := DataW.trod_struct hu h
  have hsz : (Tryd.prog.fieldsOf t).size = l.length := by have := congrArg List.length hl; simpa using this
  refine ⟨xs, n, hx, hlen, hxl.trans hsz, ?_⟩
  intro i ty o he
  have hi : i < (Tryd.prog.fieldsOf t).size := by rw [hsz]; exact (List.getElem?_eq_some_iff.1 he).1
  have e1 := congrArg (·[i]?) hl
  simp only [List.getElem?_map, he] at e1
  have e2 : (Tryd.prog.fieldsOf t).toList[i]? = some (Tryd.prog.fieldsOf t)[i] := by simp [hi]
  rw [e2] at e1
  simp only [Option.map_some, Option.some.injEq, Prod.mk.injEq] at e1
  have := hall i _ (Array.getElem?_eq_getElem hi)
  rw [e1.1, e1.2] at this
  exact this

/-- A part as a datum. -/
def pd {H : Type} (p : Int × Int) : DataW H := .agg [.lit (.int .i64 p.1), .lit (.int .i64 p.2)]
def pdat {H : Type} (l : List (Int × Int)) : DataW H := match l with | [] => .nil | _ => .slice (l.map pd) []
theorem pd_inj {H : Type} (p q : Int × Int) (h : (pd p : DataW H) = pd q) : p = q := by
  simp [pd] at h; exact Prod.ext h.1 h.2
theorem part_of {H : Type} {enc : TypeId × Value → H} {W : World} {held : Bool} {fuel : Nat} {cs : List Value} {x : DataW H × List MemPlace} (h : DataW.trod enc Tryd.prog W 0 (fun _ => true) held fuel 160 cs = some x) :
    ∃ p : Int × Int, cs = [.int .i64 p.1, .int .i64 p.2] ∧ x.1 = pd p := by
  obtain ⟨xs, n, rfl, hlen, hxl, hall⟩ := fields_of u87 _ fs87 h
  rw [c87] at hlen
  match xs, hxl, cs, hlen with
  | [y0, y1], _, [v0, v1], _ =>
    have h0 := hall 0 3 0 rfl
    have h1 := hall 1 3 1 rfl
    rw [c3o] at h0 h1
    simp at h0 h1
    obtain ⟨z0, e0, f0, _⟩ := DataW.trod_int Tryd.underlying3 h0
    obtain ⟨z1, e1, f1, _⟩ := DataW.trod_int Tryd.underlying3 h1
    simp at e0 e1
    subst e0; subst e1
    refine ⟨(z0, z1), rfl, ?_⟩
    simp [pd, f0, f1]
theorem parts_of {H : Type} {enc : TypeId × Value → H} {W : World} {held : Bool} {fuel : Nat} {cs : List Value} {x : DataW H × List MemPlace} (l : List (Int × Int)) (h : DataW.trod enc Tryd.prog W 0 (fun _ => true) held fuel 154 cs = some x) (hx : x.1 = pdat l) :
    ∃ a n cap, cs = [.slice a n cap] ∧ PLies W.heap.size W a n cap l := by
  rcases open_slice u60 h with ⟨hcs, rfl⟩ | ⟨ad, len, cap, m, n, D, Pl, hcs, _, hl, hm, hmm, rfl, hall⟩
  · match l, hx with
    | [], _ => exact ⟨none, 0, 0, hcs, rfl, Nat.le_refl _, by decide, fun i hi => by omega⟩
    | p :: l, hx => simp [pdat] at hx
  · match l, hx with
    | [], hx => simp [pdat] at hx
    | p :: l, hx =>
      generalize p :: l = L at *
      have hx : (DataW.slice ((List.range len).map D) ((List.range (m - len)).map fun j => D (len + j)) : DataW H) = .slice (L.map pd) [] := by
        simp only [pdat] at hx
        split at hx
        · cases hx
        · exact hx
      injection hx with hx1 _
      have hlen : L.length = len := by have := congrArg List.length hx1; simpa using this.symm
      have hspot : len ≠ 0 → ad.spot = none := by
        intro h0
        obtain ⟨cs', h1, h2⟩ := hall 0 (by simp at hmm; omega)
        rw [c87] at h1
        obtain ⟨_, hl2, hc⟩ := World.cells?_some h1
        have e0 := hc 0 (by omega)
        rw [List.getElem?_eq_getElem (by omega)] at e0
        exact World.cell?_spot (by simpa [Addr.add] using e0)
      obtain ⟨b, off, spot⟩ := ad
      refine ⟨some ⟨b, off, spot⟩, len, cap, hcs, hlen, hl, hm, fun i hi => ?_⟩
      have hs := hspot (by omega)
      simp only at hs
      subst hs
      obtain ⟨cs', h1, h2⟩ := hall i (by simp at hmm; omega)
      rw [c87] at h1
      obtain ⟨_, hl2, hc⟩ := World.cells?_some h1
      obtain ⟨q, rfl, hq⟩ := part_of h2
      have hDi : D i = pd (L.getD i (0, 0)) := by
        have := congrArg (·[i]?) hx1
        simp only [List.getElem?_map, List.getElem?_range hi, Option.map_some] at this
        rw [List.getElem?_eq_getElem (by omega)] at this
        simp only [Option.map_some, Option.some.injEq] at this
        rw [this]; simp [show i < L.length by omega]
      have hqq : q = L.getD i (0, 0) := pd_inj _ _ (hq.symm.trans hDi)
      subst hqq
      have e0 := hc 0 (by omega)
      have e1 := hc 1 (by omega)
      simp only [Addr.add_lit, Nat.add_zero, List.getElem?_cons_zero, List.getElem?_cons_succ] at e0 e1
      exact ⟨b, off, rfl, World.block_lt_of_cell? W _ e0, e0, e1⟩
/-- A kind as a datum. -/
def shD {H : Type} (k : Nat) : DataW H := .agg [.lit (.string (wrd k).data.toList), pdat (prt k), .lit (.bool (zer k)), .lit (.bool (txb k))]
theorem laid_eq : (Rows.laid_rivulet_option_shapes : DataW Unit) = .agg ((List.range 10).map shD) := by kernel_rfl
theorem shape_of {enc : TypeId × Value → Unit} {W : World} {held : Bool} {fuel : Nat} {cs : List Value} {x : DataW Unit × List MemPlace} (k : Nat) (h : DataW.trod enc Tryd.prog W 0 (fun _ => true) held fuel 157 cs = some x) (hx : x.1 = shD k) :
    ∃ a n cap, cs = [.string (wrd k), .slice a n cap, .bool (zer k), .bool (txb k)] ∧ PLies W.heap.size W a n cap (prt k) := by
  obtain ⟨xs, n, rfl, hlen, hxl, hall⟩ := fields_of u62 _ fs62 h
  rw [c62] at hlen
  match xs, hxl, cs, hlen with
  | [y0, y1, y2, y3], _, [v0, v1, v2, v3], _ =>
    have h0 := hall 0 9 0 rfl
    have h1 := hall 1 154 1 rfl
    have h2 := hall 2 4 2 rfl
    have h3 := hall 3 4 3 rfl
    rw [c9] at h0
    rw [c60] at h1
    rw [c4] at h2 h3
    simp at h0 h1 h2 h3
    simp [shD] at hx
    obtain ⟨s, e0, f0, _⟩ := DataW.trod_string Tryd.underlying9 h0
    obtain ⟨a, m, cap, e1, hP⟩ := parts_of (prt k) h1 hx.2.1
    obtain ⟨b2, e2, f2⟩ := DataW.trod_bool Tryd.underlying4 h2
    obtain ⟨b3, e3, f3⟩ := DataW.trod_bool Tryd.underlying4 h3
    simp at e0 e1 e2 e3
    subst e0; subst e1; subst e2; subst e3
    rw [f0, f2, f3] at hx
    simp at hx
    obtain ⟨q0, _, q2, q3⟩ := hx
    refine ⟨a, m, cap, ?_, hP⟩
    have hs : s = wrd k := by
      have : s.data = (wrd k).data := by simpa using q0
      cases s; cases hw : wrd k; simp_all
    rw [hs, q2, q3]
theorem vars_of {W : World} (h : laidMetH Tryd.prog Rows.controlTellsRow.laid W) : Vars W.heap.size W := by
  have h : laidMet Tryd.prog [("rivulet/option.shapes", Rows.laid_rivulet_option_shapes), ("rivulet/control.shapes", Rows.laid_rivulet_control_shapes)] W := h
  obtain ⟨ps, ⟨g, t, cs, fuel, p, q, hg, ht, hvar, hd, _, _⟩, _⟩ := h
  obtain rfl := Option.some.inj (g0.symm.trans hg)
  obtain rfl := Option.some.inj (gt0.symm.trans ht)
  rw [laid_eq] at hd
  obtain ⟨xs, m, _, hx, hlen, hxl, hall⟩ := DataW.trod_array u63 hd
  have hx1 : (DataW.agg ((List.range 10).map shD) : DataW Unit) = .agg (xs.map (·.1)) := congrArg Prod.fst hx
  injection hx1 with hx1
  rw [c63] at hlen
  rw [c62] at hall
  have key : ∀ k, k < 10 → ∃ a n cap, (cs.toList.drop (k * 4)).take 4 = [.string (wrd k), .slice a n cap, .bool (zer k), .bool (txb k)] ∧ PLies W.heap.size W a n cap (prt k) := by
    intro k hk
    have h1 := hall k hk
    rw [List.getElem?_eq_getElem (by omega)] at h1
    refine shape_of k h1 ?_
    have := congrArg (·[k]?) hx1
    simp only [List.getElem?_map, List.getElem?_range hk, Option.map_some] at this
    rw [List.getElem?_eq_getElem (by omega)] at this
    simpa using this.symm
  have cell : ∀ k j v, k < 10 → j < 4 → ((cs.toList.drop (k * 4)).take 4)[j]? = some v → W.cell? ⟨1, k * 4 + j, none⟩ = some v := by
    intro k j v hk hj hv
    have h0 := World.var?_cell g0 hvar (k * 4 + j)
    rw [h0]
    rw [List.getElem?_take, if_pos hj, List.getElem?_drop] at hv
    simpa using hv
  have c0 : W.cell? ⟨1, 0, none⟩ = some (.string (wrd 0)) := by
    obtain ⟨a, n, cap, e, _⟩ := key 0 (by decide)
    exact cell 0 0 _ (by decide) (by decide) (by rw [e]; rfl)
  refine ⟨World.block_lt_of_cell? W _ c0, Nat.le_refl _, fun k hk => ?_, fun k hk => ?_, fun k hk => ?_, fun k hk => ?_⟩
  · obtain ⟨a, n, cap, e, _⟩ := key k hk
    exact cell k 0 _ hk (by decide) (by rw [e]; rfl)
  · obtain ⟨a, n, cap, e, hP⟩ := key k hk
    exact ⟨a, n, cap, cell k 1 _ hk (by decide) (by rw [e]; rfl), hP⟩
  · obtain ⟨a, n, cap, e, _⟩ := key k hk
    exact cell k 2 _ hk (by decide) (by rw [e]; rfl)
  · obtain ⟨a, n, cap, e, _⟩ := key k hk
    exact cell k 3 _ hk (by decide) (by rw [e]; rfl)

/-! How options that came in are opened. -/
theorem u38 : Tryd.prog.underlying 57 = some (.struct (Tryd.prog.fieldsOf 57)) := by kernel_rfl
theorem fs38 : (Tryd.prog.fieldsOf 57).toList.map (fun f => (f.type, f.offset)) = [(3, 0), (52, 1), (22, 2), (33, 18)] := by kernel_rfl
theorem c38 : Tryd.prog.cellsOf 57 = 19 := by kernel_rfl
theorem c35 : Tryd.prog.cellsOf 52 = 1 := by kernel_rfl
theorem c36 : Tryd.prog.cellsOf 22 = 16 := by kernel_rfl
theorem c26 : Tryd.prog.cellsOf 33 = 1 := by kernel_rfl
theorem adr_of {H : Type} {enc : TypeId × Value → H} {W : World} {held : Bool} {fuel : Nat} {cs : List Value} {x : DataW H × List MemPlace} (h : DataW.trod enc Tryd.prog W 0 (fun _ => true) held fuel 22 cs = some x) : ∃ l, cs = u8s l ∧ Adr l := by
  obtain ⟨xs, m, _, hx, hlen, hxl, hall⟩ := DataW.trod_array Tryd.underlying22 h
  rw [c36] at hlen
  rw [c5] at hall
  have key : ∀ i, i < 16 → ∃ z, cs[i]? = some (.int .u8 z) ∧ 0 ≤ z ∧ z < 256 := by
    intro i hi
    have h1 := hall i hi
    rw [Nat.mul_one, List.getElem?_eq_getElem (by omega)] at h1
    obtain ⟨z, hz, _, hw⟩ := DataW.trod_int Tryd.underlying5 h1
    have h2 : cs[i]? = some (.int .u8 z) := by
      have := congrArg (·[0]?) hz
      simpa [List.getElem?_take, List.getElem?_drop] using this
    exact ⟨z, h2, wf_u8 hw⟩
  refine ⟨cs.map intOf, ?_, ?_, ?_⟩
  · apply List.ext_getElem?
    intro i
    by_cases hi : i < 16
    · obtain ⟨z, hz, _⟩ := key i hi
      simp only [u8s, List.getElem?_map, hz, Option.map_some, intOf]
    · rw [List.getElem?_eq_none (by omega), List.getElem?_eq_none (by simp [u8s]; omega)]
  · simpa using hlen
  · intro x hx
    simp only [List.mem_map] at hx
    obtain ⟨v, hv, rfl⟩ := hx
    obtain ⟨i, hi, rfl⟩ := List.mem_iff_getElem.1 hv
    obtain ⟨z, hz, h0, h1⟩ := key i (by omega)
    rw [List.getElem?_eq_getElem hi] at hz
    rw [Option.some.inj hz]
    exact ⟨h0, h1⟩
theorem row_of {H : Type} {enc : TypeId × Value → H} {W : World} {held : Bool} {fuel : Nat} {cs : List Value} {x : DataW H × List MemPlace} {t e : TypeId} {kd : IntKind} (ht : Tryd.prog.underlying t = some (.slice e)) (he : Tryd.prog.underlying e = some (.int kd)) (hc : Tryd.prog.cellsOf e = 1)
    (h : DataW.trod enc Tryd.prog W 0 (fun _ => true) held fuel t cs = some x) : ∃ (a : Option Addr) (n cap : Nat) (zs : List Int), cs = [.slice a n cap] ∧ IsRow kd W a n cap zs := by
  rcases open_ints ht he hc h with ⟨hcs, _⟩ | ⟨y, l', c', zs, hcs, _, hl', hm', hz', _, hc', hwz⟩
  · exact ⟨none, 0, 0, [], hcs, .inl ⟨rfl, rfl, rfl, rfl⟩⟩
  · exact ⟨some y, l', c', zs, hcs, .inr ⟨y, rfl, hl', hm', by simpa using hz', hc', hwz⟩⟩
theorem opt_of {H : Type} {enc : TypeId × Value → H} {W : World} {held : Bool} {fuel : Nat} {cs : List Value} {x : DataW H × List MemPlace} (h : DataW.trod enc Tryd.prog W 0 (fun _ => true) held fuel 57 cs = some x) : ∃ o : Ov, cs = o.cs.toList ∧ o.ok W := by
  obtain ⟨xs, n, rfl, hlen, hxl, hall⟩ := fields_of u38 _ fs38 h
  rw [c38] at hlen
  have key : ∀ (i : Nat) (ty : TypeId) (o : Nat), [(3, 0), (52, 1), (22, 2), (33, 18)][i]? = some (ty, o) → ∃ y, DataW.trod enc Tryd.prog W 0 (fun _ => true) held n ty ((cs.drop o).take (Tryd.prog.cellsOf ty)) = some y := by
    intro i ty o he
    have hi : i < 4 := (List.getElem?_eq_some_iff.1 he).1
    have := hall i ty o he
    rw [List.getElem?_eq_getElem (by rw [hxl]; exact hi)] at this
    exact ⟨_, this⟩
  obtain ⟨y0, h0⟩ := key 0 3 0 rfl
  obtain ⟨y1, h1⟩ := key 1 52 1 rfl
  obtain ⟨y2, h2⟩ := key 2 22 2 rfl
  obtain ⟨y3, h3⟩ := key 3 33 18 rfl
  rw [c3o] at h0
  rw [c35] at h1
  rw [c36] at h2
  rw [c26] at h3
  obtain ⟨k, e0, _⟩ := DataW.trod_int Tryd.underlying3 h0
  obtain ⟨na, nl, nc, nz, e1, hr1⟩ := row_of Tryd.underlying52 Tryd.underlying3 c3o h1
  obtain ⟨ad, e2, hA⟩ := adr_of h2
  obtain ⟨ta, tl, tc, tz, e3, hr3⟩ := row_of Tryd.underlying33 Tryd.underlying5 c5 h3
  refine ⟨⟨k, ⟨na, nl, nc, nz.take nl⟩, ad, ⟨ta, tl, tc, tz.take tl⟩⟩, ?_, hr1.lies, hA, hr3.lies, oct_take hr3.oct _⟩
  have s0 : cs = cs.take 1 ++ ((cs.drop 1).take 1 ++ ((cs.drop 2).take 16 ++ (cs.drop 18).take 1)) := by
    have t3 : (cs.drop 18).take 1 = cs.drop 18 := List.take_of_length_le (by simp; omega)
    have t2 : (cs.drop 2).take 16 ++ cs.drop 18 = cs.drop 2 := by
      have := List.take_append_drop 16 (cs.drop 2)
      rwa [List.drop_drop] at this
    have t1 : (cs.drop 1).take 1 ++ cs.drop 2 = cs.drop 1 := by
      have := List.take_append_drop 1 (cs.drop 1)
      rwa [List.drop_drop] at this
    rw [t3, t2, t1, List.take_append_drop]
  rw [List.drop_zero] at e0
  rw [s0, e0, e1, e2, e3]
  simp [Ov.cs, arr, Txt.v]
theorem open_opts {H : Type} {enc : TypeId × Value → H} {W : World} {held : Bool} {a : Option Addr} {len cap : Nat} {d : DataW H} {p : List MemPlace}
    (h : DataW.Trod enc Tryd.prog W 0 (fun _ => true) held 23 (.slice a len cap) d p) : ∃ L, Opts W a len cap L := by
  obtain ⟨fuel, hf⟩ := h
  rcases open_slice Tryd.underlying23 hf with ⟨hcs, _⟩ | ⟨ad, l, c, m, n, D, Pl, hcs, _, hl, hm, hmm, _, hall⟩
  · simp [Value.cells] at hcs
    obtain ⟨rfl, rfl, rfl⟩ := hcs
    exact ⟨[], Opts.none W⟩
  · simp [Value.cells] at hcs
    obtain ⟨rfl, rfl, rfl⟩ := hcs
    have hm' : m = cap := by simpa using hmm
    subst hm'
    rw [c38] at hall
    have key : ∀ i, ∃ o : Ov, i < len → (∀ j, j < 19 → W.cell? ((ad.add (i * 19)).add j) = o.cs[j]?) ∧ o.ok W := by
      intro i
      by_cases hi : i < len
      · obtain ⟨cs', h1, h2⟩ := hall i (by omega)
        obtain ⟨_, hlen, hcell⟩ := World.cells?_some h1
        obtain ⟨o, rfl, hok⟩ := opt_of h2
        exact ⟨o, fun _ => ⟨fun j hj => by rw [hcell j hj]; simp, hok⟩⟩
      · exact ⟨Ov.zero, fun h => absurd h hi⟩
    obtain ⟨f, hf'⟩ := Classical.axiomOfChoice key
    refine ⟨(List.range len).map f, by simp, hl, hm, (fun h => by cases h), ?_, ?_⟩
    · intro k hk
      have hspot : ad.spot = none := by
        have h0 := (hf' 0 (by omega)).1 0 (by decide)
        rw [Ov.at0] at h0
        exact World.cell?_spot (by simpa [Addr.add] using h0)
      obtain ⟨b, off, spot⟩ := ad
      simp at hspot
      subst hspot
      refine ⟨b, off, rfl, ?_⟩
      intro j v hv
      have hA := (hf' k hk).2.ad
      have e : ((List.range len).map f).getD k Ov.zero = f k := by simp [hk]
      rw [e] at hv
      have hj : j < 19 := by have := (Array.getElem?_eq_some_iff.1 hv).1; rw [Ov.size hA] at this; exact this
      have := (hf' k hk).1 j hj
      rw [Addr.add_lit, Addr.add_lit] at this
      rw [this]; exact hv
    · intro o ho
      simp at ho
      obtain ⟨i, hi, rfl⟩ := ho
      exact (hf' i hi).2
end Go.Proofs.YtbfjkhafdkhhmaaDoor

namespace Go.Proofs.YtbfjkhafdkhhmaaDoor
open Go.ChangeShapes Go.WideShapes Go.ChangeAt Go.RowKit Go.Deep
set_option linter.unusedVariables false
set_option linter.unusedSimpArgs false

def chsL : List ByteArray := [⟨#[]⟩, ⟨#[120]⟩, ⟨#[116]⟩, ⟨#[112, 49, 52, 97]⟩, ⟨#[49, 49, 49, 49, 50, 50, 50, 122, 49, 50]⟩, ⟨#[49, 112, 97]⟩, ⟨#[49, 49, 49, 49]⟩, ⟨#[49, 49, 97, 49]⟩, ⟨#[112, 49, 52, 52, 113, 97]⟩, ⟨#[52]⟩]
/-- A kind's letters. -/
def chs (k : Nat) : ByteArray := chsL.getD k ⟨#[]⟩
def lets (n : Int) : ByteArray := if kndB n = true then chs n.toNat else ⟨#[63]⟩
theorem chs_at (k : Nat) (hk : k < 10) : (#[Value.string ⟨#[]⟩, .string ⟨#[120]⟩, .string ⟨#[116]⟩, .string ⟨#[112, 49, 52, 97]⟩, .string ⟨#[49, 49, 49, 49, 50, 50, 50, 122, 49, 50]⟩, .string ⟨#[49, 112, 97]⟩, .string ⟨#[49, 49, 49, 49]⟩, .string ⟨#[49, 49, 97, 49]⟩, .string ⟨#[112, 49, 52, 52, 113, 97]⟩, .string ⟨#[52]⟩] : Array Value)[k]? = some (.string (chs k)) := by
  match k, hk with
  | 0, _ => rfl
  | 1, _ => rfl
  | 2, _ => rfl
  | 3, _ => rfl
  | 4, _ => rfl
  | 5, _ => rfl
  | 6, _ => rfl
  | 7, _ => rfl
  | 8, _ => rfl
  | 9, _ => rfl
theorem wrd_at (k : Nat) (hk : k < 10) : (#[Value.string ⟨#[112, 97, 100]⟩, .string ⟨#[112, 97, 100, 115]⟩, .string ⟨#[109, 101, 116, 114, 105, 99]⟩, .string ⟨#[114, 111, 117, 116, 101]⟩, .string ⟨#[99, 111, 110, 102, 105, 103]⟩, .string ⟨#[116, 97, 114, 103, 101, 116]⟩, .string ⟨#[116, 114, 97, 110, 115, 105, 116]⟩, .string ⟨#[115, 111, 108, 105, 99, 105, 116, 101, 100]⟩, .string ⟨#[112, 114, 101, 102, 105, 120]⟩, .string ⟨#[100, 101, 115, 99, 114, 105, 112, 116, 111, 114]⟩] : Array Value)[k]? = some (.string (wrd k)) := by
  match k, hk with
  | 0, _ => rfl
  | 1, _ => rfl
  | 2, _ => rfl
  | 3, _ => rfl
  | 4, _ => rfl
  | 5, _ => rfl
  | 6, _ => rfl
  | 7, _ => rfl
  | 8, _ => rfl
  | 9, _ => rfl
set_option maxHeartbeats 400000 in
theorem parts_any (n : Int) (w : World) : Calls Tryd.prog 69 #[.int .i64 n] w fun e w' => e = .returned (.string (lets n)) ∧ Below w.heap.size w w' := by
  have B0 := hid (balloc (Below.refl w.heap.size w) (.cells #[Value.string ⟨#[]⟩, .string ⟨#[120]⟩, .string ⟨#[116]⟩, .string ⟨#[112, 49, 52, 97]⟩, .string ⟨#[49, 49, 49, 49, 50, 50, 50, 122, 49, 50]⟩, .string ⟨#[49, 112, 97]⟩, .string ⟨#[49, 49, 49, 49]⟩, .string ⟨#[49, 49, 97, 49]⟩, .string ⟨#[112, 49, 52, 52, 113, 97]⟩, .string ⟨#[52]⟩] 146))
  have R0 := hid (Row.new w 146 #[Value.string ⟨#[]⟩, .string ⟨#[120]⟩, .string ⟨#[116]⟩, .string ⟨#[112, 49, 52, 97]⟩, .string ⟨#[49, 49, 49, 49, 50, 50, 50, 122, 49, 50]⟩, .string ⟨#[49, 112, 97]⟩, .string ⟨#[49, 49, 49, 49]⟩, .string ⟨#[49, 49, 97, 49]⟩, .string ⟨#[112, 49, 52, 52, 113, 97]⟩, .string ⟨#[52]⟩])
  cases hk : kndB n
  · have HV : Hid (lets n = ⟨#[63]⟩) := by simp [Hid, lets, hk]
    have hn : n < 0 ∨ 9 < n := by simp [kndB] at hk; omega
    rcases hn with hn | hn
    · have e0 : decide (n < 0) = true := decide_eq_true hn
      go_enter Tryd.func69, Tryd.ntmps69
      go_upto_region 2 with fail
      generalize w.alloc (.cells #[Value.string ⟨#[]⟩, .string ⟨#[120]⟩, .string ⟨#[116]⟩, .string ⟨#[112, 49, 52, 97]⟩, .string ⟨#[49, 49, 49, 49, 50, 50, 50, 122, 49, 50]⟩, .string ⟨#[49, 112, 97]⟩, .string ⟨#[49, 49, 49, 49]⟩, .string ⟨#[49, 49, 97, 49]⟩, .string ⟨#[112, 49, 52, 52, 113, 97]⟩, .string ⟨#[52]⟩] 146) = w1 at *
      go_wp2_with fail
      go_ret
      exact ⟨ret_str HV.out.symm, B0.out⟩
    · have e0 : decide (n < 0) = false := decide_eq_false (by omega)
      have e1 : decide (9 < n) = true := decide_eq_true hn
      go_enter Tryd.func69, Tryd.ntmps69
      go_upto_region 2 with fail
      generalize w.alloc (.cells #[Value.string ⟨#[]⟩, .string ⟨#[120]⟩, .string ⟨#[116]⟩, .string ⟨#[112, 49, 52, 97]⟩, .string ⟨#[49, 49, 49, 49, 50, 50, 50, 122, 49, 50]⟩, .string ⟨#[49, 112, 97]⟩, .string ⟨#[49, 49, 49, 49]⟩, .string ⟨#[49, 49, 97, 49]⟩, .string ⟨#[112, 49, 52, 52, 113, 97]⟩, .string ⟨#[52]⟩] 146) = w1 at *
      go_wp2_with fail
      go_ret
      exact ⟨ret_str HV.out.symm, B0.out⟩
  · obtain ⟨k, rfl, hk10⟩ := knd_nat hk
    have HV : Hid (lets k = chs k) := by simp [Hid, lets, hk]
    have e0 : decide ((k : Int) < 0) = false := decide_eq_false (by omega)
    have e1 : decide ((9 : Int) < (k : Int)) = false := decide_eq_false (by omega)
    have e2 : decide (9 < k) = false := decide_eq_false (by omega)
    have hk10' : (k : Int) < 10 := by omega
    clear hk
    go_enter Tryd.func69, Tryd.ntmps69
    go_upto_region 2 with fail
    generalize w.alloc (.cells #[Value.string ⟨#[]⟩, .string ⟨#[120]⟩, .string ⟨#[116]⟩, .string ⟨#[112, 49, 52, 97]⟩, .string ⟨#[49, 49, 49, 49, 50, 50, 50, 122, 49, 50]⟩, .string ⟨#[49, 112, 97]⟩, .string ⟨#[49, 49, 49, 49]⟩, .string ⟨#[49, 49, 97, 49]⟩, .string ⟨#[112, 49, 52, 52, 113, 97]⟩, .string ⟨#[52]⟩] 146) = w1 at *
    have ck := (R0.out.cell k).trans (chs_at k hk10)
    go_wp2_with fail
    go_ret
    exact ⟨ret_str HV.out.symm, B0.out⟩
/-- A letter's bytes, if it is a number. -/
def szc (c : Int) : Int := if c = 49 ∨ c = 112 ∨ c = 122 ∨ c = 120 then 1 else if c = 50 then 2 else if c = 52 ∨ c = 113 then 4 else 0
set_option maxHeartbeats 800000 in
theorem rsize_any (c : Int) (w : World) : Calls Tryd.prog 75 #[.int .u8 c] w fun e w' => e = .returned (.int .i64 (szc c)) ∧ w' = w := by
  have key : ∀ b1 b2 b3 b4 b5 b6 b7 : Bool, (c == 49) = b1 → (c == 112) = b2 → (c == 122) = b3 → (c == 120) = b4 → (c == 50) = b5 → (c == 52) = b6 → (c == 113) = b7 → szc c = (if (b1 || (b2 || (b3 || b4))) = true then 1 else if b5 = true then 2 else if (b6 || b7) = true then 4 else 0) → Calls Tryd.prog 75 #[.int .u8 c] w fun e w' => e = .returned (.int .i64 (szc c)) ∧ w' = w := by
    intro b1 b2 b3 b4 b5 b6 b7 h1 h2 h3 h4 h5 h6 h7 hs
    have HS := hid hs
    generalize szc c = s at *
    clear hs
    cases b1
    · cases b2
      · cases b3
        · cases b4
          · cases b5
            · cases b6
              · cases b7
                all_goals (go_enter Tryd.func75, Tryd.ntmps75; go_wp2; go_ret; exact ⟨ret_int HS.out.symm, rfl⟩)
              · go_enter Tryd.func75, Tryd.ntmps75; go_wp2; go_ret; exact ⟨ret_int HS.out.symm, rfl⟩
            · go_enter Tryd.func75, Tryd.ntmps75; go_wp2; go_ret; exact ⟨ret_int HS.out.symm, rfl⟩
          · go_enter Tryd.func75, Tryd.ntmps75; go_wp2; go_ret; exact ⟨ret_int HS.out.symm, rfl⟩
        · go_enter Tryd.func75, Tryd.ntmps75; go_wp2; go_ret; exact ⟨ret_int HS.out.symm, rfl⟩
      · go_enter Tryd.func75, Tryd.ntmps75; go_wp2; go_ret; exact ⟨ret_int HS.out.symm, rfl⟩
    · go_enter Tryd.func75, Tryd.ntmps75; go_wp2; go_ret; exact ⟨ret_int HS.out.symm, rfl⟩
  refine key _ _ _ _ _ _ _ rfl rfl rfl rfl rfl rfl rfl ?_
  unfold szc
  simp only [Bool.or_eq_true, beq_iff_eq]
end Go.Proofs.YtbfjkhafdkhhmaaDoor

namespace Go.Proofs.YtbfjkhafdkhhmaaDoor
open Go.ChangeShapes Go.WideShapes Go.ChangeAt Go.RowKit
set_option linter.unusedVariables false
set_option linter.unusedSimpArgs false

set_option maxHeartbeats 1000000 in
theorem digits1 (n : Int) (w : World) (h0 : 0 ≤ n) (h63 : n ≤ 9223372036854775807) :
    Calls Tryd.prog 76 #[.int .i64 1, .int .i64 n] w fun e w' => e = .returned (.tuple #[.slice (some ⟨w.heap.size, 0, none⟩) 1 1, .bool (okB 1 n)]) ∧ w' = w.alloc (.cells (u8s (digs 1 n)).toArray 5) := by
  have hmk : ∀ w, (Instr.makeSlice 33 (.int .i64 1) (.int .i64 1)).run Tryd.prog w = .ok (.slice (some ⟨w.heap.size, 0, none⟩) 1 1) (w.alloc (.cells #[.int .u8 0] 5)) := fun _ => by kernel_rfl
  have hn : decide (n < 0) = false := by simp; omega
  have HD : Hid ((u8s (digs 1 n)).toArray = #[.int .u8 (n % 256)]) := by simp [Hid, u8s, digs]
  have HK : Hid (okB 1 n = (n / 256 == 0)) := by
    rw [Hid, Bool.eq_iff_iff]; simp [okB, top]; omega
  go_enter Tryd.func76, Tryd.ntmps76
  go_wp2
  refine wp_loop_rounds 2 ?_
  repeat (rw [rounds_succ]; go_wp2)
  go_ret2
  exact ⟨by rw [HK.out]; rfl, by rw [HD.out]⟩

theorem digits1_neg (n : Int) (w : World) (h0 : n < 0) :
    Calls Tryd.prog 76 #[.int .i64 1, .int .i64 n] w fun e w' => e = .returned (.tuple #[.slice none 0 0, .bool false]) ∧ Below w.heap.size w w' := by
  have hmk : ∀ w, (Instr.makeSlice 33 (.int .i64 1) (.int .i64 1)).run Tryd.prog w = .ok (.slice (some ⟨w.heap.size, 0, none⟩) 1 1) (w.alloc (.cells #[.int .u8 0] 5)) := fun _ => by kernel_rfl
  go_enter Tryd.func76, Tryd.ntmps76
  go_wp2
  go_ret2
  exact ⟨rfl, balloc (Below.refl _ _) _⟩

set_option maxHeartbeats 1000000 in
theorem digits2 (n : Int) (w : World) (h0 : 0 ≤ n) (h63 : n ≤ 9223372036854775807) :
    Calls Tryd.prog 76 #[.int .i64 2, .int .i64 n] w fun e w' => e = .returned (.tuple #[.slice (some ⟨w.heap.size, 0, none⟩) 2 2, .bool (okB 2 n)]) ∧ w' = w.alloc (.cells (u8s (digs 2 n)).toArray 5) := by
  have hmk : ∀ w, (Instr.makeSlice 33 (.int .i64 2) (.int .i64 2)).run Tryd.prog w = .ok (.slice (some ⟨w.heap.size, 0, none⟩) 2 2) (w.alloc (.cells #[.int .u8 0, .int .u8 0] 5)) := fun _ => by kernel_rfl
  have hn : decide (n < 0) = false := by simp; omega
  have HD : Hid ((u8s (digs 2 n)).toArray = #[.int .u8 (n / 256 % 256), .int .u8 (n % 256)]) := by simp [Hid, u8s, digs]
  have HK : Hid (okB 2 n = (n / 256 / 256 == 0)) := by
    rw [Hid, Bool.eq_iff_iff]; simp [okB, top]; omega
  go_enter Tryd.func76, Tryd.ntmps76
  go_wp2
  refine wp_loop_rounds 3 ?_
  repeat (rw [rounds_succ]; go_wp2)
  go_ret2
  exact ⟨by rw [HK.out]; rfl, by rw [HD.out]⟩

theorem digits2_neg (n : Int) (w : World) (h0 : n < 0) :
    Calls Tryd.prog 76 #[.int .i64 2, .int .i64 n] w fun e w' => e = .returned (.tuple #[.slice none 0 0, .bool false]) ∧ Below w.heap.size w w' := by
  have hmk : ∀ w, (Instr.makeSlice 33 (.int .i64 2) (.int .i64 2)).run Tryd.prog w = .ok (.slice (some ⟨w.heap.size, 0, none⟩) 2 2) (w.alloc (.cells #[.int .u8 0, .int .u8 0] 5)) := fun _ => by kernel_rfl
  go_enter Tryd.func76, Tryd.ntmps76
  go_wp2
  go_ret2
  exact ⟨rfl, balloc (Below.refl _ _) _⟩

set_option maxHeartbeats 1000000 in
theorem digits4 (n : Int) (w : World) (h0 : 0 ≤ n) (h63 : n ≤ 9223372036854775807) :
    Calls Tryd.prog 76 #[.int .i64 4, .int .i64 n] w fun e w' => e = .returned (.tuple #[.slice (some ⟨w.heap.size, 0, none⟩) 4 4, .bool (okB 4 n)]) ∧ w' = w.alloc (.cells (u8s (digs 4 n)).toArray 5) := by
  have hmk : ∀ w, (Instr.makeSlice 33 (.int .i64 4) (.int .i64 4)).run Tryd.prog w = .ok (.slice (some ⟨w.heap.size, 0, none⟩) 4 4) (w.alloc (.cells #[.int .u8 0, .int .u8 0, .int .u8 0, .int .u8 0] 5)) := fun _ => by kernel_rfl
  have hn : decide (n < 0) = false := by simp; omega
  have HD : Hid ((u8s (digs 4 n)).toArray = #[.int .u8 (n / 256 / 256 / 256 % 256), .int .u8 (n / 256 / 256 % 256), .int .u8 (n / 256 % 256), .int .u8 (n % 256)]) := by simp [Hid, u8s, digs]; omega
  have HK : Hid (okB 4 n = (n / 256 / 256 / 256 / 256 == 0)) := by
    rw [Hid, Bool.eq_iff_iff]; simp [okB, top]; omega
  go_enter Tryd.func76, Tryd.ntmps76
  go_wp2
  refine wp_loop_rounds 5 ?_
  repeat (rw [rounds_succ]; go_wp2)
  go_ret2
  exact ⟨by rw [HK.out]; rfl, by rw [HD.out]⟩

theorem digits4_neg (n : Int) (w : World) (h0 : n < 0) :
    Calls Tryd.prog 76 #[.int .i64 4, .int .i64 n] w fun e w' => e = .returned (.tuple #[.slice none 0 0, .bool false]) ∧ Below w.heap.size w w' := by
  have hmk : ∀ w, (Instr.makeSlice 33 (.int .i64 4) (.int .i64 4)).run Tryd.prog w = .ok (.slice (some ⟨w.heap.size, 0, none⟩) 4 4) (w.alloc (.cells #[.int .u8 0, .int .u8 0, .int .u8 0, .int .u8 0] 5)) := fun _ => by kernel_rfl
  go_enter Tryd.func76, Tryd.ntmps76
  go_wp2
  go_ret2
  exact ⟨rfl, balloc (Below.refl _ _) _⟩

theorem okB_neg (size n : Int) (h : n < 0) : okB size n = false := by simp [okB]; omega

theorem wf_i64 {n : Int} (h : (Lit.int .i64 n).wf = true) : -9223372036854775808 ≤ n ∧ n ≤ 9223372036854775807 := by
  simp [Lit.wf, IntKind.min, IntKind.max, IntKind.bits, IntKind.signed] at h; omega

theorem digits_any (size n : Int) (w : World) (hz : sizeB size = true) (hw : (Lit.int .i64 n).wf = true) :
    Calls Tryd.prog 76 #[.int .i64 size, .int .i64 n] w fun e w' => ∃ a k c, e = .returned (.tuple #[.slice a k c, .bool (okB size n)]) ∧ Below w.heap.size w w' ∧ (okB size n = true → k = (digs size n).length ∧ Lies .u8 w' a k c (digs size n)) := by
  have h63 := (wf_i64 hw).2
  by_cases h0 : 0 ≤ n
  · have key : ∀ k : Nat, k = (digs size n).length → k ≤ 100 → Lies .u8 (w.alloc (.cells (u8s (digs size n)).toArray 5)) (some ⟨w.heap.size, 0, none⟩) k k (digs size n) := by
      intro k hk h100
      subst hk
      exact lies_new .u8 w _ 5 (digs size n) (by simp [u8s]) h100
    have hb : Below w.heap.size w (w.alloc (.cells (u8s (digs size n)).toArray 5)) := balloc (Below.refl _ _) _
    rcases sizeB_cases hz with rfl | rfl | rfl
    · refine (digits1 n w h0 h63).mono ?_
      rintro e w' ⟨rfl, rfl⟩
      exact ⟨_, _, _, rfl, hb, fun _ => ⟨rfl, key 1 rfl (by omega)⟩⟩
    · refine (digits2 n w h0 h63).mono ?_
      rintro e w' ⟨rfl, rfl⟩
      exact ⟨_, _, _, rfl, hb, fun _ => ⟨rfl, key 2 rfl (by omega)⟩⟩
    · refine (digits4 n w h0 h63).mono ?_
      rintro e w' ⟨rfl, rfl⟩
      exact ⟨_, _, _, rfl, hb, fun _ => ⟨rfl, key 4 rfl (by omega)⟩⟩
  · have hk := okB_neg size n (by omega)
    rw [hk]
    rcases sizeB_cases hz with rfl | rfl | rfl
    · refine (digits1_neg n w (by omega)).mono ?_
      rintro e w' ⟨rfl, hb⟩
      exact ⟨_, _, _, rfl, hb, fun h => by cases h⟩
    · refine (digits2_neg n w (by omega)).mono ?_
      rintro e w' ⟨rfl, hb⟩
      exact ⟨_, _, _, rfl, hb, fun h => by cases h⟩
    · refine (digits4_neg n w (by omega)).mono ?_
      rintro e w' ⟨rfl, hb⟩
      exact ⟨_, _, _, rfl, hb, fun h => by cases h⟩

end Go.Proofs.YtbfjkhafdkhhmaaDoor

namespace Go.Proofs.YtbfjkhafdkhhmaaDoor
open Go.ChangeShapes Go.WideShapes Go.ChangeAt Go.RowKit Go.Deep
set_option linter.unusedVariables false
set_option linter.unusedSimpArgs false

/-- A kind's letters as numbers. -/
def cl (k : Nat) : List Int := (chs k).data.toList.map (fun b => (b.toNat : Int))
theorem cl_len (k : Nat) : (cl k).length = (chs k).size := by rw [cl, List.length_map, Array.length_toList]; rfl
theorem chs_ne' : ∀ k, k < 10 → ((chs k).data.toList == [63]) = false := by decide
theorem chs_ne (k : Nat) (hk : k < 10) : ((chs k).toList == [63]) = false := by rw [ByteArray.toList_eq]; exact chs_ne' k hk
theorem chs_small : ∀ k, k < 10 → (chs k).size ≤ 10 := by decide
/-- How many numbers among so many letters. -/
def cnt (l : List Int) (i : Nat) : Nat := ((l.take i).filter (fun c => decide (0 < szc c))).length
theorem cnt_succ (l : List Int) (i : Nat) (h : i < l.length) : cnt l (i + 1) = cnt l i + (if 0 < szc (l.getD i 0) then 1 else 0) := by
  unfold cnt
  rw [List.take_succ_eq_append_getElem h, List.filter_append, List.length_append]
  simp [h]
  split <;> simp_all
def hasC (x : Int) (l : List Int) (i : Nat) : Bool := (l.take i).any (fun c => c == x)
theorem hasC_succ (x : Int) (l : List Int) (i : Nat) (h : i < l.length) : hasC x l (i + 1) = (hasC x l i || (l.getD i 0 == x)) := by
  unfold hasC
  rw [List.take_succ_eq_append_getElem h, List.any_append]
  simp [h]
theorem cl_all : ∀ k, k < 10 → cnt (cl k) (cl k).length = (nmb (prt k)).length ∧ hasC 97 (cl k) (cl k).length = hasA k ∧ hasC 116 (cl k) (cl k).length = txb k := by decide
/-- The greatest number of a letter. -/
def lastc (c : Int) : Int := if c = 112 then 128 else if c = 122 ∨ c = 113 then 0 else top (szc c) - 1
theorem cl_num : ∀ k, k < 10 → ∀ i, i < (cl k).length → 0 < szc ((cl k).getD i 0) → cnt (cl k) i < (nmb (prt k)).length ∧ (nmb (prt k)).getD (cnt (cl k) i) (0, 0) = (szc ((cl k).getD i 0), lastc ((cl k).getD i 0)) ∧ sizeB (szc ((cl k).getD i 0)) = true := by decide
theorem cl_oct : ∀ k, k < 10 → ∀ i, i < (cl k).length → 0 ≤ (cl k).getD i 0 ∧ (cl k).getD i 0 < 256 := by decide
theorem char_at (k i : Nat) (h : i < (chs k).size) : ((((chs k)[i]'h).toNat : Nat) : Int) = (cl k).getD i 0 := by
  have h' : i < (chs k).data.size := h
  have e : (chs k)[i]'h = (chs k).data[i]'h' := rfl
  rw [e]
  simp [cl, Array.getElem?_eq_getElem h']
theorem byte_at (k i : Nat) (h : i < (cl k).length) : ((((chs k).data[i]?.getD 0).toNat : Nat) : Int) = (cl k).getD i 0 := by
  have h' : i < (chs k).data.size := by simpa [cl] using h
  simp [cl, Array.getElem?_eq_getElem h']

theorem zarr : (#[Value.int .u8 0, .int .u8 0, .int .u8 0, .int .u8 0, .int .u8 0, .int .u8 0, .int .u8 0, .int .u8 0, .int .u8 0, .int .u8 0, .int .u8 0, .int .u8 0, .int .u8 0, .int .u8 0, .int .u8 0, .int .u8 0] : Array Value) = arr zeros := rfl
/-- Is a number one that a letter allows? -/
def goodc (c n : Int) : Bool := okB (szc c) n && (!(c == 112 && decide (128 < n)) && !((c == 122 || c == 113) && (n != 0)))
theorem goodc_in (c n : Int) (h : sizeB (szc c) = true) : goodc c n = inB (szc c, lastc c) n := by
  have h1 : c = 49 ∨ c = 112 ∨ c = 122 ∨ c = 120 ∨ c = 50 ∨ c = 52 ∨ c = 113 := by
    unfold szc at h
    split at h
    · omega
    · split at h
      · omega
      · split at h
        · omega
        · exact absurd h (by decide)
  rw [Bool.eq_iff_iff]
  rcases h1 with rfl | rfl | rfl | rfl | rfl | rfl | rfl <;> simp [goodc, inB, okB, szc, lastc, top] <;> omega
end Go.Proofs.YtbfjkhafdkhhmaaDoor
