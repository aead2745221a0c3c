/- What the rows' lists give, and how options that came in are opened. · The document's answer: the bytes of an option, as letters tell them. · The document's answer: the bytes of an option that is right. -/
import Derived.Test.YtbfjkhafdkhhmaaDoorM6
import Derived.Test.YtbfjkhafdkhhmaaDoorCards
import Derived.Test.YtbfjkhafdkhhmaaDoorTie
import Derived.Deep.DeepHandedRow
import Derived.Lib.LaidTab
import Derived.Stop.LaidErr
import Derived.LaidLaws
import Derived.ChangeOld
import Derived.Carry
import Derived.Test.YtbfjkhafdkhhmaaDoorM16
import Derived.Deep.RegionHeld3
namespace Go.Proofs.YtbfjkhafdkhhmaaDoor
open Go.ChangeShapes Go.WideShapes Go.ChangeAt Go.RowKit Go.Deep
set_option linter.unusedVariables false
set_option linter.unusedSimpArgs false
set_option maxRecDepth 100000

theorem g0 : Tryd.prog.globalNamed "rivulet/option.shapes" = some 1 := by kernel_rfl
theorem gt0 : (Tryd.prog.globals[1]?).map (·.type) = some 158 := by kernel_rfl
theorem u63 : Tryd.prog.underlying 158 = some (.array 10 157) := by kernel_rfl
theorem u62 : Tryd.prog.underlying 157 = some (.struct (Tryd.prog.fieldsOf 157)) := by kernel_rfl
theorem u87 : Tryd.prog.underlying 160 = some (.struct (Tryd.prog.fieldsOf 160)) := by kernel_rfl
theorem u60 : Tryd.prog.underlying 154 = some (.slice 160) := by kernel_rfl
theorem c62 : Tryd.prog.cellsOf 157 = 4 := by kernel_rfl
theorem c63 : Tryd.prog.cellsOf 158 = 40 := by kernel_rfl
theorem c87 : Tryd.prog.cellsOf 160 = 2 := by kernel_rfl
theorem c60 : Tryd.prog.cellsOf 154 = 1 := by kernel_rfl
theorem c9 : Tryd.prog.cellsOf 9 = 1 := by kernel_rfl
theorem c4 : Tryd.prog.cellsOf 4 = 1 := by kernel_rfl
theorem c3o : Tryd.prog.cellsOf 3 = 1 := by kernel_rfl
theorem fs62 : (Tryd.prog.fieldsOf 157).toList.map (fun f => (f.type, f.offset)) = [(9, 0), (154, 1), (4, 2), (4, 3)] := by kernel_rfl
theorem fs87 : (Tryd.prog.fieldsOf 160).toList.map (fun f => (f.type, f.offset)) = [(3, 0), (3, 1)] := by kernel_rfl

/-- The fields of a struct, each read by itself. -/
theorem fields_of {H : Type} {enc : TypeId × Value → H} {W : World} {held : Bool} {fuel : Nat} {t : TypeId} {cs : List Value} {x : DataW H × List MemPlace} (hu : Tryd.prog.underlying t = some (.struct (Tryd.prog.fieldsOf t)))
    (l : List (TypeId × Nat)) (hl : (Tryd.prog.fieldsOf t).toList.map (fun f => (f.type, f.offset)) = l) (h : DataW.trod enc Tryd.prog W 0 (fun _ => true) held fuel t cs = some x) :
    ∃ (xs : List (DataW H × List MemPlace)) (n : Nat), x = (.agg (xs.map (·.1)), xs.flatMap (·.2)) ∧ cs.length = Tryd.prog.cellsOf t ∧ xs.length = l.length ∧
      ∀ (i : Nat) (ty : TypeId) (o : Nat), l[i]? = some (ty, o) → DataW.trod enc Tryd.prog W 0 (fun _ => true) held n ty ((cs.drop o).take (Tryd.prog.cellsOf ty)) = xs[i]? := by
  obtain ⟨xs, n, _, hx, hlen, hxl, hall⟩ := DataW.trod_struct hu h
  have hsz : (Tryd.prog.fieldsOf t).size = l.length := by have := congrArg List.length hl; simpa using this
  refine ⟨xs, n, hx, hlen, hxl.trans hsz, ?_⟩
  intro i ty o he
  have hi : i < (Tryd.prog.fieldsOf t).size := by rw [hsz]; exact (List.getElem?_eq_some_iff.1 he).1
  have e1 := congrArg (·[i]?) hl
  simp only [List.getElem?_map, he] at e1
  have e2 : (Tryd.prog.fieldsOf t).toList[i]? = some (Tryd.prog.fieldsOf t)[i] := by simp [hi]
  rw [e2] at e1
  simp only [Option.map_some, Option.some.injEq, Prod.mk.injEq] at e1
  have := hall i _ (Array.getElem?_eq_getElem hi)
  rw [e1.1, e1.2] at this
  exact this

/-- A part as a datum. -/
def pd {H : Type} (p : Int × Int) : DataW H := .agg [.lit (.int .i64 p.1), .lit (.int .i64 p.2)]
def pdat {H : Type} (l : List (Int × Int)) : DataW H := match l with | [] => .nil | _ => .slice (l.map pd) []
theorem pd_inj {H : Type} (p q : Int × Int) (h : (pd p : DataW H) = pd q) : p = q := by
  simp [pd] at h; exact Prod.ext h.1 h.2
theorem part_of {H : Type} {enc : TypeId × Value → H} {W : World} {held : Bool} {fuel : Nat} {cs : List Value} {x : DataW H × List MemPlace} (h : DataW.trod enc Tryd.prog W 0 (fun _ => true) held fuel 160 cs = some x) :
    ∃ p : Int × Int, cs = [.int .i64 p.1, .int .i64 p.2] ∧ x.1 = pd p := by
  obtain ⟨xs, n, rfl, hlen, hxl, hall⟩ := fields_of u87 _ fs87 h
  rw [c87] at hlen
  match xs, hxl, cs, hlen with
  | [y0, y1], _, [v0, v1], _ =>
    have h0 := hall 0 3 0 rfl
    have h1 := hall 1 3 1 rfl
    rw [c3o] at h0 h1
    simp at h0 h1
    obtain ⟨z0, e0, f0, _⟩ := DataW.trod_int Tryd.underlying3 h0
    obtain ⟨z1, e1, f1, _⟩ := DataW.trod_int Tryd.underlying3 h1
    simp at e0 e1
    subst e0; subst e1
    refine ⟨(z0, z1), rfl, ?_⟩
    simp [pd, f0, f1]
theorem parts_of {H : Type} {enc : TypeId × Value → H} {W : World} {held : Bool} {fuel : Nat} {cs : List Value} {x : DataW H × List MemPlace} (l : List (Int × Int)) (h : DataW.trod enc Tryd.prog W 0 (fun _ => true) held fuel 154 cs = some x) (hx : x.1 = pdat l) :
    ∃ a n cap, cs = [.slice a n cap] ∧ PLies W.heap.size W a n cap l := by
  rcases open_slice u60 h with ⟨hcs, rfl⟩ | ⟨ad, len, cap, m, n, D, Pl, hcs, _, hl, hm, hmm, rfl, hall⟩
  · match l, hx with
    | [], _ => exact ⟨none, 0, 0, hcs, rfl, Nat.le_refl _, by decide, fun i hi => by omega⟩
    | p :: l, hx => simp [pdat] at hx
  · match l, hx with
    | [], hx => simp [pdat] at hx
    | p :: l, hx =>
      generalize p :: l = L at *
      have hx : (DataW.slice ((List.range len).map D) ((List.range (m - len)).map fun j => D (len + j)) : DataW H) = .slice (L.map pd) [] := by
        simp only [pdat] at hx
        split at hx
        · cases hx
        · exact hx
      injection hx with hx1 _
      have hlen : L.length = len := by have := congrArg List.length hx1; simpa using this.symm
      have hspot : len ≠ 0 → ad.spot = none := by
        intro h0
        obtain ⟨cs', h1, h2⟩ := hall 0 (by simp at hmm; omega)
        rw [c87] at h1
        obtain ⟨_, hl2, hc⟩ := World.cells?_some h1
        have e0 := hc 0 (by omega)
        rw [List.getElem?_eq_getElem (by omega)] at e0
        exact World.cell?_spot (by simpa [Addr.add] using e0)
      obtain ⟨b, off, spot⟩ := ad
      refine ⟨some ⟨b, off, spot⟩, len, cap, hcs, hlen, hl, hm, fun i hi => ?_⟩
      have hs := hspot (by omega)
      simp only at hs
      subst hs
      obtain ⟨cs', h1, h2⟩ := hall i (by simp at hmm; omega)
      rw [c87] at h1
      obtain ⟨_, hl2, hc⟩ := World.cells?_some h1
      obtain ⟨q, rfl, hq⟩ := part_of h2
      have hDi : D i = pd (L.getD i (0, 0)) := by
        have := congrArg (·[i]?) hx1
        simp only [List.getElem?_map, List.getElem?_range hi, Option.map_some] at this
        rw [List.getElem?_eq_getElem (by omega)] at this
        simp only [Option.map_some, Option.some.injEq] at this
        rw [this]; simp [show i < L.length by omega]
      have hqq : q = L.getD i (0, 0) := pd_inj _ _ (hq.symm.trans hDi)
      subst hqq
      have e0 := hc 0 (by omega)
      have e1 := hc 1 (by omega)
      simp only [Addr.add_lit, Nat.add_zero, List.getElem?_cons_zero, List.getElem?_cons_succ] at e0 e1
      exact ⟨b, off, rfl, World.block_lt_of_cell? W _ e0, e0, e1⟩
/-- A kind as a datum. -/
def shD {H : Type} (k : Nat) : DataW H := .agg [.lit (.string (wrd k).data.toList), pdat (prt k), .lit (.bool (zer k)), .lit (.bool (txb k))]
theorem laid_eq : (Rows.laid_rivulet_option_shapes : DataW Unit) = .agg ((List.range 10).map shD) := by kernel_rfl
theorem shape_of {enc : TypeId × Value → Unit} {W : World} {held : Bool} {fuel : Nat} {cs : List Value} {x : DataW Unit × List MemPlace} (k : Nat) (h : DataW.trod enc Tryd.prog W 0 (fun _ => true) held fuel 157 cs = some x) (hx : x.1 = shD k) :
    ∃ a n cap, cs = [.string (wrd k), .slice a n cap, .bool (zer k), .bool (txb k)] ∧ PLies W.heap.size W a n cap (prt k) := by
  obtain ⟨xs, n, rfl, hlen, hxl, hall⟩ := fields_of u62 _ fs62 h
  rw [c62] at hlen
  match xs, hxl, cs, hlen with
  | [y0, y1, y2, y3], _, [v0, v1, v2, v3], _ =>
    have h0 := hall 0 9 0 rfl
    have h1 := hall 1 154 1 rfl
    have h2 := hall 2 4 2 rfl
    have h3 := hall 3 4 3 rfl
    rw [c9] at h0
    rw [c60] at h1
    rw [c4] at h2 h3
    simp at h0 h1 h2 h3
    simp [shD] at hx
    obtain ⟨s, e0, f0, _⟩ := DataW.trod_string Tryd.underlying9 h0
    obtain ⟨a, m, cap, e1, hP⟩ := parts_of (prt k) h1 hx.2.1
    obtain ⟨b2, e2, f2⟩ := DataW.trod_bool Tryd.underlying4 h2
    obtain ⟨b3, e3, f3⟩ := DataW.trod_bool Tryd.underlying4 h3
    simp at e0 e1 e2 e3
    subst e0; subst e1; subst e2; subst e3
    rw [f0, f2, f3] at hx
    simp at hx
    obtain ⟨q0, _, q2, q3⟩ := hx
    refine ⟨a, m, cap, ?_, hP⟩
    have hs : s = wrd k := by
      have : s.data = (wrd k).data := by simpa using q0
      cases s; cases hw : wrd k; simp_all
    rw [hs, q2, q3]
theorem vars_of {W : World} (h : laidMetH Tryd.prog Rows.controlTellsRow.laid W) : Vars W.heap.size W := by
  have h : laidMet Tryd.prog [("rivulet/option.shapes", Rows.laid_rivulet_option_shapes), ("rivulet/control.shapes", Rows.laid_rivulet_control_shapes)] W := h
  obtain ⟨ps, ⟨g, t, cs, fuel, p, q, hg, ht, hvar, hd, _, _⟩, _⟩ := h
  obtain rfl := Option.some.inj (g0.symm.trans hg)
  obtain rfl := Option.some.inj (gt0.symm.trans ht)
  rw [laid_eq] at hd
  obtain ⟨xs, m, _, hx, hlen, hxl, hall⟩ := DataW.trod_array u63 hd
  have hx1 : (DataW.agg ((List.range 10).map shD) : DataW Unit) = .agg (xs.map (·.1)) := congrArg Prod.fst hx
  injection hx1 with hx1
  rw [c63] at hlen
  rw [c62] at hall
  have key : ∀ k, k < 10 → ∃ a n cap, (cs.toList.drop (k * 4)).take 4 = [.string (wrd k), .slice a n cap, .bool (zer k), .bool (txb k)] ∧ PLies W.heap.size W a n cap (prt k) := by
    intro k hk
    have h1 := hall k hk
    rw [List.getElem?_eq_getElem (by omega)] at h1
    refine shape_of k h1 ?_
    have := congrArg (·[k]?) hx1
    simp only [List.getElem?_map, List.getElem?_range hk, Option.map_some] at this
    rw [List.getElem?_eq_getElem (by omega)] at this
    simpa using this.symm
  have cell : ∀ k j v, k < 10 → j < 4 → ((cs.toList.drop (k * 4)).take 4)[j]? = some v → W.cell? ⟨1, k * 4 + j, none⟩ = some v := by
    intro k j v hk hj hv
    have h0 := World.var?_cell g0 hvar (k * 4 + j)
    rw [h0]
    rw [List.getElem?_take, if_pos hj, List.getElem?_drop] at hv
    simpa using hv
  have c0 : W.cell? ⟨1, 0, none⟩ = some (.string (wrd 0)) := by
    obtain ⟨a, n, cap, e, _⟩ := key 0 (by decide)
    exact cell 0 0 _ (by decide) (by decide) (by rw [e]; rfl)
  refine ⟨World.block_lt_of_cell? W _ c0, Nat.le_refl _, fun k hk => ?_, fun k hk => ?_, fun k hk => ?_, fun k hk => ?_⟩
  · obtain ⟨a, n, cap, e, _⟩ := key k hk
    exact cell k 0 _ hk (by decide) (by rw [e]; rfl)
  · obtain ⟨a, n, cap, e, hP⟩ := key k hk
    exact ⟨a, n, cap, cell k 1 _ hk (by decide) (by rw [e]; rfl), hP⟩
  · obtain ⟨a, n, cap, e, _⟩ := key k hk
    exact cell k 2 _ hk (by decide) (by rw [e]; rfl)
  · obtain ⟨a, n, cap, e, _⟩ := key k hk
    exact cell k 3 _ hk (by decide) (by rw [e]; rfl)

/-! How options that came in are opened. -/
theorem u38 : Tryd.prog.underlying 57 = some (.struct (Tryd.prog.fieldsOf 57)) := by kernel_rfl
theorem fs38 : (Tryd.prog.fieldsOf 57).toList.map (fun f => (f.type, f.offset)) = [(3, 0), (52, 1), (22, 2), (33, 18)] := by kernel_rfl
theorem c38 : Tryd.prog.cellsOf 57 = 19 := by kernel_rfl
theorem c35 : Tryd.prog.cellsOf 52 = 1 := by kernel_rfl
theorem c36 : Tryd.prog.cellsOf 22 = 16 := by kernel_rfl
theorem c26 : Tryd.prog.cellsOf 33 = 1 := by kernel_rfl
theorem adr_of {H : Type} {enc : TypeId × Value → H} {W : World} {held : Bool} {fuel : Nat} {cs : List Value} {x : DataW H × List MemPlace} (h : DataW.trod enc Tryd.prog W 0 (fun _ => true) held fuel 22 cs = some x) : ∃ l, cs = u8s l ∧ Adr l := by
  obtain ⟨xs, m, _, hx, hlen, hxl, hall⟩ := DataW.trod_array Tryd.underlying22 h
  rw [c36] at hlen
  rw [c5] at hall
  have key : ∀ i, i < 16 → ∃ z, cs[i]? = some (.int .u8 z) ∧ 0 ≤ z ∧ z < 256 := by
    intro i hi
    have h1 := hall i hi
    rw [Nat.mul_one, List.getElem?_eq_getElem (by omega)] at h1
    obtain ⟨z, hz, _, hw⟩ := DataW.trod_int Tryd.underlying5 h1
    have h2 : cs[i]? = some (.int .u8 z) := by
      have := congrArg (·[0]?) hz
      simpa [List.getElem?_take, List.getElem?_drop] using this
    exact ⟨z, h2, wf_u8 hw⟩
  refine ⟨cs.map intOf, ?_, ?_, ?_⟩
  · apply List.ext_getElem?
    intro i
    by_cases hi : i < 16
    · obtain ⟨z, hz, _⟩ := key i hi
      simp only [u8s, List.getElem?_map, hz, Option.map_some, intOf]
    · rw [List.getElem?_eq_none (by omega), List.getElem?_eq_none (by simp [u8s]; omega)]
  · simpa using hlen
  · intro x hx
    simp only [List.mem_map] at hx
    obtain ⟨v, hv, rfl⟩ := hx
    obtain ⟨i, hi, rfl⟩ := List.mem_iff_getElem.1 hv
    obtain ⟨z, hz, h0, h1⟩ := key i (by omega)
    rw [List.getElem?_eq_getElem hi] at hz
    rw [Option.some.inj hz]
    exact ⟨h0, h1⟩
theorem row_of {H : Type} {enc : TypeId × Value → H} {W : World} {held : Bool} {fuel : Nat} {cs : List Value} {x : DataW H × List MemPlace} {t e : TypeId} {kd : IntKind} (ht : Tryd.prog.underlying t = some (.slice e)) (he : Tryd.prog.underlying e = some (.int kd)) (hc : Tryd.prog.cellsOf e = 1)
    (h : DataW.trod enc Tryd.prog W 0 (fun _ => true) held fuel t cs = some x) : ∃ (a : Option Addr) (n cap : Nat) (zs : List Int), cs = [.slice a n cap] ∧ IsRow kd W a n cap zs := by
  rcases open_ints ht he hc h with ⟨hcs, _⟩ | ⟨y, l', c', zs, hcs, _, hl', hm', hz', _, hc', hwz⟩
  · exact ⟨none, 0, 0, [], hcs, .inl ⟨rfl, rfl, rfl, rfl⟩⟩
  · exact ⟨some y, l', c', zs, hcs, .inr ⟨y, rfl, hl', hm', by simpa using hz', hc', hwz⟩⟩
theorem opt_of {H : Type} {enc : TypeId × Value → H} {W : World} {held : Bool} {fuel : Nat} {cs : List Value} {x : DataW H × List MemPlace} (h : DataW.trod enc Tryd.prog W 0 (fun _ => true) held fuel 57 cs = some x) : ∃ o : Ov, cs = o.cs.toList ∧ o.ok W := by
  obtain ⟨xs, n, rfl, hlen, hxl, hall⟩ := fields_of u38 _ fs38 h
  rw [c38] at hlen
  have key : ∀ (i : Nat) (ty : TypeId) (o : Nat), [(3, 0), (52, 1), (22, 2), (33, 18)][i]? = some (ty, o) → ∃ y, DataW.trod enc Tryd.prog W 0 (fun _ => true) held n ty ((cs.drop o).take (Tryd.prog.cellsOf ty)) = some y := by
    intro i ty o he
    have hi : i < 4 := (List.getElem?_eq_some_iff.1 he).1
    have := hall i ty o he
    rw [List.getElem?_eq_getElem (by rw [hxl]; exact hi)] at this
    exact ⟨_, this⟩
  obtain ⟨y0, h0⟩ := key 0 3 0 rfl
  obtain ⟨y1, h1⟩ := key 1 52 1 rfl
  obtain ⟨y2, h2⟩ := key 2 22 2 rfl
  obtain ⟨y3, h3⟩ := key 3 33 18 rfl
  rw [c3o] at h0
  rw [c35] at h1
  rw [c36] at h2
  rw [c26] at h3
  obtain ⟨k, e0, _⟩ := DataW.trod_int Tryd.underlying3 h0
  obtain ⟨na, nl, nc, nz, e1, hr1⟩ := row_of Tryd.underlying52 Tryd.underlying3 c3o h1
  obtain ⟨ad, e2, hA⟩ := adr_of h2
  obtain ⟨ta, tl, tc, tz, e3, hr3⟩ := row_of Tryd.underlying33 Tryd.underlying5 c5 h3
  refine ⟨⟨k, ⟨na, nl, nc, nz.take nl⟩, ad, ⟨ta, tl, tc, tz.take tl⟩⟩, ?_, hr1.lies, hA, hr3.lies, oct_take hr3.oct _⟩
  have s0 : cs = cs.take 1 ++ ((cs.drop 1).take 1 ++ ((cs.drop 2).take 16 ++ (cs.drop 18).take 1)) := by
    have t3 : (cs.drop 18).take 1 = cs.drop 18 := List.take_of_length_le (by simp; omega)
    have t2 : (cs.drop 2).take 16 ++ cs.drop 18 = cs.drop 2 := by
      have := List.take_append_drop 16 (cs.drop 2)
      rwa [List.drop_drop] at this
    have t1 : (cs.drop 1).take 1 ++ cs.drop 2 = cs.drop 1 := by
      have := List.take_append_drop 1 (cs.drop 1)
      rwa [List.drop_drop] at this
    rw [t3, t2, t1, List.take_append_drop]
  rw [List.drop_zero] at e0
  rw [s0, e0, e1, e2, e3]
  simp [Ov.cs, arr, Txt.v]
theorem open_opts {H : Type} {enc : TypeId × Value → H} {W : World} {held : Bool} {a : Option Addr} {len cap : Nat} {d : DataW H} {p : List MemPlace}
    (h : DataW.Trod enc Tryd.prog W 0 (fun _ => true) held 23 (.slice a len cap) d p) : ∃ L, Opts W a len cap L := by
  obtain ⟨fuel, hf⟩ := h
  rcases open_slice Tryd.underlying23 hf with ⟨hcs, _⟩ | ⟨ad, l, c, m, n, D, Pl, hcs, _, hl, hm, hmm, _, hall⟩
  · simp [Value.cells] at hcs
    obtain ⟨rfl, rfl, rfl⟩ := hcs
    exact ⟨[], Opts.none W⟩
  · simp [Value.cells] at hcs
    obtain ⟨rfl, rfl, rfl⟩ := hcs
    have hm' : m = cap := by simpa using hmm
    subst hm'
    rw [c38] at hall
    have key : ∀ i, ∃ o : Ov, i < len → (∀ j, j < 19 → W.cell? ((ad.add (i * 19)).add j) = o.cs[j]?) ∧ o.ok W := by
      intro i
      by_cases hi : i < len
      · obtain ⟨cs', h1, h2⟩ := hall i (by omega)
        obtain ⟨_, hlen, hcell⟩ := World.cells?_some h1
        obtain ⟨o, rfl, hok⟩ := opt_of h2
        exact ⟨o, fun _ => ⟨fun j hj => by rw [hcell j hj]; simp, hok⟩⟩
      · exact ⟨Ov.zero, fun h => absurd h hi⟩
    obtain ⟨f, hf'⟩ := Classical.axiomOfChoice key
    refine ⟨(List.range len).map f, by simp, hl, hm, (fun h => by cases h), ?_, ?_⟩
    · intro k hk
      have hspot : ad.spot = none := by
        have h0 := (hf' 0 (by omega)).1 0 (by decide)
        rw [Ov.at0] at h0
        exact World.cell?_spot (by simpa [Addr.add] using h0)
      obtain ⟨b, off, spot⟩ := ad
      simp at hspot
      subst hspot
      refine ⟨b, off, rfl, ?_⟩
      intro j v hv
      have hA := (hf' k hk).2.ad
      have e : ((List.range len).map f).getD k Ov.zero = f k := by simp [hk]
      rw [e] at hv
      have hj : j < 19 := by have := (Array.getElem?_eq_some_iff.1 hv).1; rw [Ov.size hA] at this; exact this
      have := (hf' k hk).1 j hj
      rw [Addr.add_lit, Addr.add_lit] at this
      rw [this]; exact hv
    · intro o ho
      simp at ho
      obtain ⟨i, hi, rfl⟩ := ho
      exact (hf' i hi).2
end Go.Proofs.YtbfjkhafdkhhmaaDoor

namespace Go.Proofs.YtbfjkhafdkhhmaaDoor
open Go.ChangeShapes Go.WideShapes Go.ChangeAt Go.RowKit Go.Deep
set_option linter.unusedVariables false
set_option linter.unusedSimpArgs false

/-- Is a letter a number that is written digit by digit? -/
def isN (c : Int) : Bool := !(c == 97) && (!(c == 116) && !(c == 120))
def acnt (l : List Int) (i : Nat) : Nat := ((l.take i).filter isN).length
theorem acnt_succ (l : List Int) (i : Nat) (h : i < l.length) : acnt l (i + 1) = acnt l i + (if isN (l.getD i 0) = true then 1 else 0) := by
  unfold acnt
  rw [List.take_succ_eq_append_getElem h, List.filter_append, List.length_append]
  simp [h]
  split <;> simp_all
/-- The bytes of a letter. -/
def piece (l n ad t : List Int) (j : Nat) : List Int :=
  if (l.getD j 0 == 97) = true then ad else if (l.getD j 0 == 116) = true then t else if (l.getD j 0 == 120) = true then List.replicate (n.getD 0 0).toNat 0 else digs (szc (l.getD j 0)) (n.getD (acnt l j) 0)
def rBto (l n ad t : List Int) (i : Nat) : List Int := (List.range i).flatMap (piece l n ad t)
theorem rBto_succ (l n ad t : List Int) (i : Nat) : rBto l n ad t (i + 1) = rBto l n ad t i ++ piece l n ad t i := by
  unfold rBto; rw [List.range_succ, List.flatMap_append]; simp
theorem cl_x : ∀ k, k < 10 → ∀ i, i < (cl k).length → (cl k).getD i 0 = 120 → i = 0 ∧ k = 1 := by decide
theorem cl_n : ∀ k, k < 10 → ∀ i, i < (cl k).length → isN ((cl k).getD i 0) = true → acnt (cl k) i < (nmb (prt k)).length ∧ sizeB (szc ((cl k).getD i 0)) = true := by decide
theorem len_eq {n : List Int} {m : Nat} (h : n.length = m) : n = (List.range m).map (fun i => n.getD i 0) := by
  apply List.ext_getElem
  · simp [h]
  · intro i h1 h2
    simp [h1]
theorem con_nt (k : Nat) (ok : Int) (n ad : List Int) (hz : zer k = false) : conP k ⟨ok, n, ad, []⟩ = partsB (prt k) n ad := by rw [conP, hz]; simp
theorem rB_con (o : Po) (k : Nat) (hk : k < 10) (hok : o.k = k) (h : chkP o = 0) : rBto (cl k) o.n o.ad o.t (chs k).size = conP k o := by
  obtain ⟨h1, h2, h3, h4⟩ := chk0 h
  rw [hok, Int.toNat_natCast] at h2 h3
  have hn := frm_len h2
  have ht : txb k = false → o.t = [] := by
    intro e
    simp only [frmB, e, Bool.or_false, Bool.and_eq_true, beq_iff_eq] at h2
    exact List.eq_nil_of_length_eq_zero h2.2.2
  obtain ⟨ok, n, ad, t⟩ := o
  simp only at hn ht ⊢
  have e := len_eq hn
  match k, hk with
  | 0, _ => rw [ht rfl]; rfl
  | 1, _ => rw [ht rfl, show (chs 1).size = 1 from rfl]; simp [rBto, piece, conP, zer, List.range_succ, cl, chs, chsL]
  | 2, _ => rw [show (chs 2).size = 1 from rfl]; simp [rBto, piece, conP, zer, List.range_succ, cl, chs, chsL, prt, prts, partsB]
  | 3, _ => rw [ht rfl, e, con_nt _ _ _ _ rfl]; rfl
  | 4, _ => rw [ht rfl, e]; rfl
  | 5, _ => rw [ht rfl, e, con_nt _ _ _ _ rfl]; rfl
  | 6, _ => rw [ht rfl, e]; rfl
  | 7, _ => rw [ht rfl, e, con_nt _ _ _ _ rfl]; rfl
  | 8, _ => rw [ht rfl, e, con_nt _ _ _ _ rfl]; rfl
  | 9, _ => rw [ht rfl, e]; rfl
end Go.Proofs.YtbfjkhafdkhhmaaDoor

namespace Go.Proofs.YtbfjkhafdkhhmaaDoor
open Go.ChangeShapes Go.WideShapes Go.ChangeAt Go.RowKit Go.Deep
set_option linter.unusedVariables false
set_option linter.unusedSimpArgs false

theorem cl_nn : ∀ k, k < 10 → ∀ i, i < (cl k).length → isN ((cl k).getD i 0) = true → (nmb (prt k)).getD (acnt (cl k) i) (0, 0) = (szc ((cl k).getD i 0), lastc ((cl k).getD i 0)) := by decide
theorem okB_wf {s z : Int} (h : okB s z = true) : (Lit.int .i64 z).wf = true := by
  have h1 : 0 ≤ z ∧ z < top s := by simpa [okB] using h
  have h2 : top s ≤ 4294967296 := by unfold top; split; omega; split <;> omega
  simp [Lit.wf, IntKind.min, IntKind.max, IntKind.bits, IntKind.signed]; omega
theorem goodc_ok {c z : Int} (h : goodc c z = true) : okB (szc c) z = true := by
  simp only [goodc, Bool.and_eq_true] at h; exact h.1
theorem rB_len {o : Po} {k : Nat} (hk : k < 10) (hok : o.k = k) (h : chkP o = 0) (ha : o.ad.length = 16) (i : Nat) (hi : i ≤ (chs k).size) : (rBto (cl k) o.n o.ad o.t i).length ≤ 255 := by
  have h1 := rB_con o k hk hok h
  have h2 := conP_le hk hok h ha
  rw [← h1] at h2
  have h3 : (chs k).size = i + ((chs k).size - i) := by omega
  have h4 : rBto (cl k) o.n o.ad o.t (chs k).size = rBto (cl k) o.n o.ad o.t i ++ (List.range ((chs k).size - i)).flatMap (fun j => piece (cl k) o.n o.ad o.t (i + j)) := by
    rw [rBto, rBto, h3, List.range_add, List.flatMap_append]
    simp [List.flatMap_map]
  rw [h4, List.length_append] at h2
  omega
set_option maxRecDepth 1000000 in
set_option maxHeartbeats 3200000 in
theorem optRefEncode_any (o : Ov) (w : World) (ho : o.ok w) (hc : chkP o.p = 0) :
    Calls Tryd.prog 47 #[.agg o.cs] w fun e w' => ∃ v, e = .returned v ∧ w'.ownsRow w.heap.size 5 1 v (encP o.p).length (u8s (encP o.p)) ∧ Below w.heap.size w w' := by
  have HR0 := hid (Row.new w 57 o.cs)
  have B0 := hid (balloc (Below.refl w.heap.size w) (.cells o.cs 57))
  have O0 := hid (ho.below B0.out)
  have HA := hid ho.ad
  have HC := hid hc
  obtain ⟨k, hok, hk⟩ := knd_nat (chk0 hc).1
  have hok : o.k = k := hok
  clear ho hc
  by_cases hk0 : k = 0
  · have HE : Hid (encP o.p = [0]) := by rw [Hid, encP, if_pos (by rw [show o.p.k = o.k from rfl, hok, hk0]; rfl)]
    subst hk0
    go_enter Tryd.func47, Tryd.ntmps47
    go_upto_region 1 with fail
    generalize hw1 : w.alloc (.cells o.cs 57) = w1 at *
    have c0 := (HR0.out.cell 0).trans o.at0
    rw [hok] at c0
    have c0 : w1.cell? ⟨w.heap.size, 0, none⟩ = some (.int .i64 0) := c0
    have OW := hid (owns_lit (e := 5) (size := 1) (base := w.heap.size) w1 #[.int .u8 0] 1 B0.out.size (by decide) (by simp))
    have B1 := hid (balloc B0.out (.cells #[.int .u8 0] 5))
    clear hw1
    go_wp2_with fail
    go_ret
    refine ⟨_, rfl, ?_, B1.out⟩
    rw [HE.out]
    exact OW.out
  · have HE : Hid (encP o.p = (k : Int) :: ((conP k o.p).length : Int) :: conP k o.p) := by rw [Hid, encP, if_neg (by rw [show o.p.k = o.k from rfl, hok]; omega), show o.p.k = o.k from rfl, hok]; rfl
    have hle := conP_le hk (o := o.p) hok HC.out HA.out.1
    have HLe := hid (rB_len (o := o.p) hk hok HC.out HA.out.1)
    have HCon := hid (rB_con o.p k hk hok HC.out)
    have HK := hid hok
    obtain ⟨h1, h2, h3, h4⟩ := chk0 HC.out
    rw [show o.p.k = o.k from rfl, hok, Int.toNat_natCast] at h2 h3
    have hln : o.n.n = (nmb (prt k)).length := by rw [← O0.out.n.1]; exact frm_len h2
    have HLn := hid hln
    have HW : Hid (∀ j, j < (nmb (prt k)).length → inB ((nmb (prt k)).getD j (0, 0)) (o.n.l.getD j 0) = true) := by
      intro j hj
      have := h3
      rw [widB, List.all_eq_true] at this
      exact this j (by simpa using hj)
    have HP1 : Hid (k = 1 → ∃ m : Nat, o.n.l = [(m : Int)] ∧ m ≤ 255) := by
      intro e; subst e
      exact pads_num (frm_len h2) h3
    have hk0' : ((k : Int) == 0) = false := by simp; omega
    have hwk : IntKind.u8.wrap (k : Int) = (k : Int) := by rw [IntKind.wrap_u8]; omega
    have HLt : Hid (lets k = chs k) := by
      have := h1
      rw [show o.p.k = o.k from rfl, hok] at this
      rw [Hid, lets, this, if_pos rfl]; rfl
    have hcs := chs_small k hk
    have HCL := hid (cl_len k)
    have HCh := hid (fun i h => char_at k i h)
    have HAS := hid (fun i h => acnt_succ (cl k) i h)
    have HCX := hid (cl_x k hk)
    have HCN := hid (cl_n k hk)
    have HCNN := hid (cl_nn k hk)
    have HBS := hid (fun i => rBto_succ (cl k) o.n.l o.ad o.t.l i)
    have HLe : Hid (∀ i, i ≤ (chs k).size → (rBto (cl k) o.n.l o.ad o.t.l i).length ≤ 255) := HLe
    have HCon : Hid (rBto (cl k) o.n.l o.ad o.t.l (chs k).size = conP k o.p) := HCon
    clear hok h1 h2 h3 h4 hk0 hln
    go_enter Tryd.func47, Tryd.ntmps47
    go_upto_region 1 with fail
    generalize hw1 : w.alloc (.cells o.cs 57) = w1 at *
    have c0 := (HR0.out.cell 0).trans o.at0
    rw [HK.out] at c0
    clear hw1
    go_wp2_with fail
    refine (parts_any _ _).mono ?_
    rintro e w2 ⟨rfl, hb2⟩
    have B2 := hid (bthen B0.out hb2)
    have R2 := hid (HR0.out.below hb2)
    have O2 := hid (O0.out.below hb2)
    rw [HLt.out]
    generalize hg1 : w.heap.size = g1 at *
    clear hb2 c0 B0 HR0 O0
    go_wp2_with fail
    go_loopw [4, 5, 6] (fun v av iv wr => ∃ i : Nat, i ≤ (chs k).size ∧ iv = .int .i64 i ∧ av = .int .i64 (acnt (cl k) i) ∧ Hid (wr.ownsRow w2.heap.size 5 1 v (rBto (cl k) o.n.l o.ad o.t.l i).length (u8s (rBto (cl k) o.n.l o.ad o.t.l i))) ∧ Hid (Below w2.heap.size w2 wr)) (fun _ _ i _ => (chs k).size - (intOf i).toNat)
    case atStart => exact ⟨0, Nat.zero_le _, rfl, rfl, World.ownsRow_nil _ _ _ _, Below.refl _ _⟩
    case round =>
      obtain ⟨i, hi, rfl, rfl, hown, hb⟩ := hrel
      have hlei := HLe.out i hi
      by_cases hlt : i < (chs k).size
      · have hlt3 : (i : Int) < ((chs k).size : Int) := by omega
        have hil : i < (cl k).length := by rw [HCL.out]; exact hlt
        have hc := HCh.out i hlt
        have hcx := HCX.out i hil
        have hcn := HCN.out i hil
        have hcnn := HCNN.out i hil
        have has := HAS.out i hil
        have hbs := HBS.out i
        rw [piece] at hbs
        generalize (cl k).getD i 0 = c at *
        have X1 := hid hcx
        have X2 := hid hcn
        have X3 := hid hcnn
        have X4 := hid has
        have X5 := hid hbs
        have a1 := ((R2.out.below hb.out).cell 1).trans o.at1
        have a18 := ((R2.out.below hb.out).cell 18).trans (Ov.at18 HA.out)
        clear hcx hcn hcnn has hbs hil
        by_cases q1 : c = 97
        · have r1 : (c == 97) = true := by simp [q1]
          have HI : Hid (isN c = false) := by rw [Hid, q1]; rfl
          have LA := hid (part_lies HA.out ((R2.out.below hb.out).part.ovA HA.out))
          clear q1
          go_wp2_with (at_builtin; refine wpList_appB rfl _ _ rfl rfl rfl hown.out LA.out ?c1 ?c2 ?_)
          case c1 => exact hb.out.size
          case c2 => omega
          intro v4 w4 ho4 hb4
          have B5 := hid (hb.out.trans hb4)
          have O4 := hid ho4
          clear ho4 hb4
          go_wp2_with fail
          go_roundw
          case rel =>
            refine ⟨i + 1, by omega, by go_num, by rw [X4.out, HI.out]; simp, ?_, B5.out⟩
            rw [Hid, X5.out, r1, if_pos rfl, List.length_append, HA.out.1]; exact O4.out
          case measure => simp [intOf]; omega
        · have r1 : (c == 97) = false := by simp [q1]
          clear q1
          by_cases q2 : c = 116
          · have r2 : (c == 116) = true := by simp [q2]
            have HI : Hid (isN c = false) := by rw [Hid, q2]; rfl
            have LT := hid (O2.out.t.below hb.out)
            have HT := hid O2.out.t.1
            have ht64 : o.t.n ≤ 64 := by
              have := (chk0 HC.out).2.2.2
              rw [← HT.out]; exact this
            clear q2
            go_wp2_with (at_builtin; refine wpList_appB rfl _ _ rfl rfl rfl hown.out LT.out ?c3o ?c4 ?_)
            case c3o => exact hb.out.size
            case c4 => omega
            intro v4 w4 ho4 hb4
            have B5 := hid (hb.out.trans hb4)
            have O4 := hid ho4
            clear ho4 hb4
            go_wp2_with fail
            go_roundw
            case rel =>
              refine ⟨i + 1, by omega, by go_num, by rw [X4.out, HI.out]; simp, ?_, B5.out⟩
              rw [Hid, X5.out, r1, r2, if_neg (by simp), if_pos rfl, List.length_append, HT.out]; exact O4.out
            case measure => simp [intOf]; omega
          · have r2 : (c == 116) = false := by simp [q2]
            clear q2
            by_cases q3 : c = 120
            · have r3 : (c == 120) = true := by simp [q3]
              have HI : Hid (isN c = false) := by rw [Hid, q3]; rfl
              obtain ⟨hi0, hk1⟩ := X1.out q3
              obtain ⟨mm, hmm, hm255⟩ := HP1.out hk1
              have hnn : o.n.n = 1 := by rw [← O2.out.n.1, hmm]; rfl
              obtain ⟨nb, noff, hna, hnc⟩ := (O2.out.n.below hb.out).2.2.2.2 0 (by omega)
              rw [hmm] at hnc
              simp only [List.getD_cons_zero, Nat.add_zero] at hnc
              rw [hna, hnn] at a1
              obtain ⟨i0, hinf, hz0, hz1, hz2⟩ := info_parts info5
              have HInf := hid hinf
              have HI0 := hid hi0
              have HMM := hid hmm
              clear q3 hi0 hk1 hmm hinf hnn hna
              go_wp2_with (at_make; refine wpList_make_full _ rfl _ _ 33 rfl w2.heap.size 5 i0 (.int .u8 0) 1 Tryd.underlying33 HInf.out hz0 hz1 .i64 .i64 _ _ mm rfl rfl rfl rfl ?b1 ?b2 ?b3 ?_)
              case b1 => rw [hz2]; omega
              case b2 => unfold maxLen; omega
              case b3 => exact hb.out.size
              intro w4 hown4 hg4
              have B5 := hid (Below.grown hb.out hg4 hb.out.size (fun k hk => by cases hk))
              rw [made_u8] at hown4
              have O4 := hid hown4
              clear hown4 hg4
              go_wp2_with fail
              go_roundw
              case rel =>
                refine ⟨i + 1, by omega, by go_num, by rw [X4.out, HI.out]; simp, ?_, B5.out⟩
                rw [Hid, X5.out, r1, r2, r3, if_neg (by simp), if_neg (by simp), if_pos rfl, HI0.out, HMM.out]
                have e0 : rBto (cl k) [(mm : Int)] o.ad o.t.l 0 = [] := rfl
                rw [e0]
                simpa using O4.out
              case measure => simp [intOf]; omega
            · have r3 : (c == 120) = false := by simp [q3]
              have HI : Hid (isN c = true) := by rw [Hid, isN, r1, r2, r3]; rfl
              clear q3
              obtain ⟨haj, hsz⟩ := X2.out HI.out
              have hgd := X3.out HI.out
              have hin := HW.out _ haj
              rw [hgd] at hin
              have hgood : goodc c (o.n.l.getD (acnt (cl k) i) 0) = true := (goodc_in c _ hsz).trans hin
              have HOk := hid (goodc_ok hgood)
              have HWf := hid (okB_wf HOk.out)
              have HSZ := hid hsz
              have hajn : acnt (cl k) i < o.n.n := by rw [HLn.out]; exact haj
              have hajn' : ((acnt (cl k) i : Nat) : Int) < (o.n.n : Int) := by omega
              obtain ⟨nb, noff, hna, hnc⟩ := (O2.out.n.below hb.out).2.2.2.2 _ hajn
              have b1 := a1
              rw [hna] at b1
              have hn10 : o.n.n ≤ 10 := by rw [HLn.out]; exact Nat.le_trans (nmb_le _) (prt_small k hk).1
              generalize o.n.l.getD (acnt (cl k) i) 0 = z at *
              generalize hajq : acnt (cl k) i = aj at *
              clear hgd hin hgood hsz haj a1 hna hajq
              go_wp2_with fail
              refine wp_region_held_drew (S := fun w' => w'.cell? ⟨g1, 1, none⟩ = some (.slice (some ⟨nb, noff, none⟩) o.n.n o.n.cap) ∧ w'.cell? ⟨nb, noff + aj, none⟩ = some (.int .i64 z)) (by kernel_rfl) ?_ (fun hHeld => ?_)
              · exact ⟨b1, hnc⟩
              refine wpAnyH_take (i := 0) (oi := _) (v := ?va0) rfl (by kernel_rfl) (by kernel_rfl) (by kernel_rfl) (fun _ _ _ h => h) (Or.inl ⟨by rfl, ?hya0⟩) (by assumption) ?resta0
              case hya0 => (intro w hSw; (try dsimp only at hSw); go_split_ands; go_simp; try (with_reducible rfl))
              try simp only [List.getElem_toArray, List.getElem_cons_zero, List.getElem_cons_succ, Act.put, List.setIfInBounds_toArray, List.set_cons_zero, List.set_cons_succ]
              refine wpAnyH_take (i := 1) (oi := _) (v := ?va1) rfl (by kernel_rfl) (by kernel_rfl) (by kernel_rfl) (fun _ _ _ h => h) (Or.inl ⟨by rfl, ?hya1⟩) (by assumption) ?resta1
              case hya1 => (intro w hSw; (try dsimp only at hSw); go_split_ands; go_simp; try (with_reducible rfl))
              try simp only [List.getElem_toArray, List.getElem_cons_zero, List.getElem_cons_succ, Act.put, List.setIfInBounds_toArray, List.set_cons_zero, List.set_cons_succ]
              refine wpAnyH_take (i := 2) (oi := _) (v := ?va2) rfl (by kernel_rfl) (by kernel_rfl) (by kernel_rfl) (fun _ _ _ h => h) (Or.inl ⟨by rfl, ?hya2⟩) (by assumption) ?resta2
              case hya2 => (intro w hSw; (try dsimp only at hSw); go_split_ands; go_simp; try (with_reducible rfl))
              try simp only [List.getElem_toArray, List.getElem_cons_zero, List.getElem_cons_succ, Act.put, List.setIfInBounds_toArray, List.set_cons_zero, List.set_cons_succ]
              refine wpAnyH_take (i := 4) (oi := _) (v := ?va4) rfl (by kernel_rfl) (by kernel_rfl) (by kernel_rfl) (fun _ _ _ h => h) (Or.inl ⟨by rfl, ?hya4⟩) (by assumption) ?resta4
              case hya4 => (intro w hSw; (try dsimp only at hSw); go_split_ands; go_simp; try (with_reducible rfl))
              try simp only [List.getElem_toArray, List.getElem_cons_zero, List.getElem_cons_succ, Act.put, List.setIfInBounds_toArray, List.set_cons_zero, List.set_cons_succ]
              refine wpAnyH_take (i := 5) (oi := _) (v := ?va5) rfl (by kernel_rfl) (by kernel_rfl) (by kernel_rfl) (fun _ _ _ h => h) (Or.inl ⟨by rfl, ?hya5⟩) (by assumption) ?resta5
              case hya5 => (intro w hSw; (try dsimp only at hSw); go_split_ands; go_simp; try (with_reducible rfl))
              try simp only [List.getElem_toArray, List.getElem_cons_zero, List.getElem_cons_succ, Act.put, List.setIfInBounds_toArray, List.set_cons_zero, List.set_cons_succ]
              refine wpAnyH_take (i := 6) (oi := _) (v := ?va6) rfl (by kernel_rfl) (by kernel_rfl) (by kernel_rfl) (fun _ _ _ h => h) (Or.inl ⟨by rfl, ?hya6⟩) (by assumption) ?resta6
              case hya6 => (intro w hSw; (try dsimp only at hSw); go_split_ands; go_simp; try (with_reducible rfl))
              try simp only [List.getElem_toArray, List.getElem_cons_zero, List.getElem_cons_succ, Act.put, List.setIfInBounds_toArray, List.set_cons_zero, List.set_cons_succ]
              refine wpAnyH_take (i := 7) (oi := _) (v := ?va7) rfl (by kernel_rfl) (by kernel_rfl) (by kernel_rfl) (fun _ _ _ h => h) (Or.inl ⟨by rfl, ?hya7⟩) (by assumption) ?resta7
              case hya7 => (intro w hSw; (try dsimp only at hSw); go_split_ands; go_simp; try (with_reducible rfl))
              try simp only [List.getElem_toArray, List.getElem_cons_zero, List.getElem_cons_succ, Act.put, List.setIfInBounds_toArray, List.set_cons_zero, List.set_cons_succ]
              refine wpAnyH_take (i := 8) (oi := _) (v := ?va8) rfl (by kernel_rfl) (by kernel_rfl) (by kernel_rfl) (fun _ _ _ h => h) (Or.inl ⟨by rfl, ?hya8⟩) (by assumption) ?resta8
              case hya8 => (intro w hSw; (try dsimp only at hSw); go_split_ands; go_simp; try (with_reducible rfl))
              try simp only [List.getElem_toArray, List.getElem_cons_zero, List.getElem_cons_succ, Act.put, List.setIfInBounds_toArray, List.set_cons_zero, List.set_cons_succ]
              refine wpAnyH_ready (rs := [3]) (by kernel_rfl) (by simp) ?_
              refine AllReadyH.cons (o := _) rfl (fun K hK => ?_) AllReadyH.nil
              go_simp
              refine (rsize_any c _).mono ?_
              rintro e w6 ⟨rfl, rfl⟩
              go_wp2_with fail
              refine hK.out _ _ ⟨b1, hnc⟩ (fun hHeld => ?_)
              clear hK K
              try simp only [List.getElem_toArray, List.getElem_cons_zero, List.getElem_cons_succ, Act.put, List.setIfInBounds_toArray, List.set_cons_zero, List.set_cons_succ]
              refine wpAnyH_ready (rs := [9]) (by kernel_rfl) (by simp) ?_
              refine AllReadyH.cons (o := _) rfl (fun K hK => ?_) AllReadyH.nil
              go_simp
              refine (digits_any (szc c) z _ HSZ.out HWf.out).mono ?_
              rintro e w7 ⟨da, dk, dc, rfl, hb7, hdl⟩
              have hb7 : Below wr.heap.size wr w7 := ⟨hb7.os, hb7.tape, hb7.output, hb7.size, hb7.block⟩
              obtain ⟨hdk, hdL⟩ := hdl HOk.out
              have DL := hid hdL
              have HDK := hid hdk
              have B7 := hid (bthen hb.out hb7)
              have O7 := hid (own_below hown.out hb7)
              have d1 := (hb7.cell (p := ⟨g1, 1, none⟩) (World.block_lt_of_cell? wr _ b1)).trans b1
              have d2 := (hb7.cell (p := ⟨nb, noff + aj, none⟩) (World.block_lt_of_cell? wr _ hnc)).trans hnc
              rw [HOk.out]
              clear hdk hdL hdl hb7
              go_wp2_with fail
              refine hK.out _ _ ⟨d1, d2⟩ (fun hHeld => ?_)
              clear hK K
              try simp only [List.getElem_toArray, List.getElem_cons_zero, List.getElem_cons_succ, Act.put, List.setIfInBounds_toArray, List.set_cons_zero, List.set_cons_succ]
              refine wpAnyH_take (i := 10) (oi := _) (v := ?va10) rfl (by kernel_rfl) (by kernel_rfl) (by kernel_rfl) (fun _ _ _ h => h) (Or.inl ⟨by rfl, ?hya10⟩) (by assumption) ?resta10
              case hya10 => (intro w hSw; (try dsimp only at hSw); go_split_ands; go_simp; try (with_reducible rfl))
              try simp only [List.getElem_toArray, List.getElem_cons_zero, List.getElem_cons_succ, Act.put, List.setIfInBounds_toArray, List.set_cons_zero, List.set_cons_succ]
              refine wpAnyH_take (i := 11) (oi := _) (v := ?va11) rfl (by kernel_rfl) (by kernel_rfl) (by kernel_rfl) (fun _ _ _ h => h) (Or.inl ⟨by rfl, ?hya11⟩) (by assumption) ?resta11
              case hya11 => (intro w hSw; (try dsimp only at hSw); go_split_ands; go_simp; try (with_reducible rfl))
              try simp only [List.getElem_toArray, List.getElem_cons_zero, List.getElem_cons_succ, Act.put, List.setIfInBounds_toArray, List.set_cons_zero, List.set_cons_succ]
              refine wpAnyH_take (i := 12) (oi := _) (v := ?va12) rfl (by kernel_rfl) (by kernel_rfl) (by kernel_rfl) (fun _ _ _ h => h) (Or.inl ⟨by rfl, ?hya12⟩) (by assumption) ?resta12
              case hya12 => (intro w hSw; (try dsimp only at hSw); go_split_ands; go_simp; try (with_reducible rfl))
              try simp only [List.getElem_toArray, List.getElem_cons_zero, List.getElem_cons_succ, Act.put, List.setIfInBounds_toArray, List.set_cons_zero, List.set_cons_succ]
              refine wpAnyH_take (i := 13) (oi := _) (v := ?va13) rfl (by kernel_rfl) (by kernel_rfl) (by kernel_rfl) (fun _ _ _ h => h) (Or.inl ⟨by rfl, ?hya13⟩) (by assumption) ?resta13
              case hya13 => (intro w hSw; (try dsimp only at hSw); go_split_ands; go_simp; try (with_reducible rfl))
              try simp only [List.getElem_toArray, List.getElem_cons_zero, List.getElem_cons_succ, Act.put, List.setIfInBounds_toArray, List.set_cons_zero, List.set_cons_succ]
              refine wpAnyH_take (i := 14) (oi := _) (v := ?va14) rfl (by kernel_rfl) (by kernel_rfl) (by kernel_rfl) (fun _ _ _ h => h) (Or.inl ⟨by rfl, ?hya14⟩) (by assumption) ?resta14
              case hya14 => (intro w hSw; (try dsimp only at hSw); go_split_ands; go_simp; try (with_reducible rfl))
              try simp only [List.getElem_toArray, List.getElem_cons_zero, List.getElem_cons_succ, Act.put, List.setIfInBounds_toArray, List.set_cons_zero, List.set_cons_succ]
              refine wpAnyH_done (by kernel_rfl) ?_ _
              have hdl4 : dk ≤ 4 := by rw [HDK.out, digs_length _ _ HSZ.out]; rcases sizeB_cases HSZ.out with e | e | e <;> rw [e] <;> decide
              go_wp2_with (at_builtin; refine wpList_appB rfl _ _ rfl rfl rfl O7.out DL.out ?c5 ?c6 ?_)
              case c5 => exact B7.out.size
              case c6 => omega
              intro v8 w8 ho8 hb8
              have B9 := hid (B7.out.trans hb8)
              have O8 := hid ho8
              clear ho8 hb8
              go_wp2_with fail
              go_roundw
              case rel =>
                refine ⟨i + 1, by omega, by go_num, by rw [X4.out, HI.out, if_pos rfl]; go_num, ?_, B9.out⟩
                rw [Hid, X5.out, r1, r2, r3, if_neg (by simp), if_neg (by simp), if_neg (by simp), List.length_append, ← HDK.out]; exact O8.out
              case measure => simp [intOf]; omega
      · obtain rfl : i = (chs k).size := by omega
        rw [HCon.out] at hown
        obtain ⟨ba, bc, rfl, hbl, _⟩ := owns_lies hown.out
        have BL := hid hbl
        generalize hcl : (conP k o.p).length = cl' at *
        have HCl := hid hcl
        have hwl : IntKind.u8.wrap (cl' : Int) = (cl' : Int) := by rw [IntKind.wrap_u8]; omega
        have c0 := ((R2.out.below hb.out).cell 0).trans o.at0
        rw [HK.out] at c0
        clear hbl hcl
        have OW := hid (owns_lit (e := 5) (size := 1) (base := wr.heap.size) wr #[.int .u8 k, .int .u8 cl'] 2 (Nat.le_refl _) (by decide) (by simp))
        have BA := hid (balloc (Below.refl wr.heap.size wr) (.cells #[.int .u8 k, .int .u8 cl'] 5))
        have BL2 := hid (BL.out.below BA.out)
        go_wp2_with (at_builtin; refine wpList_appB (base := wr.heap.size) (n := 2) (xs := [(k : Int), (cl' : Int)]) rfl _ _ rfl rfl rfl OW.out BL2.out (by exact BA.out.size) ?c8 ?_)
        case c8 => omega
        intro v9 w9 ho9 hb9
        have O9 := hid ho9
        have B9 := hid (BA.out.trans hb9)
        clear ho9 hb9
        go_wp2_with fail
        go_ret
        refine ⟨_, rfl, ?_, by rw [hg1]; exact B2.out.trans ((bthen hb.out B9.out).mono (by have := B2.out.size; omega))⟩
        rw [HE.out, hg1]
        refine own_mono (b := wr.heap.size) ?_ (by have := hb.out.size; have := B2.out.size; omega)
        refine ownsRow_u8 O9.out ?_ rfl
        simp [HCl.out]; omega
end Go.Proofs.YtbfjkhafdkhhmaaDoor
