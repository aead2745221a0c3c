/- What the rows' lists give, and how options that came in are opened. · The document's answer: the bytes of options, EncodeAll. · An argument that is a list of options: its numbers are int's. · The document's Decode. -/
import Derived.Test.YtbgogeojdibmkaaDoorM7
import Derived.Test.YtbgogeojdibmkaaDoorCards
import Derived.Test.YtbgogeojdibmkaaDoorTie
import Derived.Deep.DeepHandedRow
import Derived.Lib.LaidTab
import Derived.Stop.LaidErr
import Derived.LaidLaws
import Derived.ChangeOld
import Derived.Carry
import Derived.Test.YtbgogeojdibmkaaDoorM16
import Derived.Test.YtbgogeojdibmkaaDoorM17
import Derived.Test.YtbgogeojdibmkaaDoorM19
import Derived.Test.YtbgogeojdibmkaaDoorM14
namespace Go.Proofs.YtbgogeojdibmkaaDoor
open Go.ChangeShapes Go.WideShapes Go.ChangeAt Go.RowKit Go.Deep
set_option linter.unusedVariables false
set_option linter.unusedSimpArgs false
set_option maxRecDepth 100000

theorem g0 : Tryd.prog.globalNamed "rivulet/option.shapes" = some 0 := by kernel_rfl
theorem gt0 : (Tryd.prog.globals[0]?).map (·.type) = some 63 := by kernel_rfl
theorem u63 : Tryd.prog.underlying 63 = some (.array 10 62) := by kernel_rfl
theorem u62 : Tryd.prog.underlying 62 = some (.struct (Tryd.prog.fieldsOf 62)) := by kernel_rfl
theorem u87 : Tryd.prog.underlying 87 = some (.struct (Tryd.prog.fieldsOf 87)) := by kernel_rfl
theorem u60 : Tryd.prog.underlying 60 = some (.slice 87) := by kernel_rfl
theorem c62 : Tryd.prog.cellsOf 62 = 4 := by kernel_rfl
theorem c63 : Tryd.prog.cellsOf 63 = 40 := by kernel_rfl
theorem c87 : Tryd.prog.cellsOf 87 = 2 := by kernel_rfl
theorem c60 : Tryd.prog.cellsOf 60 = 1 := by kernel_rfl
theorem c9 : Tryd.prog.cellsOf 9 = 1 := by kernel_rfl
theorem c4 : Tryd.prog.cellsOf 4 = 1 := by kernel_rfl
theorem c3 : Tryd.prog.cellsOf 3 = 1 := by kernel_rfl
theorem fs62 : (Tryd.prog.fieldsOf 62).toList.map (fun f => (f.type, f.offset)) = [(9, 0), (60, 1), (4, 2), (4, 3)] := by kernel_rfl
theorem fs87 : (Tryd.prog.fieldsOf 87).toList.map (fun f => (f.type, f.offset)) = [(3, 0), (3, 1)] := by kernel_rfl

/-- The fields of a struct, each read by itself. -/
theorem fields_of {H : Type} {enc : TypeId × Value → H} {W : World} {held : Bool} {fuel : Nat} {t : TypeId} {cs : List Value} {x : DataW H × List MemPlace} (hu : Tryd.prog.underlying t = some (.struct (Tryd.prog.fieldsOf t)))
    (l : List (TypeId × Nat)) (hl : (Tryd.prog.fieldsOf t).toList.map (fun f => (f.type, f.offset)) = l) (h : DataW.trod enc Tryd.prog W 0 (fun _ => true) held fuel t cs = some x) :
    ∃ (xs : List (DataW H × List MemPlace)) (n : Nat), x = (.agg (xs.map (·.1)), xs.flatMap (·.2)) ∧ cs.length = Tryd.prog.cellsOf t ∧ xs.length = l.length ∧
      ∀ (i : Nat) (ty : TypeId) (o : Nat), l[i]? = some (ty, o) → DataW.trod enc Tryd.prog W 0 (fun _ => true) held n ty ((cs.drop o).take (Tryd.prog.cellsOf ty)) = xs[i]? := by
  obtain ⟨xs, n, _, hx, hlen, hxl, hall⟩ := DataW.trod_struct hu h
  have hsz : (Tryd.prog.fieldsOf t).size = l.length := by have := congrArg List.length hl; simpa using this
  refine ⟨xs, n, hx, hlen, hxl.trans hsz, ?_⟩
  intro i ty o he
  have hi : i < (Tryd.prog.fieldsOf t).size := by rw [hsz]; exact (List.getElem?_eq_some_iff.1 he).1
  have e1 := congrArg (·[i]?) hl
  simp only [List.getElem?_map, he] at e1
  have e2 : (Tryd.prog.fieldsOf t).toList[i]? = some (Tryd.prog.fieldsOf t)[i] := by simp [hi]
  rw [e2] at e1
  simp only [Option.map_some, Option.some.injEq, Prod.mk.injEq] at e1
  have := hall i _ (Array.getElem?_eq_getElem hi)
  rw [e1.1, e1.2] at this
  exact this

/-- A part as a datum. -/
def pd {H : Type} (p : Int × Int) : DataW H := .agg [.lit (.int .i64 p.1), .lit (.int .i64 p.2)]
def pdat {H : Type} (l : List (Int × Int)) : DataW H := match l with | [] => .nil | _ => .slice (l.map pd) []
theorem pd_inj {H : Type} (p q : Int × Int) (h : (pd p : DataW H) = pd q) : p = q := by
  simp [pd] at h; exact Prod.ext h.1 h.2
theorem part_of {H : Type} {enc : TypeId × Value → H} {W : World} {held : Bool} {fuel : Nat} {cs : List Value} {x : DataW H × List MemPlace} (h : DataW.trod enc Tryd.prog W 0 (fun _ => true) held fuel 87 cs = some x) :
    ∃ p : Int × Int, cs = [.int .i64 p.1, .int .i64 p.2] ∧ x.1 = pd p := by
  obtain ⟨xs, n, rfl, hlen, hxl, hall⟩ := fields_of u87 _ fs87 h
  rw [c87] at hlen
  match xs, hxl, cs, hlen with
  | [y0, y1], _, [v0, v1], _ =>
    have h0 := hall 0 3 0 rfl
    have h1 := hall 1 3 1 rfl
    rw [c3] at h0 h1
    simp at h0 h1
    obtain ⟨z0, e0, f0, _⟩ := DataW.trod_int Tryd.underlying3 h0
    obtain ⟨z1, e1, f1, _⟩ := DataW.trod_int Tryd.underlying3 h1
    simp at e0 e1
    subst e0; subst e1
    refine ⟨(z0, z1), rfl, ?_⟩
    simp [pd, f0, f1]
theorem parts_of {H : Type} {enc : TypeId × Value → H} {W : World} {held : Bool} {fuel : Nat} {cs : List Value} {x : DataW H × List MemPlace} (l : List (Int × Int)) (h : DataW.trod enc Tryd.prog W 0 (fun _ => true) held fuel 60 cs = some x) (hx : x.1 = pdat l) :
    ∃ a n cap, cs = [.slice a n cap] ∧ PLies W.heap.size W a n cap l := by
  rcases open_slice u60 h with ⟨hcs, rfl⟩ | ⟨ad, len, cap, m, n, D, Pl, hcs, _, hl, hm, hmm, rfl, hall⟩
  · match l, hx with
    | [], _ => exact ⟨none, 0, 0, hcs, rfl, Nat.le_refl _, by decide, fun i hi => by omega⟩
    | p :: l, hx => simp [pdat] at hx
  · match l, hx with
    | [], hx => simp [pdat] at hx
    | p :: l, hx =>
      generalize p :: l = L at *
      have hx : (DataW.slice ((List.range len).map D) ((List.range (m - len)).map fun j => D (len + j)) : DataW H) = .slice (L.map pd) [] := by
        simp only [pdat] at hx
        split at hx
        · cases hx
        · exact hx
      injection hx with hx1 _
      have hlen : L.length = len := by have := congrArg List.length hx1; simpa using this.symm
      have hspot : len ≠ 0 → ad.spot = none := by
        intro h0
        obtain ⟨cs', h1, h2⟩ := hall 0 (by simp at hmm; omega)
        rw [c87] at h1
        obtain ⟨_, hl2, hc⟩ := World.cells?_some h1
        have e0 := hc 0 (by omega)
        rw [List.getElem?_eq_getElem (by omega)] at e0
        exact World.cell?_spot (by simpa [Addr.add] using e0)
      obtain ⟨b, off, spot⟩ := ad
      refine ⟨some ⟨b, off, spot⟩, len, cap, hcs, hlen, hl, hm, fun i hi => ?_⟩
      have hs := hspot (by omega)
      simp only at hs
      subst hs
      obtain ⟨cs', h1, h2⟩ := hall i (by simp at hmm; omega)
      rw [c87] at h1
      obtain ⟨_, hl2, hc⟩ := World.cells?_some h1
      obtain ⟨q, rfl, hq⟩ := part_of h2
      have hDi : D i = pd (L.getD i (0, 0)) := by
        have := congrArg (·[i]?) hx1
        simp only [List.getElem?_map, List.getElem?_range hi, Option.map_some] at this
        rw [List.getElem?_eq_getElem (by omega)] at this
        simp only [Option.map_some, Option.some.injEq] at this
        rw [this]; simp [show i < L.length by omega]
      have hqq : q = L.getD i (0, 0) := pd_inj _ _ (hq.symm.trans hDi)
      subst hqq
      have e0 := hc 0 (by omega)
      have e1 := hc 1 (by omega)
      simp only [Addr.add_lit, Nat.add_zero, List.getElem?_cons_zero, List.getElem?_cons_succ] at e0 e1
      exact ⟨b, off, rfl, World.block_lt_of_cell? W _ e0, e0, e1⟩
/-- A kind as a datum. -/
def shD {H : Type} (k : Nat) : DataW H := .agg [.lit (.string (wrd k).data.toList), pdat (prt k), .lit (.bool (zer k)), .lit (.bool (txb k))]
theorem laid_eq : (Rows.laid_rivulet_option_shapes : DataW Unit) = .agg ((List.range 10).map shD) := by kernel_rfl
theorem shape_of {enc : TypeId × Value → Unit} {W : World} {held : Bool} {fuel : Nat} {cs : List Value} {x : DataW Unit × List MemPlace} (k : Nat) (h : DataW.trod enc Tryd.prog W 0 (fun _ => true) held fuel 62 cs = some x) (hx : x.1 = shD k) :
    ∃ a n cap, cs = [.string (wrd k), .slice a n cap, .bool (zer k), .bool (txb k)] ∧ PLies W.heap.size W a n cap (prt k) := by
  obtain ⟨xs, n, rfl, hlen, hxl, hall⟩ := fields_of u62 _ fs62 h
  rw [c62] at hlen
  match xs, hxl, cs, hlen with
  | [y0, y1, y2, y3], _, [v0, v1, v2, v3], _ =>
    have h0 := hall 0 9 0 rfl
    have h1 := hall 1 60 1 rfl
    have h2 := hall 2 4 2 rfl
    have h3 := hall 3 4 3 rfl
    rw [c9] at h0
    rw [c60] at h1
    rw [c4] at h2 h3
    simp at h0 h1 h2 h3
    simp [shD] at hx
    obtain ⟨s, e0, f0, _⟩ := DataW.trod_string Tryd.underlying9 h0
    obtain ⟨a, m, cap, e1, hP⟩ := parts_of (prt k) h1 hx.2.1
    obtain ⟨b2, e2, f2⟩ := DataW.trod_bool Tryd.underlying4 h2
    obtain ⟨b3, e3, f3⟩ := DataW.trod_bool Tryd.underlying4 h3
    simp at e0 e1 e2 e3
    subst e0; subst e1; subst e2; subst e3
    rw [f0, f2, f3] at hx
    simp at hx
    obtain ⟨q0, _, q2, q3⟩ := hx
    refine ⟨a, m, cap, ?_, hP⟩
    have hs : s = wrd k := by
      have : s.data = (wrd k).data := by simpa using q0
      cases s; cases hw : wrd k; simp_all
    rw [hs, q2, q3]
theorem vars_of {W : World} (h : laidMetH Tryd.prog Rows.optionJoinsRow.laid W) : Vars W.heap.size W := by
  have h : laidMet Tryd.prog [("rivulet/option.shapes", Rows.laid_rivulet_option_shapes)] W := h
  obtain ⟨ps, ⟨g, t, cs, fuel, p, q, hg, ht, hvar, hd, _, _⟩, _⟩ := h
  obtain rfl := Option.some.inj (g0.symm.trans hg)
  obtain rfl := Option.some.inj (gt0.symm.trans ht)
  rw [laid_eq] at hd
  obtain ⟨xs, m, _, hx, hlen, hxl, hall⟩ := DataW.trod_array u63 hd
  have hx1 : (DataW.agg ((List.range 10).map shD) : DataW Unit) = .agg (xs.map (·.1)) := congrArg Prod.fst hx
  injection hx1 with hx1
  rw [c63] at hlen
  rw [c62] at hall
  have key : ∀ k, k < 10 → ∃ a n cap, (cs.toList.drop (k * 4)).take 4 = [.string (wrd k), .slice a n cap, .bool (zer k), .bool (txb k)] ∧ PLies W.heap.size W a n cap (prt k) := by
    intro k hk
    have h1 := hall k hk
    rw [List.getElem?_eq_getElem (by omega)] at h1
    refine shape_of k h1 ?_
    have := congrArg (·[k]?) hx1
    simp only [List.getElem?_map, List.getElem?_range hk, Option.map_some] at this
    rw [List.getElem?_eq_getElem (by omega)] at this
    simpa using this.symm
  have cell : ∀ k j v, k < 10 → j < 4 → ((cs.toList.drop (k * 4)).take 4)[j]? = some v → W.cell? ⟨0, k * 4 + j, none⟩ = some v := by
    intro k j v hk hj hv
    have h0 := World.var?_cell g0 hvar (k * 4 + j)
    rw [h0]
    rw [List.getElem?_take, if_pos hj, List.getElem?_drop] at hv
    simpa using hv
  have c0 : W.cell? ⟨0, 0, none⟩ = some (.string (wrd 0)) := by
    obtain ⟨a, n, cap, e, _⟩ := key 0 (by decide)
    exact cell 0 0 _ (by decide) (by decide) (by rw [e]; rfl)
  refine ⟨World.block_lt_of_cell? W _ c0, Nat.le_refl _, fun k hk => ?_, fun k hk => ?_, fun k hk => ?_, fun k hk => ?_⟩
  · obtain ⟨a, n, cap, e, _⟩ := key k hk
    exact cell k 0 _ hk (by decide) (by rw [e]; rfl)
  · obtain ⟨a, n, cap, e, hP⟩ := key k hk
    exact ⟨a, n, cap, cell k 1 _ hk (by decide) (by rw [e]; rfl), hP⟩
  · obtain ⟨a, n, cap, e, _⟩ := key k hk
    exact cell k 2 _ hk (by decide) (by rw [e]; rfl)
  · obtain ⟨a, n, cap, e, _⟩ := key k hk
    exact cell k 3 _ hk (by decide) (by rw [e]; rfl)

/-! How options that came in are opened. -/
theorem u38 : Tryd.prog.underlying 38 = some (.struct (Tryd.prog.fieldsOf 38)) := by kernel_rfl
theorem fs38 : (Tryd.prog.fieldsOf 38).toList.map (fun f => (f.type, f.offset)) = [(3, 0), (35, 1), (36, 2), (26, 18)] := by kernel_rfl
theorem c38 : Tryd.prog.cellsOf 38 = 19 := by kernel_rfl
theorem c35 : Tryd.prog.cellsOf 35 = 1 := by kernel_rfl
theorem c36 : Tryd.prog.cellsOf 36 = 16 := by kernel_rfl
theorem c26 : Tryd.prog.cellsOf 26 = 1 := by kernel_rfl
theorem adr_of {H : Type} {enc : TypeId × Value → H} {W : World} {held : Bool} {fuel : Nat} {cs : List Value} {x : DataW H × List MemPlace} (h : DataW.trod enc Tryd.prog W 0 (fun _ => true) held fuel 36 cs = some x) : ∃ l, cs = u8s l ∧ Adr l := by
  obtain ⟨xs, m, _, hx, hlen, hxl, hall⟩ := DataW.trod_array Tryd.underlying36 h
  rw [c36] at hlen
  rw [c5] at hall
  have key : ∀ i, i < 16 → ∃ z, cs[i]? = some (.int .u8 z) ∧ 0 ≤ z ∧ z < 256 := by
    intro i hi
    have h1 := hall i hi
    rw [Nat.mul_one, List.getElem?_eq_getElem (by omega)] at h1
    obtain ⟨z, hz, _, hw⟩ := DataW.trod_int Tryd.underlying5 h1
    have h2 : cs[i]? = some (.int .u8 z) := by
      have := congrArg (·[0]?) hz
      simpa [List.getElem?_take, List.getElem?_drop] using this
    exact ⟨z, h2, wf_u8 hw⟩
  refine ⟨cs.map intOf, ?_, ?_, ?_⟩
  · apply List.ext_getElem?
    intro i
    by_cases hi : i < 16
    · obtain ⟨z, hz, _⟩ := key i hi
      simp only [u8s, List.getElem?_map, hz, Option.map_some, intOf]
    · rw [List.getElem?_eq_none (by omega), List.getElem?_eq_none (by simp [u8s]; omega)]
  · simpa using hlen
  · intro x hx
    simp only [List.mem_map] at hx
    obtain ⟨v, hv, rfl⟩ := hx
    obtain ⟨i, hi, rfl⟩ := List.mem_iff_getElem.1 hv
    obtain ⟨z, hz, h0, h1⟩ := key i (by omega)
    rw [List.getElem?_eq_getElem hi] at hz
    rw [Option.some.inj hz]
    exact ⟨h0, h1⟩
theorem row_of {H : Type} {enc : TypeId × Value → H} {W : World} {held : Bool} {fuel : Nat} {cs : List Value} {x : DataW H × List MemPlace} {t e : TypeId} {kd : IntKind} (ht : Tryd.prog.underlying t = some (.slice e)) (he : Tryd.prog.underlying e = some (.int kd)) (hc : Tryd.prog.cellsOf e = 1)
    (h : DataW.trod enc Tryd.prog W 0 (fun _ => true) held fuel t cs = some x) : ∃ (a : Option Addr) (n cap : Nat) (zs : List Int), cs = [.slice a n cap] ∧ IsRow kd W a n cap zs := by
  rcases open_ints ht he hc h with ⟨hcs, _⟩ | ⟨y, l', c', zs, hcs, _, hl', hm', hz', _, hc', hwz⟩
  · exact ⟨none, 0, 0, [], hcs, .inl ⟨rfl, rfl, rfl, rfl⟩⟩
  · exact ⟨some y, l', c', zs, hcs, .inr ⟨y, rfl, hl', hm', by simpa using hz', hc', hwz⟩⟩
theorem opt_of {H : Type} {enc : TypeId × Value → H} {W : World} {held : Bool} {fuel : Nat} {cs : List Value} {x : DataW H × List MemPlace} (h : DataW.trod enc Tryd.prog W 0 (fun _ => true) held fuel 38 cs = some x) : ∃ o : Ov, cs = o.cs.toList ∧ o.ok W := by
  obtain ⟨xs, n, rfl, hlen, hxl, hall⟩ := fields_of u38 _ fs38 h
  rw [c38] at hlen
  have key : ∀ (i : Nat) (ty : TypeId) (o : Nat), [(3, 0), (35, 1), (36, 2), (26, 18)][i]? = some (ty, o) → ∃ y, DataW.trod enc Tryd.prog W 0 (fun _ => true) held n ty ((cs.drop o).take (Tryd.prog.cellsOf ty)) = some y := by
    intro i ty o he
    have hi : i < 4 := (List.getElem?_eq_some_iff.1 he).1
    have := hall i ty o he
    rw [List.getElem?_eq_getElem (by rw [hxl]; exact hi)] at this
    exact ⟨_, this⟩
  obtain ⟨y0, h0⟩ := key 0 3 0 rfl
  obtain ⟨y1, h1⟩ := key 1 35 1 rfl
  obtain ⟨y2, h2⟩ := key 2 36 2 rfl
  obtain ⟨y3, h3⟩ := key 3 26 18 rfl
  rw [c3] at h0
  rw [c35] at h1
  rw [c36] at h2
  rw [c26] at h3
  obtain ⟨k, e0, _⟩ := DataW.trod_int Tryd.underlying3 h0
  obtain ⟨na, nl, nc, nz, e1, hr1⟩ := row_of Tryd.underlying35 Tryd.underlying3 c3 h1
  obtain ⟨ad, e2, hA⟩ := adr_of h2
  obtain ⟨ta, tl, tc, tz, e3, hr3⟩ := row_of Tryd.underlying26 Tryd.underlying5 c5 h3
  refine ⟨⟨k, ⟨na, nl, nc, nz.take nl⟩, ad, ⟨ta, tl, tc, tz.take tl⟩⟩, ?_, hr1.lies, hA, hr3.lies, oct_take hr3.oct _⟩
  have s0 : cs = cs.take 1 ++ ((cs.drop 1).take 1 ++ ((cs.drop 2).take 16 ++ (cs.drop 18).take 1)) := by
    have t3 : (cs.drop 18).take 1 = cs.drop 18 := List.take_of_length_le (by simp; omega)
    have t2 : (cs.drop 2).take 16 ++ cs.drop 18 = cs.drop 2 := by
      have := List.take_append_drop 16 (cs.drop 2)
      rwa [List.drop_drop] at this
    have t1 : (cs.drop 1).take 1 ++ cs.drop 2 = cs.drop 1 := by
      have := List.take_append_drop 1 (cs.drop 1)
      rwa [List.drop_drop] at this
    rw [t3, t2, t1, List.take_append_drop]
  rw [List.drop_zero] at e0
  rw [s0, e0, e1, e2, e3]
  simp [Ov.cs, arr, Txt.v]
theorem open_opts {H : Type} {enc : TypeId × Value → H} {W : World} {held : Bool} {a : Option Addr} {len cap : Nat} {d : DataW H} {p : List MemPlace}
    (h : DataW.Trod enc Tryd.prog W 0 (fun _ => true) held 22 (.slice a len cap) d p) : ∃ L, Opts W a len cap L := by
  obtain ⟨fuel, hf⟩ := h
  rcases open_slice Tryd.underlying22 hf with ⟨hcs, _⟩ | ⟨ad, l, c, m, n, D, Pl, hcs, _, hl, hm, hmm, _, hall⟩
  · simp [Value.cells] at hcs
    obtain ⟨rfl, rfl, rfl⟩ := hcs
    exact ⟨[], Opts.none W⟩
  · simp [Value.cells] at hcs
    obtain ⟨rfl, rfl, rfl⟩ := hcs
    have hm' : m = cap := by simpa using hmm
    subst hm'
    rw [c38] at hall
    have key : ∀ i, ∃ o : Ov, i < len → (∀ j, j < 19 → W.cell? ((ad.add (i * 19)).add j) = o.cs[j]?) ∧ o.ok W := by
      intro i
      by_cases hi : i < len
      · obtain ⟨cs', h1, h2⟩ := hall i (by omega)
        obtain ⟨_, hlen, hcell⟩ := World.cells?_some h1
        obtain ⟨o, rfl, hok⟩ := opt_of h2
        exact ⟨o, fun _ => ⟨fun j hj => by rw [hcell j hj]; simp, hok⟩⟩
      · exact ⟨Ov.zero, fun h => absurd h hi⟩
    obtain ⟨f, hf'⟩ := Classical.axiomOfChoice key
    refine ⟨(List.range len).map f, by simp, hl, hm, (fun h => by cases h), ?_, ?_⟩
    · intro k hk
      have hspot : ad.spot = none := by
        have h0 := (hf' 0 (by omega)).1 0 (by decide)
        rw [Ov.at0] at h0
        exact World.cell?_spot (by simpa [Addr.add] using h0)
      obtain ⟨b, off, spot⟩ := ad
      simp at hspot
      subst hspot
      refine ⟨b, off, rfl, ?_⟩
      intro j v hv
      have hA := (hf' k hk).2.ad
      have e : ((List.range len).map f).getD k Ov.zero = f k := by simp [hk]
      rw [e] at hv
      have hj : j < 19 := by have := (Array.getElem?_eq_some_iff.1 hv).1; rw [Ov.size hA] at this; exact this
      have := (hf' k hk).1 j hj
      rw [Addr.add_lit, Addr.add_lit] at this
      rw [this]; exact hv
    · intro o ho
      simp at ho
      obtain ⟨i, hi, rfl⟩ := ho
      exact (hf' i hi).2
end Go.Proofs.YtbgogeojdibmkaaDoor

namespace Go.Proofs.YtbgogeojdibmkaaDoor
open Go.ChangeShapes Go.WideShapes Go.ChangeAt Go.RowKit Go.Deep
set_option linter.unusedVariables false
set_option linter.unusedSimpArgs false

/-- Numbers of options that are those of the type. -/
def Wfo (L : List Ov) : Prop := ∀ o ∈ L, ∀ x ∈ o.n.l, (Lit.int .i64 x).wf = true
set_option maxRecDepth 100000 in
set_option maxHeartbeats 1600000 in
theorem refEncodeAll_any (a : Option Addr) (n cap : Nat) (L : List Ov) (w : World) (hL : Opts w a n cap L) (hwf : Wfo L) (hn : n ≤ 1000) :
    Calls Tryd.prog 10 #[.slice a n cap] w fun e w' => ∃ v, e = .returned (.tuple #[v, .int .i64 (encE (pos L))]) ∧ w'.ownsRow w.heap.size 5 1 v (encL (pos L)).length (u8s (encL (pos L))) ∧ Below w.heap.size w w' := by
  have HPL : Hid ((pos L).length = n) := by rw [Hid, pos_len]; exact hL.len
  by_cases h16 : 16 < n
  · have hE : encE (pos L) = 2 := by rw [encE, if_pos (by rw [HPL.out]; exact h16)]
    have hLL : encL (pos L) = [] := by rw [encL, hE]; rfl
    rw [hE, hLL]
    have h16' : (16 : Int) < (n : Int) := by omega
    clear hL hwf
    go_enter Tryd.func10, Tryd.ntmps10
    go_wp2_with fail
    go_ret2
    exact ⟨_, rfl, World.ownsRow_nil _ _ _ _, Below.refl _ _⟩
  · have h16' : ¬ (16 : Int) < (n : Int) := by omega
    have HE : Hid (encE (pos L) = if bad (pos L) ≠ 0 then bad (pos L) else if 1280 < (encs (pos L)).length then 2 else 0) := by rw [Hid, encE, if_neg (by rw [HPL.out]; exact h16)]
    have HLL : Hid (encL (pos L) = if encE (pos L) = 0 then encs (pos L) else []) := rfl
    have HL := hid hL
    have hlen := hL.len
    have HLen := hid hlen
    have HWf := hid hwf
    clear hL hlen hwf
    go_enter Tryd.func10, Tryd.ntmps10
    go_wp2_with fail
    go_loopw [4, 5] (fun v i wr => ∃ j : Nat, j ≤ n ∧ i = .int .i64 j ∧ Hid (bad ((pos L).take j) = 0) ∧ Hid ((encs ((pos L).take j)).length ≤ 257 * j) ∧ Hid (wr.ownsRow w.heap.size 5 1 v (encs ((pos L).take j)).length (u8s (encs ((pos L).take j)))) ∧ Hid (Below w.heap.size w wr)) (fun _ i _ => n - (intOf i).toNat)
    case atStart => exact ⟨0, Nat.zero_le _, rfl, rfl, Nat.zero_le _, World.ownsRow_nil _ _ _ _, Below.refl _ _⟩
    case round =>
      obtain ⟨j, hj, rfl, hbad, hln, hown, hb⟩ := hrel
      by_cases hlt : j < n
      · have hL1 := HL.out.below hb.out
        have hlt' : (j : Int) < (n : Int) := by omega
        obtain ⟨b, off, rfl, hp⟩ := hL1.cell j hlt
        have hjl : j < L.length := by rw [HLen.out]; exact hlt
        have hok := hL1.at j hlt
        have hba := bad_at (pos L) j (by rw [pos_len]; exact hjl) hbad.out
        have hes := encs_succ (pos L) j (by rw [pos_len]; exact hjl)
        rw [pos_at L j hjl] at hba hes
        have hmem : L.getD j Ov.zero ∈ L := by simp [hjl]
        have hw1 := HWf.out _ hmem
        generalize hoo : L.getD j Ov.zero = o at *
        have PP := hid hp
        have OK := hid hok
        have HBA := hid hba
        have HES := hid hes
        have HA := hid hok.ad
        have HW1 := hid hw1
        clear hL1 hp hok hba hes hoo hjl hmem hw1
        go_wp2_with (with_reducible refine wpl_id ?_; refine ldO o38 _ rfl rfl _ _ rfl o HA.out PP.out ?_)
        refine (refCheck_any o _ OK.out HW1.out).mono ?_
        rintro e w3 ⟨rfl, hb3⟩
        have P3 := hid (Part.below PP.out hb3)
        have O3 := hid (own_below hown.out hb3)
        have OK3 := hid (OK.out.below hb3)
        have B4 := hid (bthen hb.out hb3)
        clear hb3
        by_cases hc : chkP o.p = 0
        · have HC := hid hc
          rw [hc]
          clear hc
          have hel := encP_le HC.out HA.out.1
          go_wp2_with (with_reducible refine wpl_id ?_; refine ldO o38 _ rfl rfl _ _ rfl o HA.out P3.out ?_)
          refine (refEncode_any o _ OK3.out HC.out).mono ?_
          rintro e w4 ⟨v4, rfl, hown4, hb4⟩
          obtain ⟨a4, c4, rfl, hl4, _⟩ := owns_lies hown4
          have L4 := hid hl4
          have O4 := hid (own_below O3.out hb4)
          have B5 := hid (bthen B4.out hb4)
          clear hb4 hown4 hl4
          generalize hel2 : (encP o.p).length = el at *
          have HEL := hid hel2
          clear hel2
          go_wp2_with (at_builtin; refine wpList_appB rfl _ _ rfl rfl rfl O4.out L4.out ?c1 ?c2 ?_)
          case c1 => exact B5.out.size
          case c2 => have := hln.out; omega
          intro v5 w5 ho5 hb5
          have O5 := hid ho5
          have B6 := hid (B5.out.trans hb5)
          clear ho5 hb5
          go_wp2_with fail
          go_roundw
          case rel =>
            refine ⟨j + 1, by omega, by go_num, HBA.out.1 HC.out, ?_, ?_, B6.out⟩
            · rw [Hid, HES.out, List.length_append, HEL.out]; have := hln.out; omega
            · rw [Hid, HES.out, List.length_append, HEL.out]; exact O5.out
          case measure => simp [intOf]; omega
        · have HC := hid hc
          have hc' : (chkP o.p != 0) = true := by simpa using hc
          clear hc
          have HB := hid (HBA.out.2 HC.out)
          generalize chkP o.p = c at *
          go_wp2_with fail
          go_ret2
          have e1 : encE (pos L) = c := by rw [HE.out, HB.out, if_pos HC.out]
          refine ⟨_, ret_tup e1.symm, ?_, B4.out⟩
          rw [HLL.out, e1, if_neg HC.out]
          exact World.ownsRow_nil _ _ _ _
      · obtain rfl : j = n := by omega
        rw [List.take_of_length_le (by rw [HPL.out]; exact Nat.le_refl _)] at hbad hln hown
        obtain ⟨va, vc, hv⟩ := owns_len hown.out
        subst hv
        have hln2 := hln.out
        have hE2 : Hid (encE (pos L) = if 1280 < (encs (pos L)).length then 2 else 0) := by rw [Hid, HE.out, hbad.out]; rfl
        generalize hen : (encs (pos L)).length = en at *
        by_cases hlong : 1280 < en
        · have hlong' : (1280 : Int) < (en : Int) := by omega
          go_wp2_with fail
          go_ret2
          have e1 : encE (pos L) = 2 := by rw [hE2.out, if_pos hlong]
          refine ⟨_, ret_tup e1.symm, ?_, hb.out⟩
          rw [HLL.out, e1]
          exact World.ownsRow_nil _ _ _ _
        · have hlong' : ¬ (1280 : Int) < (en : Int) := by omega
          go_wp2_with fail
          go_ret2
          have e1 : encE (pos L) = 0 := by rw [hE2.out, if_neg hlong]
          refine ⟨_, ret_tup e1.symm, ?_, hb.out⟩
          rw [HLL.out, e1, if_pos rfl, hen]
          exact hown.out
end Go.Proofs.YtbgogeojdibmkaaDoor

namespace Go.Proofs.YtbgogeojdibmkaaDoor
open Go.ChangeShapes Go.WideShapes Go.ChangeAt Go.RowKit Go.Deep
set_option linter.unusedVariables false
set_option linter.unusedSimpArgs false

theorem opt_ofw {H : Type} {enc : TypeId × Value → H} {W : World} {held : Bool} {fuel : Nat} {cs : List Value} {x : DataW H × List MemPlace} (h : DataW.trod enc Tryd.prog W 0 (fun _ => true) held fuel 38 cs = some x) : ∃ o : Ov, cs = o.cs.toList ∧ o.ok W ∧ ∀ x ∈ o.n.l, (Lit.int .i64 x).wf = true := by
  obtain ⟨xs, n, rfl, hlen, hxl, hall⟩ := fields_of u38 _ fs38 h
  rw [c38] at hlen
  have key : ∀ (i : Nat) (ty : TypeId) (o : Nat), [(3, 0), (35, 1), (36, 2), (26, 18)][i]? = some (ty, o) → ∃ y, DataW.trod enc Tryd.prog W 0 (fun _ => true) held n ty ((cs.drop o).take (Tryd.prog.cellsOf ty)) = some y := by
    intro i ty o he
    have hi : i < 4 := (List.getElem?_eq_some_iff.1 he).1
    have := hall i ty o he
    rw [List.getElem?_eq_getElem (by rw [hxl]; exact hi)] at this
    exact ⟨_, this⟩
  obtain ⟨y0, h0⟩ := key 0 3 0 rfl
  obtain ⟨y1, h1⟩ := key 1 35 1 rfl
  obtain ⟨y2, h2⟩ := key 2 36 2 rfl
  obtain ⟨y3, h3⟩ := key 3 26 18 rfl
  rw [c3] at h0
  rw [c35] at h1
  rw [c36] at h2
  rw [c26] at h3
  obtain ⟨k, e0, _⟩ := DataW.trod_int Tryd.underlying3 h0
  obtain ⟨na, nl, nc, nz, e1, hr1⟩ := row_of Tryd.underlying35 Tryd.underlying3 c3 h1
  obtain ⟨ad, e2, hA⟩ := adr_of h2
  obtain ⟨ta, tl, tc, tz, e3, hr3⟩ := row_of Tryd.underlying26 Tryd.underlying5 c5 h3
  refine ⟨⟨k, ⟨na, nl, nc, nz.take nl⟩, ad, ⟨ta, tl, tc, tz.take tl⟩⟩, ?_, ⟨hr1.lies, hA, hr3.lies, oct_take hr3.oct _⟩, fun x hx => hr1.wf x (List.mem_of_mem_take hx)⟩
  have s0 : cs = cs.take 1 ++ ((cs.drop 1).take 1 ++ ((cs.drop 2).take 16 ++ (cs.drop 18).take 1)) := by
    have t3 : (cs.drop 18).take 1 = cs.drop 18 := List.take_of_length_le (by simp; omega)
    have t2 : (cs.drop 2).take 16 ++ cs.drop 18 = cs.drop 2 := by
      have := List.take_append_drop 16 (cs.drop 2)
      rwa [List.drop_drop] at this
    have t1 : (cs.drop 1).take 1 ++ cs.drop 2 = cs.drop 1 := by
      have := List.take_append_drop 1 (cs.drop 1)
      rwa [List.drop_drop] at this
    rw [t3, t2, t1, List.take_append_drop]
  rw [List.drop_zero] at e0
  rw [s0, e0, e1, e2, e3]
  simp [Ov.cs, arr, Txt.v]
/-- Options whose numbers are int's. -/
def OptsW (w : World) (a : Option Addr) (n cap : Nat) (L : List Ov) : Prop := Opts w a n cap L ∧ Wfo L
theorem open_optsw {H : Type} {enc : TypeId × Value → H} {W : World} {held : Bool} {a : Option Addr} {len cap : Nat} {d : DataW H} {p : List MemPlace}
    (h : DataW.Trod enc Tryd.prog W 0 (fun _ => true) held 22 (.slice a len cap) d p) : ∃ L, OptsW W a len cap L := by
  obtain ⟨fuel, hf⟩ := h
  rcases open_slice Tryd.underlying22 hf with ⟨hcs, _⟩ | ⟨ad, l, c, m, n, D, Pl, hcs, _, hl, hm, hmm, _, hall⟩
  · simp [Value.cells] at hcs
    obtain ⟨rfl, rfl, rfl⟩ := hcs
    exact ⟨[], Opts.none W, fun o ho => by cases ho⟩
  · simp [Value.cells] at hcs
    obtain ⟨rfl, rfl, rfl⟩ := hcs
    have hm' : m = cap := by simpa using hmm
    subst hm'
    rw [c38] at hall
    have key : ∀ i, ∃ o : Ov, i < len → (∀ j, j < 19 → W.cell? ((ad.add (i * 19)).add j) = o.cs[j]?) ∧ o.ok W ∧ ∀ x ∈ o.n.l, (Lit.int .i64 x).wf = true := by
      intro i
      by_cases hi : i < len
      · obtain ⟨cs', h1, h2⟩ := hall i (by omega)
        obtain ⟨_, hlen, hcell⟩ := World.cells?_some h1
        obtain ⟨o, rfl, hok⟩ := opt_ofw h2
        exact ⟨o, fun _ => ⟨fun j hj => by rw [hcell j hj]; simp, hok⟩⟩
      · exact ⟨Ov.zero, fun h => absurd h hi⟩
    obtain ⟨f, hf'⟩ := Classical.axiomOfChoice key
    refine ⟨(List.range len).map f, ⟨by simp, hl, hm, (fun h => by cases h), ?_, ?_⟩, ?_⟩
    · intro k hk
      have hspot : ad.spot = none := by
        have h0 := (hf' 0 (by omega)).1 0 (by decide)
        rw [Ov.at0] at h0
        exact World.cell?_spot (by simpa [Addr.add] using h0)
      obtain ⟨b, off, spot⟩ := ad
      simp at hspot
      subst hspot
      refine ⟨b, off, rfl, ?_⟩
      intro j v hv
      have hA := (hf' k hk).2.1.ad
      have e : ((List.range len).map f).getD k Ov.zero = f k := by simp [hk]
      rw [e] at hv
      have hj : j < 19 := by have := (Array.getElem?_eq_some_iff.1 hv).1; rw [Ov.size hA] at this; exact this
      have := (hf' k hk).1 j hj
      rw [Addr.add_lit, Addr.add_lit] at this
      rw [this]; exact hv
    · intro o ho
      simp at ho
      obtain ⟨i, hi, rfl⟩ := ho
      exact (hf' i hi).2.1
    · intro o ho
      simp at ho
      obtain ⟨i, hi, rfl⟩ := ho
      exact (hf' i hi).2.2
/-- What To leaves has int's, too. -/
theorem to_w (a : Option Addr) (n cap : Nat) (L : List Ov) (w : World) (hL : OptsW w a n cap L) :
    Calls Tryd.prog 7 #[.slice a n cap] w fun e w' => (∃ a' m cap' L', e = .returned (.slice a' m cap') ∧ m ≤ 20 ∧ Hid (Opts w' a' m cap' L') ∧ Hid (Wfo L')) ∧ Below w.heap.size w w' := by
  refine (to_any a n cap L w hL.1).mono ?_
  rintro e w' ⟨a', cap', L', rfl, hO, hp, hb⟩
  refine ⟨⟨a', min n 20, cap', L', rfl, by omega, hO, fun o ho x hx => ?_⟩, hb⟩
  have hm : o.p ∈ ((pos L).take 20).map cutP := by rw [← hp]; exact List.mem_map_of_mem ho
  obtain ⟨q, hq1, hq⟩ := List.mem_map.1 hm
  obtain ⟨o2, ho2, rfl⟩ := List.mem_map.1 (List.mem_of_mem_take hq1)
  have e1 : o.n.l = o2.n.l.take 12 := (congrArg Po.n hq).symm
  rw [e1] at hx
  exact hL.2 o2 ho2 x (List.mem_of_mem_take hx)
end Go.Proofs.YtbgogeojdibmkaaDoor

namespace Go.Proofs.YtbgogeojdibmkaaDoor
open Go.ChangeShapes Go.WideShapes Go.ChangeAt Go.RowKit Go.Deep
set_option linter.unusedVariables false
set_option linter.unusedSimpArgs false

theorem pow_le4 (k : Nat) (h : k ≤ 4) : (256 : Int) ^ k ≤ 4294967296 := by
  rcases k with _ | _ | _ | _ | _ | k
  · decide
  · decide
  · decide
  · decide
  · decide
  · omega
theorem numOf_4 (m : List Int) (h : Oct m) (hl : m.length ≤ 4) : 0 ≤ numOf m ∧ numOf m < 4294967296 := by
  have := numOf_bd m h m.length (Nat.le_refl _)
  rw [List.take_length] at this
  have := pow_le4 m.length hl
  omega
theorem stps_bd (l : List Int) (ho : Oct l) (P : List (Int × Int)) : (∀ p ∈ P, (p.1 == 16) = true ∨ sizeB p.1 = true) → ∀ s : Nat × List Int × List Int, (∀ x ∈ s.2.1, 0 ≤ x ∧ x < 4294967296) → ∀ x ∈ (P.foldl (stp l) s).2.1, 0 ≤ x ∧ x < 4294967296 := by
  induction P with
  | nil => intro _ s h; exact h
  | cons q P ih =>
    intro hP s h
    rw [List.foldl_cons]
    refine ih (fun p hp => hP p (by simp [hp])) _ ?_
    by_cases h16 : (q.1 == 16) = true
    · rw [stp, if_pos h16]; exact h
    · have hz := (hP q (by simp)).resolve_left h16
      rw [stp, if_neg h16]
      intro x hx
      rcases List.mem_append.1 hx with e | e
      · exact h x e
      · rw [List.mem_singleton.1 e]
        refine numOf_4 _ (fun y hy => ho y (List.mem_of_mem_drop (List.mem_of_mem_take hy))) ?_
        rw [List.length_take]
        rcases sizeB_cases hz with e | e | e <;> rw [e] <;> simp <;> omega
theorem fil_wf {k : Nat} (hk : k < 10) (l : List Int) (ho : Oct l) (hl : l.length ≤ 300) : ∀ x ∈ (filP k l 0).n, (Lit.int .i64 x).wf = true := by
  have hb : ∀ x ∈ (filP k l 0).n, 0 ≤ x ∧ x < 4294967296 := by
    intro x hx
    rw [filP, if_pos rfl] at hx
    split at hx
    · simp at hx; omega
    · split at hx
      · simp at hx
      · split at hx
        · exact stps_bd l ho (prt k) (prt_all k hk).1 (0, [], zeros) (by simp) x hx
        · simp at hx
  intro x hx
  have := hb x hx
  simp [Lit.wf, IntKind.min, IntKind.max, IntKind.bits, IntKind.signed]
  omega
theorem fil_03 (k : Nat) (l : List Int) (h : filE k l 0 ≠ 0) : filE k l 0 = 3 := by
  unfold filE at h ⊢
  rw [if_pos rfl] at h ⊢
  split
  · rename_i e; rw [if_pos e] at h; unfold zerE at h ⊢; split
    · rfl
    · rename_i e2; rw [if_neg e2] at h; exact absurd rfl h
  · rename_i e; rw [if_neg e] at h
    split
    · rename_i e2; rw [if_pos e2] at h; exact absurd rfl h
    · rename_i e2; rw [if_neg e2] at h
      split
      · rename_i e3; rw [if_pos e3] at h; exact absurd rfl h
      · rfl
theorem Mine.kept38 {w0 w w' : World} {o : Ov} {v : Value} {n : Nat} {xs : List Value} {b : Nat} (h : Mine w0 w o) (ho : w.ownsRow b 38 19 v n xs) (hg : w.grownBy w' v.ownBlock) : Mine w0 w' o :=
  ⟨h.n.kept hg (own_apart h.n ho (by decide)), h.nn, h.ad, h.t, h.oct⟩
theorem Mine.base {w w1 w2 : World} {o : Ov} (h : Mine w1 w2 o) (hb : Below w.heap.size w w1) (ht : ∀ x, o.t.a = some x → 0 < o.t.n → x.block < w.heap.size) : Mine w w2 o :=
  ⟨own_mono h.n hb.size, h.nn, h.ad, lies_back h.t hb ht, h.oct⟩
theorem mine_zero (w w' : World) : Mine w w' Ov.zero := ⟨World.ownsRow_nil _ _ _ _, rfl, adr_zeros, Lies.nil _ _, fun x hx => by cases hx⟩
def lenV (v : Value) : Nat := match v with | .slice _ n _ => n | _ => 0
/-- What the document's Decode answers. -/
def RdcOk (w : World) (l : List Int) (e : Ending) (w' : World) : Prop :=
  ∃ v L, e = .returned (.tuple #[v, .int .i64 (dec 0 l).2]) ∧ Below w.heap.size w w' ∧ w'.ownsRow w.heap.size 38 19 v L.length (ocs L) ∧ (∀ o ∈ L, Mine w w' o) ∧ pos L = (if (dec 0 l).2 = 0 then (dec 0 l).1 else [])
theorem RdcOk.bad {w w' : World} {l : List Int} {x : Int} (hx : x ≠ 0) (h : (dec 0 l).2 = x) (hb : Below w.heap.size w w') : RdcOk w l (.returned (.tuple #[.slice none 0 0, .int .i64 x])) w' :=
  ⟨.slice none 0 0, [], by rw [h], hb, World.ownsRow_nil _ _ _ _, fun o ho => (by cases ho), by rw [h, if_neg hx]; rfl⟩
/-- Where the document's Decode stands. -/
structure RdcAt (w wr : World) (l : List Int) (len at_ m : Nat) (a : Option Addr) (cap n : Nat) (L : List Ov) (v : Value) : Prop where
  le : at_ + m = len
  nL : L.length = n
  lies : Lies .u8 w a m cap (l.drop at_)
  dec : DecAt l at_ 0 L
  own : wr.ownsRow w.heap.size 38 19 v n (ocs L)
  mine : ∀ o ∈ L, Mine w wr o
  below : Below w.heap.size w wr
section
variable {w wr w' : World} {l : List Int} {len at_ m : Nat} {a : Option Addr} {cap n : Nat} {L : List Ov} {v : Value}
theorem RdcAt.on (h : RdcAt w wr l len at_ m a cap n L v) (hb : Below wr.heap.size wr w') : RdcAt w w' l len at_ m a cap n L v :=
  ⟨h.le, h.nL, h.lies, h.dec, own_below h.own hb, fun o ho => (h.mine o ho).below hb, bthen h.below hb⟩
/-- Something is wrong. -/
theorem RdcAt.bad (h : RdcAt w wr l len at_ m a cap n L v) (hl : l.length = len) (hm : 0 < m) {x : Int} (hx : x ≠ 0) (he : nxE n (l.drop at_) = x) : (Go.Proofs.YtbgogeojdibmkaaDoor.dec 0 l).2 = x := by
  have := h.dec.next (L2 := []) (at2 := 0) (er2 := x) (by have := h.le; omega) (by rw [h.nL, he]) (fun e => absurd e hx)
  exact this.2 hx
/-- An option more (world w'). -/
theorem RdcAt.push (h : RdcAt w wr l len at_ m a cap n L v) (hl : l.length = len) (hm : 0 < m) (he : nxE n (l.drop at_) = 0) (o : Ov) (hp : o.p = nxP (l.drop at_)) (ho : Mine w wr o) (k : Nat) (hk : nxN (l.drop at_) = k) (hkm : k ≤ m)
    {v2 : Value} (hown : w'.ownsRow w.heap.size 38 19 v2 (n + 1) (ocs L ++ o.cs.toList)) (hg : wr.grownBy w' v.ownBlock) {a2 : Option Addr} (h1 : ¬ cap = k → a2 = a.map (·.add k)) (h2 : cap = k → a2 = a) :
    RdcAt w w' l len (at_ + k) (m - k) a2 (cap - k) (n + 1) (L ++ [o]) v2 := by
  have hd := h.dec.next (L2 := L ++ [o]) (at2 := at_ + k) (er2 := 0) (by have := h.le; omega) (by rw [h.nL, he]) (fun _ => ⟨by simp [pos, hp], by rw [hk]⟩)
  have hc := h.lies.cut k (m - k) cap (by omega) (by have := h.lies.2.1; omega) (Nat.le_refl _) h1 h2
  rw [List.take_of_length_le (by rw [List.length_drop, h.lies.1]; exact Nat.le_refl _), List.drop_drop] at hc
  refine ⟨by have := h.le; omega, by rw [List.length_append, h.nL]; rfl, hc, hd, ?_, ?_, ?_⟩
  · rw [ocs_snoc]; exact hown
  · intro x hx
    rcases List.mem_append.1 hx with e | e
    · exact (h.mine x e).kept38 h.own hg
    · rw [List.mem_singleton.1 e]; exact ho.kept38 h.own hg
  · exact Below.grown h.below hg h.below.size (fun j hj => (h.own.lt j hj).1)
end
end Go.Proofs.YtbgogeojdibmkaaDoor
