/- What the rows' lists give of the table of codes, and how a message that came in is opened. · A header that came in. · How an option that came in is opened. · Packets that came in. · DatagramMakes' walk, as the row wants it; addresses and texts that come in. · A world that meets the rows' lists. -/
import Derived.Test.YtbklpelikaapoaaGreatDoorM3
import Derived.Test.YtbklpelikaapoaaGreatDoorM5
import Derived.Test.YtbklpelikaapoaaGreatDoorM6
import Derived.ChangeSame
import Derived.Deep.Strs
import Derived.Test.YtbklpelikaapoaaGreatDoorM9
import Derived.Test.YtbklpelikaapoaaGreatDoorDgMk
namespace Go.Proofs.YtbklpelikaapoaaGreatDoor
open Go.ChangeShapes Go.WideShapes Go.ChangeAt Go.RowKit Go.Deep
set_option linter.unusedVariables false
set_option linter.unusedSimpArgs false
set_option maxRecDepth 100000

theorem gC0 : Tryz.prog.globalNamed "rivulet/control.shapes" = some 0 := by kernel_rfl
theorem gtC0 : (Tryz.prog.globals[0]?).map (·.type) = some 197 := by kernel_rfl
theorem uc99 : Tryz.prog.underlying 197 = some (.array 4 196) := by kernel_rfl
theorem uc98 : Tryz.prog.underlying 196 = some (.struct (Tryz.prog.fieldsOf 196)) := by kernel_rfl
theorem uc108 : Tryz.prog.underlying 200 = some (.struct (Tryz.prog.fieldsOf 200)) := by kernel_rfl
theorem uc110 : Tryz.prog.underlying 202 = some (.struct (Tryz.prog.fieldsOf 202)) := by kernel_rfl
theorem uc25 : Tryz.prog.underlying 27 = some (.struct (Tryz.prog.fieldsOf 27)) := by kernel_rfl
theorem uc96 : Tryz.prog.underlying 194 = some (.slice 200) := by kernel_rfl
theorem uc106 : Tryz.prog.underlying 198 = some (.slice 202) := by kernel_rfl
theorem uc52 : Tryz.prog.underlying 114 = some (.slice 3) := by kernel_rfl
theorem cc98 : Tryz.prog.cellsOf 196 = 4 := by kernel_rfl
theorem cc99 : Tryz.prog.cellsOf 197 = 16 := by kernel_rfl
theorem cc108 : Tryz.prog.cellsOf 200 = 2 := by kernel_rfl
theorem cc110 : Tryz.prog.cellsOf 202 = 3 := by kernel_rfl
theorem cc96 : Tryz.prog.cellsOf 194 = 1 := by kernel_rfl
theorem cc106 : Tryz.prog.cellsOf 198 = 1 := by kernel_rfl
theorem cc52 : Tryz.prog.cellsOf 114 = 1 := by kernel_rfl
theorem cc9 : Tryz.prog.cellsOf 9 = 1 := by kernel_rfl
theorem cc4 : Tryz.prog.cellsOf 4 = 1 := by kernel_rfl
theorem cc3 : Tryz.prog.cellsOf 3 = 1 := by kernel_rfl
theorem cc22 : Tryz.prog.cellsOf 22 = 16 := by kernel_rfl
theorem cc23 : Tryz.prog.cellsOf 25 = 1 := by kernel_rfl
theorem cc25 : Tryz.prog.cellsOf 27 = 28 := by kernel_rfl
theorem fsc98 : (Tryz.prog.fieldsOf 196).toList.map (fun f => (f.type, f.offset)) = [(9, 0), (194, 1), (4, 2), (114, 3)] := by kernel_rfl
theorem fsc108 : (Tryz.prog.fieldsOf 200).toList.map (fun f => (f.type, f.offset)) = [(3, 0), (198, 1)] := by kernel_rfl
theorem fsc110 : (Tryz.prog.fieldsOf 202).toList.map (fun f => (f.type, f.offset)) = [(3, 0), (3, 1), (3, 2)] := by kernel_rfl
theorem fsc25 : (Tryz.prog.fieldsOf 27).toList.map (fun f => (f.type, f.offset)) = [(3, 0), (3, 1), (3, 2), (3, 3), (3, 4), (3, 5), (3, 6), (3, 7), (3, 8), (4, 9), (4, 10), (22, 11), (25, 27)] := by kernel_rfl
/-- A list as a datum. -/
def sdat {H : Type} {α : Type} (dat : α → DataW H) (L : List α) : DataW H := match L with | [] => .nil | _ => .slice (L.map dat) []
/-- A slice that is laid. -/
theorem slice_of {α : Type} {H : Type} {enc : TypeId × Value → H} {W : World} {held : Bool} {fuel : Nat} {cs : List Value} {x : DataW H × List MemPlace} (t e : TypeId) (s : Nat) (ut : Tryz.prog.underlying t = some (.slice e)) (ce : Tryz.prog.cellsOf e = s) (hs : 0 < s) (d : α) (dat : α → DataW H) (L : List α) (h : DataW.trod enc Tryz.prog W 0 (fun _ => true) held fuel t cs = some x) (hx : x.1 = sdat dat L) :
    ∃ a n cap, cs = [.slice a n cap] ∧ L.length = n ∧ n ≤ cap ∧ cap ≤ maxLen ∧ (a = none → cap = 0) ∧ ∀ i, i < n → ∃ b off fuel' cs' y, a = some ⟨b, off, none⟩ ∧ (∀ j, j < s → W.cell? ⟨b, off + i * s + j, none⟩ = cs'[j]?) ∧ cs'.length = s ∧ DataW.trod enc Tryz.prog W 0 (fun _ => true) held fuel' e cs' = some y ∧ y.1 = dat (L.getD i d) := by
  rcases open_slice ut h with ⟨hcs, rfl⟩ | ⟨ad, len, cap, m, n, D, Pl, hcs, _, hl, hm, hmm, rfl, hall⟩
  · match L, hx with
    | [], _ => exact ⟨none, 0, 0, hcs, rfl, Nat.le_refl _, by decide, fun _ => rfl, fun i hi => by omega⟩
    | p :: l, hx => simp [sdat] at hx
  · match L, hx with
    | [], hx => simp [sdat] at hx
    | p :: l, hx =>
      generalize p :: l = L at *
      have hx : (DataW.slice ((List.range len).map D) ((List.range (m - len)).map fun j => D (len + j)) : DataW H) = .slice (L.map dat) [] := by
        simp only [sdat] at hx
        split at hx
        · cases hx
        · exact hx
      injection hx with hx1 _
      have hlen : L.length = len := by have := congrArg List.length hx1; simpa using this.symm
      rw [ce] at hall
      have hspot : len ≠ 0 → ad.spot = none := by
        intro h0
        obtain ⟨cs', h1, h2⟩ := hall 0 (by simp at hmm; omega)
        obtain ⟨_, hl2, hc⟩ := World.cells?_some h1
        have e0 := hc 0 (by omega)
        rw [List.getElem?_eq_getElem (by omega)] at e0
        exact World.cell?_spot (by simpa [Addr.add] using e0)
      obtain ⟨b, off, spot⟩ := ad
      refine ⟨some ⟨b, off, spot⟩, len, cap, hcs, hlen, hl, hm, (fun h => by cases h), fun i hi => ?_⟩
      have hs := hspot (by omega)
      simp only at hs
      subst hs
      obtain ⟨cs', h1, h2⟩ := hall i (by simp at hmm; omega)
      obtain ⟨_, hl2, hc⟩ := World.cells?_some h1
      have hDi : D i = dat (L.getD i d) := by
        have := congrArg (·[i]?) hx1
        simp only [List.getElem?_map, List.getElem?_range hi, Option.map_some] at this
        rw [List.getElem?_eq_getElem (by omega)] at this
        simp only [Option.map_some, Option.some.injEq] at this
        rw [this]; simp [show i < L.length by omega]
      refine ⟨b, off, _, cs', _, rfl, fun j hj => ?_, hl2, h2, hDi⟩
      have := hc j (by omega)
      rwa [Addr.add_lit, Addr.add_lit] at this
def nd {H : Type} (n : Int) : DataW H := .lit (.int .i64 n)
def fd {H : Type} (f : Fl) : DataW H := .agg [.lit (.int .i64 f.p), .lit (.int .i64 f.s), .lit (.int .i64 f.l)]
def pad {H : Type} (p : Pa) : DataW H := .agg [.lit (.int .i64 p.z), sdat fd p.f]
def scd {H : Type} (k : Nat) : DataW H := .agg [.lit (.string (cwd k).data.toList), sdat pad (cpa k), .lit (.bool (crt k)), sdat nd (cki k)]
theorem laidC_eq : (Rows.laid_rivulet_control_shapes : DataW Unit) = .agg ((List.range 4).map scd) := by kernel_rfl
theorem field_of {H : Type} {enc : TypeId × Value → H} {W : World} {held : Bool} {fuel : Nat} {cs : List Value} {x : DataW H × List MemPlace} (f : Fl) (h : DataW.trod enc Tryz.prog W 0 (fun _ => true) held fuel 202 cs = some x) (hx : x.1 = fd f) : cs = [.int .i64 (f.p : Int), .int .i64 (f.s : Int), .int .i64 (f.l : Int)] := by
  obtain ⟨xs, n, rfl, hlen, hxl, hall⟩ := fields_of uc110 _ fsc110 h
  rw [cc110] at hlen
  match xs, hxl, cs, hlen with
  | [y0, y1, y2], _, [v0, v1, v2], _ =>
    have h0 := hall 0 3 0 rfl
    have h1 := hall 1 3 1 rfl
    have h2 := hall 2 3 2 rfl
    rw [cc3] at h0 h1 h2
    simp at h0 h1 h2
    obtain ⟨z0, e0, f0, _⟩ := DataW.trod_int Tryz.underlying3 h0
    obtain ⟨z1, e1, f1, _⟩ := DataW.trod_int Tryz.underlying3 h1
    obtain ⟨z2, e2, f2, _⟩ := DataW.trod_int Tryz.underlying3 h2
    simp at e0 e1 e2
    subst e0; subst e1; subst e2
    simp [fd, f0, f1, f2] at hx
    obtain ⟨q0, q1, q2⟩ := hx
    rw [q0, q1, q2]
theorem pfields_of {H : Type} {enc : TypeId × Value → H} {W : World} {held : Bool} {fuel : Nat} {cs : List Value} {x : DataW H × List MemPlace} (l : List Fl) (h : DataW.trod enc Tryz.prog W 0 (fun _ => true) held fuel 198 cs = some x) (hx : x.1 = sdat fd l) : ∃ a n cap, cs = [.slice a n cap] ∧ FLies W.heap.size W a n cap l := by
  obtain ⟨a, n, cap, hcs, hlen, hle, hmax, _, hall⟩ := slice_of 198 202 3 uc106 cc110 (by decide) Fl.none fd l h hx
  refine ⟨a, n, cap, hcs, hlen, hle, hmax, fun i hi => ?_⟩
  obtain ⟨b, off, fu, cs', y, ha, hc, hl, ht, hy⟩ := hall i hi
  have he := field_of _ ht hy
  subst he
  have e0 := hc 0 (by decide)
  have e1 := hc 1 (by decide)
  have e2 := hc 2 (by decide)
  simp only [Nat.add_zero, List.getElem?_cons_zero, List.getElem?_cons_succ] at e0 e1 e2
  exact ⟨b, off, ha, World.block_lt_of_cell? W _ e0, e0, e1, e2⟩
theorem cpart_of {H : Type} {enc : TypeId × Value → H} {W : World} {held : Bool} {fuel : Nat} {cs : List Value} {x : DataW H × List MemPlace} (p : Pa) (h : DataW.trod enc Tryz.prog W 0 (fun _ => true) held fuel 200 cs = some x) (hx : x.1 = pad p) : ∃ a n cap, cs = [.int .i64 (p.z : Int), .slice a n cap] ∧ FLies W.heap.size W a n cap p.f := by
  obtain ⟨xs, n, rfl, hlen, hxl, hall⟩ := fields_of uc108 _ fsc108 h
  rw [cc108] at hlen
  match xs, hxl, cs, hlen with
  | [y0, y1], _, [v0, v1], _ =>
    have h0 := hall 0 3 0 rfl
    have h1 := hall 1 198 1 rfl
    rw [cc3] at h0
    rw [cc106] at h1
    simp at h0 h1
    obtain ⟨z0, e0, f0, _⟩ := DataW.trod_int Tryz.underlying3 h0
    simp [pad] at hx
    obtain ⟨a, n, cap, e1, hF⟩ := pfields_of p.f h1 hx.2
    simp at e0 e1
    subst e0; subst e1
    rw [f0] at hx
    simp at hx
    exact ⟨a, n, cap, by rw [hx.1], hF⟩
theorem cparts_of {H : Type} {enc : TypeId × Value → H} {W : World} {held : Bool} {fuel : Nat} {cs : List Value} {x : DataW H × List MemPlace} (l : List Pa) (h : DataW.trod enc Tryz.prog W 0 (fun _ => true) held fuel 194 cs = some x) (hx : x.1 = sdat pad l) : ∃ a n cap, cs = [.slice a n cap] ∧ PaLies W.heap.size W a n cap l := by
  obtain ⟨a, n, cap, hcs, hlen, hle, hmax, _, hall⟩ := slice_of 194 200 2 uc96 cc108 (by decide) Pa.none pad l h hx
  refine ⟨a, n, cap, hcs, hlen, hle, hmax, fun i hi => ?_⟩
  obtain ⟨b, off, fu, cs', y, ha, hc, hl, ht, hy⟩ := hall i hi
  obtain ⟨fa, fn, fc, he, hF⟩ := cpart_of _ ht hy
  subst he
  have e0 := hc 0 (by decide)
  have e1 := hc 1 (by decide)
  simp only [Nat.add_zero, List.getElem?_cons_zero, List.getElem?_cons_succ] at e0 e1
  exact ⟨b, off, ha, World.block_lt_of_cell? W _ e0, e0, fa, fn, fc, e1, hF⟩
theorem ckinds_of {H : Type} {enc : TypeId × Value → H} {W : World} {held : Bool} {fuel : Nat} {cs : List Value} {x : DataW H × List MemPlace} (l : List Int) (h : DataW.trod enc Tryz.prog W 0 (fun _ => true) held fuel 114 cs = some x) (hx : x.1 = sdat nd l) : ∃ a n cap, cs = [.slice a n cap] ∧ NLies W.heap.size W a n cap l := by
  obtain ⟨a, n, cap, hcs, hlen, hle, hmax, hnil, hall⟩ := slice_of 114 3 1 uc52 cc3 (by decide) 0 nd l h hx
  refine ⟨a, n, cap, hcs, hlen, hle, hmax, hnil, fun i hi => ?_⟩
  obtain ⟨b, off, fu, cs', y, ha, hc, hl, ht, hy⟩ := hall i hi
  obtain ⟨z, e, f, _⟩ := DataW.trod_int Tryz.underlying3 ht
  subst e
  have e0 := hc 0 (by decide)
  simp only [Nat.add_zero, Nat.mul_one, List.getElem?_cons_zero] at e0
  rw [f] at hy
  simp [nd] at hy
  refine ⟨b, off, ha, World.block_lt_of_cell? W _ e0, ?_⟩
  rw [e0, hy]; simp
theorem cshape_of {enc : TypeId × Value → Unit} {W : World} {held : Bool} {fuel : Nat} {cs : List Value} {x : DataW Unit × List MemPlace} (k : Nat) (h : DataW.trod enc Tryz.prog W 0 (fun _ => true) held fuel 196 cs = some x) (hx : x.1 = scd k) :
    ∃ a n cap a2 n2 c2, cs = [.string (cwd k), .slice a n cap, .bool (crt k), .slice a2 n2 c2] ∧ PaLies W.heap.size W a n cap (cpa k) ∧ NLies W.heap.size W a2 n2 c2 (cki k) := by
  obtain ⟨xs, n, rfl, hlen, hxl, hall⟩ := fields_of uc98 _ fsc98 h
  rw [cc98] at hlen
  match xs, hxl, cs, hlen with
  | [y0, y1, y2, y3], _, [v0, v1, v2, v3], _ =>
    have h0 := hall 0 9 0 rfl
    have h1 := hall 1 194 1 rfl
    have h2 := hall 2 4 2 rfl
    have h3 := hall 3 114 3 rfl
    rw [cc9] at h0
    rw [cc96] at h1
    rw [cc4] at h2
    rw [cc52] at h3
    simp at h0 h1 h2 h3
    simp [scd] at hx
    obtain ⟨s, e0, f0, _⟩ := DataW.trod_string Tryz.underlying9 h0
    obtain ⟨a, m, cap, e1, hP⟩ := cparts_of (cpa k) h1 hx.2.1
    obtain ⟨b2, e2, f2⟩ := DataW.trod_bool Tryz.underlying4 h2
    obtain ⟨a3, m3, cap3, e3, hK⟩ := ckinds_of (cki k) h3 hx.2.2.2
    simp at e0 e1 e2 e3
    subst e0; subst e1; subst e2; subst e3
    rw [f0, f2] at hx
    simp at hx
    obtain ⟨q0, _, q2, _⟩ := hx
    refine ⟨a, m, cap, a3, m3, cap3, ?_, hP, hK⟩
    have hs : s = cwd k := by
      have : s.data = (cwd k).data := by simpa using q0
      cases s; cases hw : cwd k; simp_all
    rw [hs, q2]
theorem cvars_of {W : World} (h : laidMet Tryz.prog [("rivulet/option.shapes", Rows.laid_rivulet_option_shapes), ("rivulet/control.shapes", Rows.laid_rivulet_control_shapes)] W) : CV W.heap.size W := by
  have hO := vars_of h
  have h : laidMet Tryz.prog [("rivulet/option.shapes", Rows.laid_rivulet_option_shapes), ("rivulet/control.shapes", Rows.laid_rivulet_control_shapes)] W := h
  obtain ⟨ps, ⟨_, _, _, _, _, q0, _, _, _, _, hrest, _⟩, _⟩ := h
  obtain ⟨g, t, cs, fuel, p, q, hg, ht, hvar, hd, _, _⟩ := hrest
  obtain rfl := Option.some.inj (gC0.symm.trans hg)
  obtain rfl := Option.some.inj (gtC0.symm.trans ht)
  rw [laidC_eq] at hd
  obtain ⟨xs, m, _, hx, hlen, hxl, hall⟩ := DataW.trod_array uc99 hd
  have hx1 : (DataW.agg ((List.range 4).map scd) : DataW Unit) = .agg (xs.map (·.1)) := congrArg Prod.fst hx
  injection hx1 with hx1
  rw [cc99] at hlen
  rw [cc98] at hall
  have key : ∀ k, k < 4 → ∃ a n cap a2 n2 c2, (cs.toList.drop (k * 4)).take 4 = [.string (cwd k), .slice a n cap, .bool (crt k), .slice a2 n2 c2] ∧ PaLies W.heap.size W a n cap (cpa k) ∧ NLies W.heap.size W a2 n2 c2 (cki k) := by
    intro k hk
    have h1 := hall k hk
    rw [List.getElem?_eq_getElem (by omega)] at h1
    refine cshape_of k h1 ?_
    have := congrArg (·[k]?) hx1
    simp only [List.getElem?_map, List.getElem?_range hk, Option.map_some] at this
    rw [List.getElem?_eq_getElem (by omega)] at this
    simpa using this.symm
  have cell : ∀ k j v, k < 4 → j < 4 → ((cs.toList.drop (k * 4)).take 4)[j]? = some v → W.cell? ⟨0, k * 4 + j, none⟩ = some v := by
    intro k j v hk hj hv
    have h0 := World.var?_cell gC0 hvar (k * 4 + j)
    rw [h0]
    rw [List.getElem?_take, if_pos hj, List.getElem?_drop] at hv
    simpa using hv
  have c0 : W.cell? ⟨0, 0, none⟩ = some (.string (cwd 0)) := by
    obtain ⟨a, n, cap, a2, n2, c2, e, _⟩ := key 0 (by decide)
    exact cell 0 0 _ (by decide) (by decide) (by rw [e]; rfl)
  refine ⟨⟨World.block_lt_of_cell? W _ c0, Nat.le_refl _, fun k hk => ?_, fun k hk => ?_, fun k hk => ?_, fun k hk => ?_⟩, hO⟩
  · obtain ⟨a, n, cap, a2, n2, c2, e, _⟩ := key k hk
    exact cell k 0 _ hk (by decide) (by rw [e]; rfl)
  · obtain ⟨a, n, cap, a2, n2, c2, e, hP, _⟩ := key k hk
    exact ⟨a, n, cap, cell k 1 _ hk (by decide) (by rw [e]; rfl), hP⟩
  · obtain ⟨a, n, cap, a2, n2, c2, e, _⟩ := key k hk
    exact cell k 2 _ hk (by decide) (by rw [e]; rfl)
  · obtain ⟨a, n, cap, a2, n2, c2, e, _, hK⟩ := key k hk
    exact ⟨a2, n2, c2, cell k 3 _ hk (by decide) (by rw [e]; rfl), hK⟩
/-! A message that came in. -/
theorem msg_of {H : Type} {enc : TypeId × Value → H} {W : World} {held : Bool} {fuel : Nat} {cs : List Value} {x : DataW H × List MemPlace} (h : DataW.trod enc Tryz.prog W 0 (fun _ => true) held fuel 27 cs = some x) : ∃ m : Mv, cs = m.cs.toList ∧ m.ok W ∧ Wfo m.L := by
  obtain ⟨xs, n, rfl, hlen, hxl, hall⟩ := fields_of uc25 _ fsc25 h
  rw [cc25] at hlen
  have key : ∀ (i : Nat) (ty : TypeId) (o : Nat), [(3, 0), (3, 1), (3, 2), (3, 3), (3, 4), (3, 5), (3, 6), (3, 7), (3, 8), (4, 9), (4, 10), (22, 11), (25, 27)][i]? = some (ty, o) → ∃ y, DataW.trod enc Tryz.prog W 0 (fun _ => true) held n ty ((cs.drop o).take (Tryz.prog.cellsOf ty)) = some y := by
    intro i ty o he
    have hi : i < 13 := (List.getElem?_eq_some_iff.1 he).1
    have := hall i ty o he
    rw [List.getElem?_eq_getElem (by rw [hxl]; exact hi)] at this
    exact ⟨_, this⟩
  have int : ∀ o, o < 9 → ∃ z, (cs.drop o).take 1 = [.int .i64 z] := by
    intro o ho
    obtain ⟨y, hy⟩ := key o 3 o (by match o, ho with | 0, _ => rfl | 1, _ => rfl | 2, _ => rfl | 3, _ => rfl | 4, _ => rfl | 5, _ => rfl | 6, _ => rfl | 7, _ => rfl | 8, _ => rfl)
    rw [cc3] at hy
    obtain ⟨z, hz, _, _⟩ := DataW.trod_int Tryz.underlying3 hy
    exact ⟨z, hz⟩
  obtain ⟨n0, e0⟩ := int 0 (by decide)
  obtain ⟨n1, e1⟩ := int 1 (by decide)
  obtain ⟨n2, e2⟩ := int 2 (by decide)
  obtain ⟨n3, e3⟩ := int 3 (by decide)
  obtain ⟨n4, e4⟩ := int 4 (by decide)
  obtain ⟨n5, e5⟩ := int 5 (by decide)
  obtain ⟨n6, e6⟩ := int 6 (by decide)
  obtain ⟨n7, e7⟩ := int 7 (by decide)
  obtain ⟨n8, e8⟩ := int 8 (by decide)
  obtain ⟨y9, h9⟩ := key 9 4 9 rfl
  obtain ⟨y10, h10⟩ := key 10 4 10 rfl
  obtain ⟨y11, h11⟩ := key 11 22 11 rfl
  obtain ⟨y12, h12⟩ := key 12 25 27 rfl
  rw [cc4] at h9 h10
  rw [cc22] at h11
  rw [cc23] at h12
  obtain ⟨g, e9, _⟩ := DataW.trod_bool Tryz.underlying4 h9
  obtain ⟨a, e10, _⟩ := DataW.trod_bool Tryz.underlying4 h10
  obtain ⟨ad, e11, hA⟩ := adr_of h11
  obtain ⟨oa, on, oc, e12⟩ : ∃ oa on oc, (cs.drop 27).take 1 = [Value.slice oa on oc] := by
    rcases open_slice Tryz.underlying25 h12 with ⟨hcs, _⟩ | ⟨sad, l, c, _, _, _, _, hcs, _⟩
    · exact ⟨none, 0, 0, hcs⟩
    · exact ⟨some sad, l, c, hcs⟩
  rw [e12] at h12
  obtain ⟨L, hL⟩ := open_optsw (a := oa) (len := on) (cap := oc) ⟨n, h12⟩
  clear key int hall hxl h9 h10 h11 h12
  match cs, hlen with
  | c0 :: c1 :: c2 :: c3 :: c4 :: c5 :: c6 :: c7 :: c8 :: c9 :: c10 :: rest, hlen =>
    simp at e0 e1 e2 e3 e4 e5 e6 e7 e8 e9 e10 e11 e12 hlen
    subst e0; subst e1; subst e2; subst e3; subst e4; subst e5; subst e6; subst e7; subst e8; subst e9; subst e10
    refine ⟨⟨n0, n1, n2, n3, n4, n5, n6, n7, n8, g, a, ad, oa, on, oc, L⟩, ?_, ⟨hA, hL.1⟩, hL.2⟩
    have hr : rest = u8s ad ++ [.slice oa on oc] := by
      rw [← e11, ← e12, List.take_of_length_le (by simp; omega : (rest.drop 16).length ≤ 1), List.take_append_drop]
    simp [Mv.cs, Mv.hd, arr, hr]
theorem open_msg {H : Type} {enc : TypeId × Value → H} {W : World} {base : Nat} {held : Bool} {v : Value} {d : DataW H} {p : List MemPlace}
    (hok : Value.okWide Tryz.prog W .any base 27 v) (h : DataW.Trod enc Tryz.prog W 0 (fun _ => true) held 27 v d p) : ∃ m : Mv, v = .agg m.cs ∧ (m.ok W ∧ Wfo m.L) := by
  simp only [Value.okWide, uc25] at hok
  obtain ⟨cs, rfl, hsz, _⟩ := hok
  rw [cc25] at hsz
  obtain ⟨fuel, hf⟩ := h
  obtain ⟨m, hc, h1, h2⟩ := msg_of (cs := cs.toList) hf
  refine ⟨m, ?_, h1, h2⟩
  congr 1
  exact Array.ext' hc
end Go.Proofs.YtbklpelikaapoaaGreatDoor

namespace Go.Proofs.YtbklpelikaapoaaGreatDoor
open Go.ChangeShapes Go.WideShapes Go.ChangeAt Go.RowKit Go.Deep
set_option linter.unusedVariables false
set_option linter.unusedSimpArgs false

theorem c3 : Tryz.prog.cellsOf 3 = 1 := by kernel_rfl
end Go.Proofs.YtbklpelikaapoaaGreatDoor

namespace Go.Proofs.YtbklpelikaapoaaGreatDoor
open Go.ChangeShapes Go.WideShapes Go.ChangeAt Go.RowKit Go.Deep
set_option linter.unusedVariables false
set_option linter.unusedSimpArgs false
set_option linter.constructorNameAsVariable false

theorem cellsRo : Tryz.prog.cellsOf 29 = 5 := by kernel_rfl
theorem cells3o : Tryz.prog.cellsOf 3 = 1 := by kernel_rfl
theorem cells4o : Tryz.prog.cellsOf 4 = 1 := by kernel_rfl
theorem fsRo' : (Tryz.prog.fieldsOf 29).toList.map (fun f => (f.type, f.offset)) = [(4, 0), (4, 1), (4, 2), (3, 3), (3, 4)] := by kernel_rfl
theorem ho_cells {H : Type} {enc : TypeId × Value → H} {W : World} {held : Bool} {fuel : Nat} {cs : List Value} {x : DataW H × List MemPlace} (hlen : cs.length = 5)
    (hf : DataW.trod enc Tryz.prog W 0 (fun _ => true) held fuel 29 cs = some x) : ∃ h : Ho, cs = h.cs.toList := by
  obtain ⟨xs, n, rfl, hx, hl, hxl, hall⟩ := DataW.trod_struct fieldsRo hf
  have h5 : (Tryz.prog.fieldsOf 29).size = 5 := by have := congrArg List.length fsRo'; simpa using this
  have key : ∀ i t o, i < 5 → [(4, 0), (4, 1), (4, 2), (3, 3), (3, 4)][i]? = some (t, o) → ∃ y, DataW.trod enc Tryz.prog W 0 (fun _ => true) held n t ((cs.drop o).take (Tryz.prog.cellsOf t)) = some y := by
    intro i t o hi he
    have hi' : i < (Tryz.prog.fieldsOf 29).size := by omega
    have e1 := congrArg (·[i]?) fsRo'
    simp only [List.getElem?_map, he] at e1
    have e2 : (Tryz.prog.fieldsOf 29).toList[i]? = some (Tryz.prog.fieldsOf 29)[i] := by simp [hi']
    rw [e2] at e1
    simp only [Option.map_some, Option.some.injEq, Prod.mk.injEq] at e1
    have := hall i _ (Array.getElem?_eq_getElem hi')
    rw [e1.1, e1.2, List.getElem?_eq_getElem (by omega : i < xs.length)] at this
    exact ⟨_, this⟩
  obtain ⟨y0, h0⟩ := key 0 4 0 (by omega) rfl
  obtain ⟨y1, h1⟩ := key 1 4 1 (by omega) rfl
  obtain ⟨y2, h2⟩ := key 2 4 2 (by omega) rfl
  obtain ⟨y3, h3⟩ := key 3 3 3 (by omega) rfl
  obtain ⟨y4, h4⟩ := key 4 3 4 (by omega) rfl
  rw [cells4o] at h0 h1 h2
  rw [cells3o] at h3 h4
  obtain ⟨b0, k0, _⟩ := DataW.trod_bool Tryz.underlying4 h0
  obtain ⟨b1, k1, _⟩ := DataW.trod_bool Tryz.underlying4 h1
  obtain ⟨b2, k2, _⟩ := DataW.trod_bool Tryz.underlying4 h2
  obtain ⟨n3, k3, _⟩ := DataW.trod_int Tryz.underlying3 h3
  obtain ⟨n4, k4, _⟩ := DataW.trod_int Tryz.underlying3 h4
  clear key hall h0 h1 h2 h3 h4 hx hxl hl hf
  match cs, hlen with
  | [c0, c1, c2, c3, c4], _ =>
    simp at k0 k1 k2 k3 k4
    subst k0; subst k1; subst k2; subst k3; subst k4
    exact ⟨⟨b0, b1, b2, n3, n4⟩, rfl⟩
theorem open_ho {H : Type} {enc : TypeId × Value → H} {W : World} {base : Nat} {held : Bool} {v : Value} {d : DataW H} {p : List MemPlace}
    (hok : Value.okWide Tryz.prog W .any base 29 v) (h : DataW.Trod enc Tryz.prog W 0 (fun _ => true) held 29 v d p) : ∃ h : Ho, v = .agg h.cs ∧ True := by
  simp only [Value.okWide, fieldsRo] at hok
  obtain ⟨cs, rfl, hsz, _⟩ := hok
  rw [cellsRo] at hsz
  obtain ⟨fuel, hf⟩ := h
  obtain ⟨h, hc⟩ := ho_cells (cs := cs.toList) (by simpa using hsz) hf
  refine ⟨h, ?_, trivial⟩
  congr 1
  exact Array.ext' hc
end Go.Proofs.YtbklpelikaapoaaGreatDoor

namespace Go.Proofs.YtbklpelikaapoaaGreatDoor
open Go.ChangeShapes Go.WideShapes Go.ChangeAt Go.RowKit Go.Deep
set_option linter.unusedVariables false
set_option linter.unusedSimpArgs false
set_option linter.constructorNameAsVariable false

end Go.Proofs.YtbklpelikaapoaaGreatDoor

namespace Go.Proofs.YtbklpelikaapoaaGreatDoor
open Go.ChangeShapes Go.WideShapes Go.ChangeAt Go.RowKit Go.Deep
set_option linter.unusedVariables false
set_option linter.unusedSimpArgs false
set_option linter.constructorNameAsVariable false

theorem trod_ad2 {H : Type} {enc : TypeId × Value → H} {W : World} {held : Bool} {v : Value} {cs : Array Value} {d : DataW H} {p : List MemPlace} (hv : v = .agg cs) (h : DataW.Trod enc Tryz.prog W 0 (fun _ => true) held 22 v d p) : ∃ l, v = .agg (arr l) ∧ Adr l := by
  obtain ⟨fuel, hf⟩ := h
  rw [hv] at hf
  obtain ⟨l, hc, h1⟩ := adr_of (cs := cs.toList) hf
  have hc' : cs = arr l := by apply Array.toList_inj.1; rw [hc]; rfl
  rw [hv, hc']
  exact ⟨l, rfl, h1⟩
theorem open_ad2 {H : Type} {enc : TypeId × Value → H} {W : World} {base : Nat} {held : Bool} {v : Value} {d : DataW H} {p : List MemPlace}
    (hok : Value.okWide Tryz.prog W .any base 22 v) (h : DataW.Trod enc Tryz.prog W 0 (fun _ => true) held 22 v d p) : ∃ l, v = .agg (arr l) ∧ Adr l := by
  simp only [Value.okWide, Tryz.underlying22] at hok
  obtain ⟨cs, hv, _⟩ := hok
  exact trod_ad2 hv h
theorem open_txs {H : Type} {enc : TypeId × Value → H} {W : World} {held : Bool} {a : Option Addr} {len cap : Nat} {d : DataW H} {p : List MemPlace}
    (h : DataW.Trod enc Tryz.prog W 0 (fun _ => true) held 59 (.slice a len cap) d p) : ∃ L, Texts W a len cap L := by
  obtain ⟨fuel, hf⟩ := h
  exact open_texts hf
theorem dgmakes_law (f t : List Int) (m : Mv) (o : Ho) (n : Int) (a : Option Addr) (len cap : Nat) (L : List Txt) (w : World) (hf : Adr f) (ht : Adr t) (hm : m.ok w ∧ Wfo m.L) (ho : True) (hn : (Lit.int .i64 n).wf = true) (hL : Texts w a len cap L) (hV : CV w.heap.size w) :
    Calls Tryz.prog 5 #[.agg (arr f), .agg (arr t), .agg m.cs, .agg o.cs, .int .i64 n, .slice a len cap] w fun e w' => e = .returned (.bool true) ∧ Below w.heap.size w w' :=
  dgmakes_walk f t m o n a len cap L w hf ht hm hL hV
end Go.Proofs.YtbklpelikaapoaaGreatDoor

namespace Go.Proofs.YtbklpelikaapoaaGreatDoor
open Go.ChangeShapes Go.WideShapes Go.ChangeAt Go.RowKit Go.Deep
set_option linter.unusedVariables false
set_option linter.unusedSimpArgs false
set_option maxRecDepth 100000

theorem own : ownKnob Tryz.prog.godebug = none := by kernel_rfl
theorem laidOut : laidOutB Tryz.prog = true := by kernel_rfl
noncomputable def lowW : Nat := (World.holding Tryz.prog default ⟨#[], #[], []⟩).heap.size
def put (c : Array Value) : Obj → Obj
  | .cells _ t frozen => .cells c t frozen
  | o => o
def pblk (k : Nat) : Obj := .cells (pcs (prt k)).toArray 240
noncomputable def shc (k : Nat) (j : Nat) : List Value := [.string (wrd k), .slice (some ⟨lowW + j, 0, none⟩) (prt k).length (prt k).length, .bool (zer k), .bool (txb k)]
def shn (k : Nat) : List Value := [.string (wrd k), .slice none 0 0, .bool (zer k), .bool (txb k)]
noncomputable def shAll : Array Value := (shn 0 ++ (shc 1 0 ++ (shn 2 ++ (shc 3 1 ++ (shc 4 2 ++ (shc 5 3 ++ (shc 6 4 ++ (shc 7 5 ++ (shc 8 6 ++ shc 9 7))))))))).toArray
noncomputable def csAll : Array Value := #[.string (cwd 0), .slice (some ⟨lowW + 8, 0, none⟩) 1 1, .bool (crt 0), .slice (some ⟨lowW + 9, 0, none⟩) 3 3, .string (cwd 1), .slice (some ⟨lowW + 15, 0, none⟩) 6 6, .bool (crt 1), .slice (some ⟨lowW + 16, 0, none⟩) 6 6, .string (cwd 2), .slice (some ⟨lowW + 20, 0, none⟩) 4 4, .bool (crt 2), .slice (some ⟨lowW + 21, 0, none⟩) 5 5, .string (cwd 3), .slice (some ⟨lowW + 26, 0, none⟩) 4 4, .bool (crt 3), .slice (some ⟨lowW + 27, 0, none⟩) 2 2]
noncomputable def laidObjs : List Obj := [pblk 1, pblk 3, pblk 4, pblk 5, pblk 6, pblk 7, pblk 8, pblk 9, (.cells #[.int .i64 2, .slice none 0 0] 200), (.cells #[.int .i64 0, .int .i64 1, .int .i64 7] 3), (.cells #[.int .i64 0, .int .i64 0, .int .i64 255] 202), (.cells #[.int .i64 1, .int .i64 0, .int .i64 255] 202), (.cells #[.int .i64 2, .int .i64 0, .int .i64 65535] 202), (.cells #[.int .i64 3, .int .i64 7, .int .i64 1, .int .i64 4, .int .i64 3, .int .i64 7, .int .i64 5, .int .i64 0, .int .i64 7] 202), (.cells #[.int .i64 6, .int .i64 0, .int .i64 255] 202), (.cells #[.int .i64 1, .slice (some ⟨lowW + 10, 0, none⟩) 1 1, .int .i64 1, .slice (some ⟨lowW + 11, 0, none⟩) 1 1, .int .i64 2, .slice (some ⟨lowW + 12, 0, none⟩) 1 1, .int .i64 1, .slice (some ⟨lowW + 13, 0, none⟩) 3 3, .int .i64 1, .slice (some ⟨lowW + 14, 0, none⟩) 1 1, .int .i64 2, .slice none 0 0] 200), (.cells #[.int .i64 0, .int .i64 1, .int .i64 2, .int .i64 3, .int .i64 4, .int .i64 8] 3), (.cells #[.int .i64 0, .int .i64 0, .int .i64 255] 202), (.cells #[.int .i64 7, .int .i64 7, .int .i64 1, .int .i64 10, .int .i64 6, .int .i64 1] 202), (.cells #[.int .i64 8, .int .i64 0, .int .i64 255] 202), (.cells #[.int .i64 1, .slice (some ⟨lowW + 17, 0, none⟩) 1 1, .int .i64 1, .slice (some ⟨lowW + 18, 0, none⟩) 2 2, .int .i64 1, .slice none 0 0, .int .i64 1, .slice (some ⟨lowW + 19, 0, none⟩) 1 1] 200), (.cells #[.int .i64 0, .int .i64 1, .int .i64 5, .int .i64 6, .int .i64 9] 3), (.cells #[.int .i64 0, .int .i64 0, .int .i64 255] 202), (.cells #[.int .i64 10, .int .i64 7, .int .i64 1] 202), (.cells #[.int .i64 8, .int .i64 0, .int .i64 255] 202), (.cells #[.int .i64 9, .int .i64 0, .int .i64 255] 202), (.cells #[.int .i64 1, .slice (some ⟨lowW + 22, 0, none⟩) 1 1, .int .i64 1, .slice (some ⟨lowW + 23, 0, none⟩) 1 1, .int .i64 1, .slice (some ⟨lowW + 24, 0, none⟩) 1 1, .int .i64 1, .slice (some ⟨lowW + 25, 0, none⟩) 1 1] 200), (.cells #[.int .i64 0, .int .i64 1] 3)]
noncomputable def laidWorld (os : Os) : World :=
  let w0 := World.holding Tryz.prog os ⟨laidObjs.toArray, #[], []⟩
  { w0 with heap := (w0.heap.modify 1 (put shAll)).modify 0 (put csAll) }
theorem laid_met (os : Os) (args : Array Value) : laidMet Tryz.prog Rows.datagramBendsRow.laid ((laidWorld os).forCall (fun _ _ => 0) ⟨#[], args, []⟩).memory :=
  laidMet_of_run' 10 (by kernel_rfl) (by kernel_rfl)
end Go.Proofs.YtbklpelikaapoaaGreatDoor
