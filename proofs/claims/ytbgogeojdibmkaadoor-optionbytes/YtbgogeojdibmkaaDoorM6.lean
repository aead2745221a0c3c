/- Slices of options of the call's own: how they are made and put behind, in regions that draw their order too. · What the rows' lists give, and how options that came in are opened. · The document's answer: a kind's letters; Parts, Word, size. -/
import Derived.Test.YtbgogeojdibmkaaDoorM5
import Derived.Great.BuildSlice
import Derived.Test.YtbgogeojdibmkaaDoorCards
import Derived.Test.YtbgogeojdibmkaaDoorTie
import Derived.Deep.DeepHandedRow
import Derived.Lib.LaidTab
import Derived.Stop.LaidErr
import Derived.LaidLaws
import Derived.ChangeOld
import Derived.Carry
namespace Go.Proofs.YtbgogeojdibmkaaDoor
open Go.ChangeShapes Go.WideShapes Go.ChangeAt Go.RowKit Go.Deep
set_option linter.unusedVariables false
set_option linter.unusedSimpArgs false

theorem fillO' (k : Int) (na : Option Addr) (nl nc : Nat) (l : List Int) (a0 a1 a2 a3 a4 a5 a6 a7 a8 a9 a10 a11 a12 a13 a14 a15 : Int) (ta : Option Addr) (tl tc : Nat) (m : List Int) :
    Instr.fill (fun i => some (i * 19, 19)) ((Array.range (1 * 19)).map ((Value.agg Ov.zero.cs).cells[· % (Value.agg Ov.zero.cs).cells.size]!)) [(0, .agg (Ov.cs ⟨k, ⟨na, nl, nc, l⟩, [a0, a1, a2, a3, a4, a5, a6, a7, a8, a9, a10, a11, a12, a13, a14, a15], ⟨ta, tl, tc, m⟩⟩))] = some (Ov.cs ⟨k, ⟨na, nl, nc, l⟩, [a0, a1, a2, a3, a4, a5, a6, a7, a8, a9, a10, a11, a12, a13, a14, a15], ⟨ta, tl, tc, m⟩⟩) := by kernel_rfl
theorem fillO (o : Ov) (h : o.ad.length = 16) : Instr.fill (fun i => some (i * 19, 19)) ((Array.range (1 * 19)).map ((Value.agg Ov.zero.cs).cells[· % (Value.agg Ov.zero.cs).cells.size]!)) [(0, .agg o.cs)] = some o.cs := by
  obtain ⟨k, ⟨na, nl, nc, l⟩, ad, ⟨ta, tl, tc, m⟩⟩ := o
  simp only at h
  match ad, h with
  | [a0, a1, a2, a3, a4, a5, a6, a7, a8, a9, a10, a11, a12, a13, a14, a15], _ => exact fillO' k na nl nc l a0 a1 a2 a3 a4 a5 a6 a7 a8 a9 a10 a11 a12 a13 a14 a15 ta tl tc m
/-- A type of slices of options. -/
structure ST (ts t : TypeId) : Prop where
  und : Tryd.prog.underlying ts = some (.slice t)
  ot : OT t
theorem s23 : ST 23 43 := ⟨Tryd.underlying23, o43⟩
theorem s22 : ST 22 38 := ⟨Tryd.underlying22, o38⟩
theorem cells_zero : (Value.agg Ov.zero.cs).cells.size = 19 := by rw [Value.cells]; rfl
/-- A slice of one option. -/
theorem bsO {ops : Array Oper} {rest : List Oper} {o : Oper} {a : Act} {w : World} {Q : Exit → Act → World → Prop} {ts t : TypeId} (hT : ST ts t) (hg : o.guard = none) (y : Operand) (ho : o.op = .buildSlice ts 1 #[(0, y)])
    (v : Ov) (hl : Adr v.ad) (hy : a.eval y = .agg v.cs) (h : wpList Tryd.prog ops Q rest (a.put o.dst (.slice (some ⟨w.heap.size, 0, none⟩) 1 1)) (w.alloc (.cells v.cs t))) : wpList Tryd.prog ops Q (o :: rest) a w := by
  obtain ⟨ie, hi, hz, hs, hb⟩ := info_parts hT.ot.zero
  refine wpList_buildSlice hg ts t 1 _ ho v.cs ie _ hT.und hi hz (by rw [hs]; decide) (by rw [hs]; decide) ?_ h
  rw [hs]
  simp only [List.map_toArray, List.map_cons, List.map_nil, hy]
  exact fillO v hl.1
theorem step_bsO {ops : Array Oper} {o : Oper} {a : Act} {w : World} {K : Act → World → Prop} {Q : Exit → Act → World → Prop} {E : Prop} {ts t : TypeId} (hT : ST ts t) (hg : o.guard = none) (y : Operand) (ho : o.op = .buildSlice ts 1 #[(0, y)])
    (v : Ov) (hl : Adr v.ad) (hy : a.eval y = .agg v.cs) (h : K (a.put o.dst (.slice (some ⟨w.heap.size, 0, none⟩) 1 1)) (w.alloc (.cells v.cs t))) :
    if Region.wanted o (yielded ops a.tmps) = true then Oper.wp Tryd.prog o a w K Q else E := by
  rw [if_pos (by simp [Region.wanted, hg])]
  obtain ⟨ie, hi, hz, hs, hb⟩ := info_parts hT.ot.zero
  refine wp_buildSlice ts t 1 _ ho v.cs ie _ hT.und hi hz (by rw [hs]; decide) (by rw [hs]; decide) ?_ h
  rw [hs]
  simp only [List.map_toArray, List.map_cons, List.map_nil, hy]
  exact fillO v hl.1
theorem news_row {w : World} {g : Nat} {t : TypeId} {cs : Array Value} (h : Row w g t cs) : ∀ j u, cs.toList[j]? = some u → w.cell? ((⟨g, 0, none⟩ : Addr).add j) = some u := by
  intro j u hj
  rw [Addr.add_lit, Nat.zero_add, h.cell]
  simpa using hj
theorem one_list (v : Ov) : ∀ u ∈ v.cs.toList, u.oneCell' = true := by
  intro u hu
  have := v.one
  rw [Array.all_eq_true_iff_forall_mem] at this
  exact this u (by simpa using hu)
/-- An option more. -/
theorem step_pushO {ops : Array Oper} {o : Oper} {a : Act} {w : World} {K : Act → World → Prop} {Q : Exit → Act → World → Prop} {E : Prop} {ts t : TypeId} (hT : ST ts t) (hg : o.guard = none) (s y : Operand)
    (ho : o.op = .call { callee := .builtin .append, args := #[s, y], argTypes := #[ts, ts] }) (base m g : Nat) (v : Value) (xs : List Value) (hs : a.eval s = v) (hown : w.ownsRow base t 19 v m xs)
    (x : Ov) (hl : Adr x.ad) (hx : a.eval y = .slice (some ⟨g, 0, none⟩) 1 1) (hr : Row w g t x.cs) (hb : base ≤ w.heap.size) (hm : m ≤ 200000)
    (h : ∀ v' w', w'.ownsRow base t 19 v' (m + 1) (xs ++ x.cs.toList) → w.grownBy w' v.ownBlock → K (a.put o.dst v') w') :
    if Region.wanted o (yielded ops a.tmps) = true then Oper.wp Tryd.prog o a w K Q else E := by
  rw [if_pos (by simp [Region.wanted, hg])]
  obtain ⟨ie, hi, hz, hz1, hz2⟩ := info_parts hT.ot.zero
  refine wp_append_own w s y ts ho base t ie _ 19 72 hT.und hi hz hz1 hz2 cells_zero (by decide) v m xs hs hown ⟨g, 0, none⟩ 1 1 x.cs.toList hx (by rw [Array.length_toList, Ov.size hl]) (news_row hr) (one_list x) (by unfold maxLen; omega) (by omega) hb ?_
  intro v' w' h2 h3 _
  exact h v' w' h2 h3
/-- Numbers that lie somewhere, behind a row of the call's own, in a region that draws its order. -/
theorem step_appI {ops : Array Oper} {o : Oper} {a : Act} {w : World} {K : Act → World → Prop} {Q : Exit → Act → World → Prop} {E : Prop} {base n m cap : Nat} {v : Value} {xs l : List Int} {ao : Option Addr} (hg : o.guard = none) (s x : Operand)
    (ho : o.op = .call { callee := .builtin .append, args := #[s, x], argTypes := #[35, 35] }) (hs : a.eval s = v) (hx : a.eval x = .slice ao m cap)
    (hown : w.ownsRow base 3 1 v n (i64s xs)) (hl : Lies .i64 w ao m cap l) (hb : base ≤ w.heap.size) (hm : n + m ≤ 200000)
    (h : ∀ v' w', w'.ownsRow base 3 1 v' (n + m) (i64s (xs ++ l)) → w.grownBy w' v.ownBlock → K (a.put o.dst v') w') :
    if Region.wanted o (yielded ops a.tmps) = true then Oper.wp Tryd.prog o a w K Q else E := by
  rw [if_pos (by simp [Region.wanted, hg])]
  obtain ⟨ie, hi, hz, hz1, hz2⟩ := info_parts info3
  cases ao with
  | some ad =>
    refine wp_append_own w s x 35 ho base 3 ie _ 1 8 Tryd.underlying35 hi hz hz1 hz2 rfl (by decide) v n _ hs hown ad m cap (l.map (Value.int .i64)) hx (by rw [List.length_map, hl.1]; omega) (hl.cells ad rfl) (ints_oneCell8 l .i64) (by unfold maxLen; omega) (by omega) hb ?_
    intro v' w' h2 h3 _
    exact h v' w' (by rw [i64s, List.map_append]; exact h2) h3
  | none =>
    obtain ⟨rfl, rfl⟩ := hl.isNil rfl
    have hn : l = [] := List.eq_nil_of_length_eq_zero hl.1
    subst hn
    have hrun := run_append_owned_none (P := Tryd.prog) (w := w) base 35 o.type 3 ie 1 Tryd.underlying35 hi v n _ hown
    unfold Oper.wp
    simp [execOp, ho, resolve, invoke, builtin, hs, hx, hrun, Result.andThen]
    exact h v w (by simpa using hown) (World.grownBy.refl _ _)
theorem yields_ldo {P : Program} {ops : Array Oper} {S : World → Prop} {op : Oper} {a : Act} (hw : Region.wanted op (yielded ops a.tmps) = true) (ty : TypeId) (x : Operand) (ho : op.op = .load ty x)
    (g off : Nat) (hx : a.eval x = .pointer (some ⟨g, off, none⟩)) (cs : Array Value) (d : TypeDesc) (hS : ∀ w, S w → Part w g off cs)
    (hu : P.underlying ty = some d) (hd : (match d with | .struct _ | .array _ _ => true | _ => false) = true) (hi : (P.info? ty).map (·.size) = some cs.size) : YieldsIf P ops S op (.agg cs) a :=
  .inl ⟨hw, fun w hw' => by
    unfold execOp
    simp only [ho, hx, Instr.loadAt, Instr.sureAddr, Sem.run_bind, Sem.run_pure, Result.andThen_ok, run_loadVar_part w g off ty cs d (hS w hw') hu hd hi]⟩
theorem yld36 {ops : Array Oper} {S : World → Prop} {op : Oper} {a : Act} (hw : Region.wanted op (yielded ops a.tmps) = true) (x : Operand) (ho : op.op = .load 36 x)
    (g off : Nat) (hx : a.eval x = .pointer (some ⟨g, off, none⟩)) (l : List Int) (hl : Adr l) (hS : ∀ w, S w → Part w g off (arr l)) : YieldsIf Tryd.prog ops S op (.agg (arr l)) a :=
  yields_ldo hw 36 x ho g off hx (arr l) _ hS Tryd.underlying36 rfl (by rw [arr_size, hl.1]; exact size36)
theorem yld41 {ops : Array Oper} {S : World → Prop} {op : Oper} {a : Act} (hw : Region.wanted op (yielded ops a.tmps) = true) (x : Operand) (ho : op.op = .load 41 x)
    (g off : Nat) (hx : a.eval x = .pointer (some ⟨g, off, none⟩)) (l : List Int) (hl : Adr l) (hS : ∀ w, S w → Part w g off (arr l)) : YieldsIf Tryd.prog ops S op (.agg (arr l)) a :=
  yields_ldo hw 41 x ho g off hx (arr l) _ hS Tryd.underlying41 rfl (by rw [arr_size, hl.1]; exact size41)
theorem yldO {ops : Array Oper} {S : World → Prop} {op : Oper} {a : Act} {t : TypeId} (ht : OT t) (hw : Region.wanted op (yielded ops a.tmps) = true) (x : Operand) (ho : op.op = .load t x)
    (g off : Nat) (hx : a.eval x = .pointer (some ⟨g, off, none⟩)) (v : Ov) (hl : Adr v.ad) (hS : ∀ w, S w → Part w g off v.cs) : YieldsIf Tryd.prog ops S op (.agg v.cs) a := by
  obtain ⟨fs, h1⟩ := ht.desc
  exact yields_ldo hw t x ho g off hx v.cs _ hS h1 rfl (by rw [Ov.size hl]; exact ht.info)
theorem ybdO {ops : Array Oper} {S : World → Prop} {op : Oper} {a : Act} {t : TypeId} (ht : OT t) (hw : Region.wanted op (yielded ops a.tmps) = true) (x0 x1 x2 x3 : Operand) (ho : op.op = .build t #[(0, x0), (1, x1), (2, x2), (3, x3)])
    (h : Ov) (hl : Adr h.ad) (h0 : a.eval x0 = .int .i64 h.k) (h1 : a.eval x1 = h.n.v) (h2 : a.eval x2 = .agg (arr h.ad)) (h3 : a.eval x3 = h.t.v) : YieldsIf Tryd.prog ops S op (.agg h.cs) a :=
  .inl ⟨hw, fun w _ => by
    have hf : Tryd.prog.built t ((#[(0, x0), (1, x1), (2, x2), (3, x3)] : Array (Nat × Operand)).map fun (i, x) => (i, a.eval x)).toList = some h.cs := by
      simp only [List.map_toArray, List.map_cons, List.map_nil, h0, h1, h2, h3]; exact ht.full h hl.1
    unfold execOp
    simp only [ho, Sem.run_bind, run_build w t _ h.cs hf, Result.andThen_ok]
    rfl⟩
end Go.Proofs.YtbgogeojdibmkaaDoor

namespace Go.Proofs.YtbgogeojdibmkaaDoor
open Go.ChangeShapes Go.WideShapes Go.ChangeAt Go.RowKit Go.Deep
set_option linter.unusedVariables false
set_option linter.unusedSimpArgs false
set_option maxRecDepth 100000

theorem g0 : Tryd.prog.globalNamed "rivulet/option.shapes" = some 0 := by kernel_rfl
theorem gt0 : (Tryd.prog.globals[0]?).map (·.type) = some 63 := by kernel_rfl
theorem u63 : Tryd.prog.underlying 63 = some (.array 10 62) := by kernel_rfl
theorem u62 : Tryd.prog.underlying 62 = some (.struct (Tryd.prog.fieldsOf 62)) := by kernel_rfl
theorem u87 : Tryd.prog.underlying 87 = some (.struct (Tryd.prog.fieldsOf 87)) := by kernel_rfl
theorem u60 : Tryd.prog.underlying 60 = some (.slice 87) := by kernel_rfl
theorem c62 : Tryd.prog.cellsOf 62 = 4 := by kernel_rfl
theorem c63 : Tryd.prog.cellsOf 63 = 40 := by kernel_rfl
theorem c87 : Tryd.prog.cellsOf 87 = 2 := by kernel_rfl
theorem c60 : Tryd.prog.cellsOf 60 = 1 := by kernel_rfl
theorem c9 : Tryd.prog.cellsOf 9 = 1 := by kernel_rfl
theorem c4 : Tryd.prog.cellsOf 4 = 1 := by kernel_rfl
theorem c3 : Tryd.prog.cellsOf 3 = 1 := by kernel_rfl
theorem fs62 : (Tryd.prog.fieldsOf 62).toList.map (fun f => (f.type, f.offset)) = [(9, 0), (60, 1), (4, 2), (4, 3)] := by kernel_rfl
theorem fs87 : (Tryd.prog.fieldsOf 87).toList.map (fun f => (f.type, f.offset)) = [(3, 0), (3, 1)] := by kernel_rfl

/-- The fields of a struct, each read by itself. -/
theorem fields_of {H : Type} {enc : TypeId × Value → H} {W : World} {held : Bool} {fuel : Nat} {t : TypeId} {cs : List Value} {x : DataW H × List MemPlace} (hu : Tryd.prog.underlying t = some (.struct (Tryd.prog.fieldsOf t)))
    (l : List (TypeId × Nat)) (hl : (Tryd.prog.fieldsOf t).toList.map (fun f => (f.type, f.offset)) = l) (h : DataW.trod enc Tryd.prog W 0 (fun _ => true) held fuel t cs = some x) :
    ∃ (xs : List (DataW H × List MemPlace)) (n : Nat), x = (.agg (xs.map (·.1)), xs.flatMap (·.2)) ∧ cs.length = Tryd.prog.cellsOf t ∧ xs.length = l.length ∧
      ∀ (i : Nat) (ty : TypeId) (o : Nat), l[i]? = some (ty, o) → DataW.trod enc Tryd.prog W 0 (fun _ => true) held n ty ((cs.drop o).take (Tryd.prog.cellsOf ty)) = xs[i]? := by
  obtain ⟨xs, n, _, hx, hlen, hxl, hall⟩ := DataW.trod_struct hu h
  have hsz : (Tryd.prog.fieldsOf t).size = l.length := by have := congrArg List.length hl; simpa using this
  refine ⟨xs, n, hx, hlen, hxl.trans hsz, ?_⟩
  intro i ty o he
  have hi : i < (Tryd.prog.fieldsOf t).size := by rw [hsz]; exact (List.getElem?_eq_some_iff.1 he).1
  have e1 := congrArg (·[i]?) hl
  simp only [List.getElem?_map, he] at e1
  have e2 : (Tryd.prog.fieldsOf t).toList[i]? = some (Tryd.prog.fieldsOf t)[i] := by simp [hi]
  rw [e2] at e1
  simp only [Option.map_some, Option.some.injEq, Prod.mk.injEq] at e1
  have := hall i _ (Array.getElem?_eq_getElem hi)
  rw [e1.1, e1.2] at this
  exact this

/-- A part as a datum. -/
def pd {H : Type} (p : Int × Int) : DataW H := .agg [.lit (.int .i64 p.1), .lit (.int .i64 p.2)]
def pdat {H : Type} (l : List (Int × Int)) : DataW H := match l with | [] => .nil | _ => .slice (l.map pd) []
theorem pd_inj {H : Type} (p q : Int × Int) (h : (pd p : DataW H) = pd q) : p = q := by
  simp [pd] at h; exact Prod.ext h.1 h.2
theorem part_of {H : Type} {enc : TypeId × Value → H} {W : World} {held : Bool} {fuel : Nat} {cs : List Value} {x : DataW H × List MemPlace} (h : DataW.trod enc Tryd.prog W 0 (fun _ => true) held fuel 87 cs = some x) :
    ∃ p : Int × Int, cs = [.int .i64 p.1, .int .i64 p.2] ∧ x.1 = pd p := by
  obtain ⟨xs, n, rfl, hlen, hxl, hall⟩ := fields_of u87 _ fs87 h
  rw [c87] at hlen
  match xs, hxl, cs, hlen with
  | [y0, y1], _, [v0, v1], _ =>
    have h0 := hall 0 3 0 rfl
    have h1 := hall 1 3 1 rfl
    rw [c3] at h0 h1
    simp at h0 h1
    obtain ⟨z0, e0, f0, _⟩ := DataW.trod_int Tryd.underlying3 h0
    obtain ⟨z1, e1, f1, _⟩ := DataW.trod_int Tryd.underlying3 h1
    simp at e0 e1
    subst e0; subst e1
    refine ⟨(z0, z1), rfl, ?_⟩
    simp [pd, f0, f1]
theorem parts_of {H : Type} {enc : TypeId × Value → H} {W : World} {held : Bool} {fuel : Nat} {cs : List Value} {x : DataW H × List MemPlace} (l : List (Int × Int)) (h : DataW.trod enc Tryd.prog W 0 (fun _ => true) held fuel 60 cs = some x) (hx : x.1 = pdat l) :
    ∃ a n cap, cs = [.slice a n cap] ∧ PLies W.heap.size W a n cap l := by
  rcases open_slice u60 h with ⟨hcs, rfl⟩ | ⟨ad, len, cap, m, n, D, Pl, hcs, _, hl, hm, hmm, rfl, hall⟩
  · match l, hx with
    | [], _ => exact ⟨none, 0, 0, hcs, rfl, Nat.le_refl _, by decide, fun i hi => by omega⟩
    | p :: l, hx => simp [pdat] at hx
  · match l, hx with
    | [], hx => simp [pdat] at hx
    | p :: l, hx =>
      generalize p :: l = L at *
      have hx : (DataW.slice ((List.range len).map D) ((List.range (m - len)).map fun j => D (len + j)) : DataW H) = .slice (L.map pd) [] := by
        simp only [pdat] at hx
        split at hx
        · cases hx
        · exact hx
      injection hx with hx1 _
      have hlen : L.length = len := by have := congrArg List.length hx1; simpa using this.symm
      have hspot : len ≠ 0 → ad.spot = none := by
        intro h0
        obtain ⟨cs', h1, h2⟩ := hall 0 (by simp at hmm; omega)
        rw [c87] at h1
        obtain ⟨_, hl2, hc⟩ := World.cells?_some h1
        have e0 := hc 0 (by omega)
        rw [List.getElem?_eq_getElem (by omega)] at e0
        exact World.cell?_spot (by simpa [Addr.add] using e0)
      obtain ⟨b, off, spot⟩ := ad
      refine ⟨some ⟨b, off, spot⟩, len, cap, hcs, hlen, hl, hm, fun i hi => ?_⟩
      have hs := hspot (by omega)
      simp only at hs
      subst hs
      obtain ⟨cs', h1, h2⟩ := hall i (by simp at hmm; omega)
      rw [c87] at h1
      obtain ⟨_, hl2, hc⟩ := World.cells?_some h1
      obtain ⟨q, rfl, hq⟩ := part_of h2
      have hDi : D i = pd (L.getD i (0, 0)) := by
        have := congrArg (·[i]?) hx1
        simp only [List.getElem?_map, List.getElem?_range hi, Option.map_some] at this
        rw [List.getElem?_eq_getElem (by omega)] at this
        simp only [Option.map_some, Option.some.injEq] at this
        rw [this]; simp [show i < L.length by omega]
      have hqq : q = L.getD i (0, 0) := pd_inj _ _ (hq.symm.trans hDi)
      subst hqq
      have e0 := hc 0 (by omega)
      have e1 := hc 1 (by omega)
      simp only [Addr.add_lit, Nat.add_zero, List.getElem?_cons_zero, List.getElem?_cons_succ] at e0 e1
      exact ⟨b, off, rfl, World.block_lt_of_cell? W _ e0, e0, e1⟩
/-- A kind as a datum. -/
def shD {H : Type} (k : Nat) : DataW H := .agg [.lit (.string (wrd k).data.toList), pdat (prt k), .lit (.bool (zer k)), .lit (.bool (txb k))]
theorem laid_eq : (Rows.laid_rivulet_option_shapes : DataW Unit) = .agg ((List.range 10).map shD) := by kernel_rfl
theorem shape_of {enc : TypeId × Value → Unit} {W : World} {held : Bool} {fuel : Nat} {cs : List Value} {x : DataW Unit × List MemPlace} (k : Nat) (h : DataW.trod enc Tryd.prog W 0 (fun _ => true) held fuel 62 cs = some x) (hx : x.1 = shD k) :
    ∃ a n cap, cs = [.string (wrd k), .slice a n cap, .bool (zer k), .bool (txb k)] ∧ PLies W.heap.size W a n cap (prt k) := by
  obtain ⟨xs, n, rfl, hlen, hxl, hall⟩ := fields_of u62 _ fs62 h
  rw [c62] at hlen
  match xs, hxl, cs, hlen with
  | [y0, y1, y2, y3], _, [v0, v1, v2, v3], _ =>
    have h0 := hall 0 9 0 rfl
    have h1 := hall 1 60 1 rfl
    have h2 := hall 2 4 2 rfl
    have h3 := hall 3 4 3 rfl
    rw [c9] at h0
    rw [c60] at h1
    rw [c4] at h2 h3
    simp at h0 h1 h2 h3
    simp [shD] at hx
    obtain ⟨s, e0, f0, _⟩ := DataW.trod_string Tryd.underlying9 h0
    obtain ⟨a, m, cap, e1, hP⟩ := parts_of (prt k) h1 hx.2.1
    obtain ⟨b2, e2, f2⟩ := DataW.trod_bool Tryd.underlying4 h2
    obtain ⟨b3, e3, f3⟩ := DataW.trod_bool Tryd.underlying4 h3
    simp at e0 e1 e2 e3
    subst e0; subst e1; subst e2; subst e3
    rw [f0, f2, f3] at hx
    simp at hx
    obtain ⟨q0, _, q2, q3⟩ := hx
    refine ⟨a, m, cap, ?_, hP⟩
    have hs : s = wrd k := by
      have : s.data = (wrd k).data := by simpa using q0
      cases s; cases hw : wrd k; simp_all
    rw [hs, q2, q3]
theorem vars_of {W : World} (h : laidMetH Tryd.prog Rows.optionJoinsRow.laid W) : Vars W.heap.size W := by
  have h : laidMet Tryd.prog [("rivulet/option.shapes", Rows.laid_rivulet_option_shapes)] W := h
  obtain ⟨ps, ⟨g, t, cs, fuel, p, q, hg, ht, hvar, hd, _, _⟩, _⟩ := h
  obtain rfl := Option.some.inj (g0.symm.trans hg)
  obtain rfl := Option.some.inj (gt0.symm.trans ht)
  rw [laid_eq] at hd
  obtain ⟨xs, m, _, hx, hlen, hxl, hall⟩ := DataW.trod_array u63 hd
  have hx1 : (DataW.agg ((List.range 10).map shD) : DataW Unit) = .agg (xs.map (·.1)) := congrArg Prod.fst hx
  injection hx1 with hx1
  rw [c63] at hlen
  rw [c62] at hall
  have key : ∀ k, k < 10 → ∃ a n cap, (cs.toList.drop (k * 4)).take 4 = [.string (wrd k), .slice a n cap, .bool (zer k), .bool (txb k)] ∧ PLies W.heap.size W a n cap (prt k) := by
    intro k hk
    have h1 := hall k hk
    rw [List.getElem?_eq_getElem (by omega)] at h1
    refine shape_of k h1 ?_
    have := congrArg (·[k]?) hx1
    simp only [List.getElem?_map, List.getElem?_range hk, Option.map_some] at this
    rw [List.getElem?_eq_getElem (by omega)] at this
    simpa using this.symm
  have cell : ∀ k j v, k < 10 → j < 4 → ((cs.toList.drop (k * 4)).take 4)[j]? = some v → W.cell? ⟨0, k * 4 + j, none⟩ = some v := by
    intro k j v hk hj hv
    have h0 := World.var?_cell g0 hvar (k * 4 + j)
    rw [h0]
    rw [List.getElem?_take, if_pos hj, List.getElem?_drop] at hv
    simpa using hv
  have c0 : W.cell? ⟨0, 0, none⟩ = some (.string (wrd 0)) := by
    obtain ⟨a, n, cap, e, _⟩ := key 0 (by decide)
    exact cell 0 0 _ (by decide) (by decide) (by rw [e]; rfl)
  refine ⟨World.block_lt_of_cell? W _ c0, Nat.le_refl _, fun k hk => ?_, fun k hk => ?_, fun k hk => ?_, fun k hk => ?_⟩
  · obtain ⟨a, n, cap, e, _⟩ := key k hk
    exact cell k 0 _ hk (by decide) (by rw [e]; rfl)
  · obtain ⟨a, n, cap, e, hP⟩ := key k hk
    exact ⟨a, n, cap, cell k 1 _ hk (by decide) (by rw [e]; rfl), hP⟩
  · obtain ⟨a, n, cap, e, _⟩ := key k hk
    exact cell k 2 _ hk (by decide) (by rw [e]; rfl)
  · obtain ⟨a, n, cap, e, _⟩ := key k hk
    exact cell k 3 _ hk (by decide) (by rw [e]; rfl)

/-! How options that came in are opened. -/
theorem u38 : Tryd.prog.underlying 38 = some (.struct (Tryd.prog.fieldsOf 38)) := by kernel_rfl
theorem fs38 : (Tryd.prog.fieldsOf 38).toList.map (fun f => (f.type, f.offset)) = [(3, 0), (35, 1), (36, 2), (26, 18)] := by kernel_rfl
theorem c38 : Tryd.prog.cellsOf 38 = 19 := by kernel_rfl
theorem c35 : Tryd.prog.cellsOf 35 = 1 := by kernel_rfl
theorem c36 : Tryd.prog.cellsOf 36 = 16 := by kernel_rfl
theorem c26 : Tryd.prog.cellsOf 26 = 1 := by kernel_rfl
theorem adr_of {H : Type} {enc : TypeId × Value → H} {W : World} {held : Bool} {fuel : Nat} {cs : List Value} {x : DataW H × List MemPlace} (h : DataW.trod enc Tryd.prog W 0 (fun _ => true) held fuel 36 cs = some x) : ∃ l, cs = u8s l ∧ Adr l := by
  obtain ⟨xs, m, _, hx, hlen, hxl, hall⟩ := DataW.trod_array Tryd.underlying36 h
  rw [c36] at hlen
  rw [c5] at hall
  have key : ∀ i, i < 16 → ∃ z, cs[i]? = some (.int .u8 z) ∧ 0 ≤ z ∧ z < 256 := by
    intro i hi
    have h1 := hall i hi
    rw [Nat.mul_one, List.getElem?_eq_getElem (by omega)] at h1
    obtain ⟨z, hz, _, hw⟩ := DataW.trod_int Tryd.underlying5 h1
    have h2 : cs[i]? = some (.int .u8 z) := by
      have := congrArg (·[0]?) hz
      simpa [List.getElem?_take, List.getElem?_drop] using this
    exact ⟨z, h2, wf_u8 hw⟩
  refine ⟨cs.map intOf, ?_, ?_, ?_⟩
  · apply List.ext_getElem?
    intro i
    by_cases hi : i < 16
    · obtain ⟨z, hz, _⟩ := key i hi
      simp only [u8s, List.getElem?_map, hz, Option.map_some, intOf]
    · rw [List.getElem?_eq_none (by omega), List.getElem?_eq_none (by simp [u8s]; omega)]
  · simpa using hlen
  · intro x hx
    simp only [List.mem_map] at hx
    obtain ⟨v, hv, rfl⟩ := hx
    obtain ⟨i, hi, rfl⟩ := List.mem_iff_getElem.1 hv
    obtain ⟨z, hz, h0, h1⟩ := key i (by omega)
    rw [List.getElem?_eq_getElem hi] at hz
    rw [Option.some.inj hz]
    exact ⟨h0, h1⟩
theorem row_of {H : Type} {enc : TypeId × Value → H} {W : World} {held : Bool} {fuel : Nat} {cs : List Value} {x : DataW H × List MemPlace} {t e : TypeId} {kd : IntKind} (ht : Tryd.prog.underlying t = some (.slice e)) (he : Tryd.prog.underlying e = some (.int kd)) (hc : Tryd.prog.cellsOf e = 1)
    (h : DataW.trod enc Tryd.prog W 0 (fun _ => true) held fuel t cs = some x) : ∃ (a : Option Addr) (n cap : Nat) (zs : List Int), cs = [.slice a n cap] ∧ IsRow kd W a n cap zs := by
  rcases open_ints ht he hc h with ⟨hcs, _⟩ | ⟨y, l', c', zs, hcs, _, hl', hm', hz', _, hc', hwz⟩
  · exact ⟨none, 0, 0, [], hcs, .inl ⟨rfl, rfl, rfl, rfl⟩⟩
  · exact ⟨some y, l', c', zs, hcs, .inr ⟨y, rfl, hl', hm', by simpa using hz', hc', hwz⟩⟩
theorem opt_of {H : Type} {enc : TypeId × Value → H} {W : World} {held : Bool} {fuel : Nat} {cs : List Value} {x : DataW H × List MemPlace} (h : DataW.trod enc Tryd.prog W 0 (fun _ => true) held fuel 38 cs = some x) : ∃ o : Ov, cs = o.cs.toList ∧ o.ok W := by
  obtain ⟨xs, n, rfl, hlen, hxl, hall⟩ := fields_of u38 _ fs38 h
  rw [c38] at hlen
  have key : ∀ (i : Nat) (ty : TypeId) (o : Nat), [(3, 0), (35, 1), (36, 2), (26, 18)][i]? = some (ty, o) → ∃ y, DataW.trod enc Tryd.prog W 0 (fun _ => true) held n ty ((cs.drop o).take (Tryd.prog.cellsOf ty)) = some y := by
    intro i ty o he
    have hi : i < 4 := (List.getElem?_eq_some_iff.1 he).1
    have := hall i ty o he
    rw [List.getElem?_eq_getElem (by rw [hxl]; exact hi)] at this
    exact ⟨_, this⟩
  obtain ⟨y0, h0⟩ := key 0 3 0 rfl
  obtain ⟨y1, h1⟩ := key 1 35 1 rfl
  obtain ⟨y2, h2⟩ := key 2 36 2 rfl
  obtain ⟨y3, h3⟩ := key 3 26 18 rfl
  rw [c3] at h0
  rw [c35] at h1
  rw [c36] at h2
  rw [c26] at h3
  obtain ⟨k, e0, _⟩ := DataW.trod_int Tryd.underlying3 h0
  obtain ⟨na, nl, nc, nz, e1, hr1⟩ := row_of Tryd.underlying35 Tryd.underlying3 c3 h1
  obtain ⟨ad, e2, hA⟩ := adr_of h2
  obtain ⟨ta, tl, tc, tz, e3, hr3⟩ := row_of Tryd.underlying26 Tryd.underlying5 c5 h3
  refine ⟨⟨k, ⟨na, nl, nc, nz.take nl⟩, ad, ⟨ta, tl, tc, tz.take tl⟩⟩, ?_, hr1.lies, hA, hr3.lies, oct_take hr3.oct _⟩
  have s0 : cs = cs.take 1 ++ ((cs.drop 1).take 1 ++ ((cs.drop 2).take 16 ++ (cs.drop 18).take 1)) := by
    have t3 : (cs.drop 18).take 1 = cs.drop 18 := List.take_of_length_le (by simp; omega)
    have t2 : (cs.drop 2).take 16 ++ cs.drop 18 = cs.drop 2 := by
      have := List.take_append_drop 16 (cs.drop 2)
      rwa [List.drop_drop] at this
    have t1 : (cs.drop 1).take 1 ++ cs.drop 2 = cs.drop 1 := by
      have := List.take_append_drop 1 (cs.drop 1)
      rwa [List.drop_drop] at this
    rw [t3, t2, t1, List.take_append_drop]
  rw [List.drop_zero] at e0
  rw [s0, e0, e1, e2, e3]
  simp [Ov.cs, arr, Txt.v]
theorem open_opts {H : Type} {enc : TypeId × Value → H} {W : World} {held : Bool} {a : Option Addr} {len cap : Nat} {d : DataW H} {p : List MemPlace}
    (h : DataW.Trod enc Tryd.prog W 0 (fun _ => true) held 22 (.slice a len cap) d p) : ∃ L, Opts W a len cap L := by
  obtain ⟨fuel, hf⟩ := h
  rcases open_slice Tryd.underlying22 hf with ⟨hcs, _⟩ | ⟨ad, l, c, m, n, D, Pl, hcs, _, hl, hm, hmm, _, hall⟩
  · simp [Value.cells] at hcs
    obtain ⟨rfl, rfl, rfl⟩ := hcs
    exact ⟨[], Opts.none W⟩
  · simp [Value.cells] at hcs
    obtain ⟨rfl, rfl, rfl⟩ := hcs
    have hm' : m = cap := by simpa using hmm
    subst hm'
    rw [c38] at hall
    have key : ∀ i, ∃ o : Ov, i < len → (∀ j, j < 19 → W.cell? ((ad.add (i * 19)).add j) = o.cs[j]?) ∧ o.ok W := by
      intro i
      by_cases hi : i < len
      · obtain ⟨cs', h1, h2⟩ := hall i (by omega)
        obtain ⟨_, hlen, hcell⟩ := World.cells?_some h1
        obtain ⟨o, rfl, hok⟩ := opt_of h2
        exact ⟨o, fun _ => ⟨fun j hj => by rw [hcell j hj]; simp, hok⟩⟩
      · exact ⟨Ov.zero, fun h => absurd h hi⟩
    obtain ⟨f, hf'⟩ := Classical.axiomOfChoice key
    refine ⟨(List.range len).map f, by simp, hl, hm, (fun h => by cases h), ?_, ?_⟩
    · intro k hk
      have hspot : ad.spot = none := by
        have h0 := (hf' 0 (by omega)).1 0 (by decide)
        rw [Ov.at0] at h0
        exact World.cell?_spot (by simpa [Addr.add] using h0)
      obtain ⟨b, off, spot⟩ := ad
      simp at hspot
      subst hspot
      refine ⟨b, off, rfl, ?_⟩
      intro j v hv
      have hA := (hf' k hk).2.ad
      have e : ((List.range len).map f).getD k Ov.zero = f k := by simp [hk]
      rw [e] at hv
      have hj : j < 19 := by have := (Array.getElem?_eq_some_iff.1 hv).1; rw [Ov.size hA] at this; exact this
      have := (hf' k hk).1 j hj
      rw [Addr.add_lit, Addr.add_lit] at this
      rw [this]; exact hv
    · intro o ho
      simp at ho
      obtain ⟨i, hi, rfl⟩ := ho
      exact (hf' i hi).2
end Go.Proofs.YtbgogeojdibmkaaDoor

namespace Go.Proofs.YtbgogeojdibmkaaDoor
open Go.ChangeShapes Go.WideShapes Go.ChangeAt Go.RowKit Go.Deep
set_option linter.unusedVariables false
set_option linter.unusedSimpArgs false

def chsL : List ByteArray := [⟨#[]⟩, ⟨#[120]⟩, ⟨#[116]⟩, ⟨#[112, 49, 52, 97]⟩, ⟨#[49, 49, 49, 49, 50, 50, 50, 122, 49, 50]⟩, ⟨#[49, 112, 97]⟩, ⟨#[49, 49, 49, 49]⟩, ⟨#[49, 49, 97, 49]⟩, ⟨#[112, 49, 52, 52, 113, 97]⟩, ⟨#[52]⟩]
/-- A kind's letters. -/
def chs (k : Nat) : ByteArray := chsL.getD k ⟨#[]⟩
def lets (n : Int) : ByteArray := if kndB n = true then chs n.toNat else ⟨#[63]⟩
theorem chs_at (k : Nat) (hk : k < 10) : (#[Value.string ⟨#[]⟩, .string ⟨#[120]⟩, .string ⟨#[116]⟩, .string ⟨#[112, 49, 52, 97]⟩, .string ⟨#[49, 49, 49, 49, 50, 50, 50, 122, 49, 50]⟩, .string ⟨#[49, 112, 97]⟩, .string ⟨#[49, 49, 49, 49]⟩, .string ⟨#[49, 49, 97, 49]⟩, .string ⟨#[112, 49, 52, 52, 113, 97]⟩, .string ⟨#[52]⟩] : Array Value)[k]? = some (.string (chs k)) := by
  match k, hk with
  | 0, _ => rfl
  | 1, _ => rfl
  | 2, _ => rfl
  | 3, _ => rfl
  | 4, _ => rfl
  | 5, _ => rfl
  | 6, _ => rfl
  | 7, _ => rfl
  | 8, _ => rfl
  | 9, _ => rfl
theorem wrd_at (k : Nat) (hk : k < 10) : (#[Value.string ⟨#[112, 97, 100]⟩, .string ⟨#[112, 97, 100, 115]⟩, .string ⟨#[109, 101, 116, 114, 105, 99]⟩, .string ⟨#[114, 111, 117, 116, 101]⟩, .string ⟨#[99, 111, 110, 102, 105, 103]⟩, .string ⟨#[116, 97, 114, 103, 101, 116]⟩, .string ⟨#[116, 114, 97, 110, 115, 105, 116]⟩, .string ⟨#[115, 111, 108, 105, 99, 105, 116, 101, 100]⟩, .string ⟨#[112, 114, 101, 102, 105, 120]⟩, .string ⟨#[100, 101, 115, 99, 114, 105, 112, 116, 111, 114]⟩] : Array Value)[k]? = some (.string (wrd k)) := by
  match k, hk with
  | 0, _ => rfl
  | 1, _ => rfl
  | 2, _ => rfl
  | 3, _ => rfl
  | 4, _ => rfl
  | 5, _ => rfl
  | 6, _ => rfl
  | 7, _ => rfl
  | 8, _ => rfl
  | 9, _ => rfl
set_option maxHeartbeats 400000 in
theorem parts_any (n : Int) (w : World) : Calls Tryd.prog 27 #[.int .i64 n] w fun e w' => e = .returned (.string (lets n)) ∧ Below w.heap.size w w' := by
  have B0 := hid (balloc (Below.refl w.heap.size w) (.cells #[Value.string ⟨#[]⟩, .string ⟨#[120]⟩, .string ⟨#[116]⟩, .string ⟨#[112, 49, 52, 97]⟩, .string ⟨#[49, 49, 49, 49, 50, 50, 50, 122, 49, 50]⟩, .string ⟨#[49, 112, 97]⟩, .string ⟨#[49, 49, 49, 49]⟩, .string ⟨#[49, 49, 97, 49]⟩, .string ⟨#[112, 49, 52, 52, 113, 97]⟩, .string ⟨#[52]⟩] 64))
  have R0 := hid (Row.new w 64 #[Value.string ⟨#[]⟩, .string ⟨#[120]⟩, .string ⟨#[116]⟩, .string ⟨#[112, 49, 52, 97]⟩, .string ⟨#[49, 49, 49, 49, 50, 50, 50, 122, 49, 50]⟩, .string ⟨#[49, 112, 97]⟩, .string ⟨#[49, 49, 49, 49]⟩, .string ⟨#[49, 49, 97, 49]⟩, .string ⟨#[112, 49, 52, 52, 113, 97]⟩, .string ⟨#[52]⟩])
  cases hk : kndB n
  · have HV : Hid (lets n = ⟨#[63]⟩) := by simp [Hid, lets, hk]
    have hn : n < 0 ∨ 9 < n := by simp [kndB] at hk; omega
    rcases hn with hn | hn
    · have e0 : decide (n < 0) = true := decide_eq_true hn
      go_enter Tryd.func27, Tryd.ntmps27
      go_upto_region 2 with fail
      generalize w.alloc (.cells #[Value.string ⟨#[]⟩, .string ⟨#[120]⟩, .string ⟨#[116]⟩, .string ⟨#[112, 49, 52, 97]⟩, .string ⟨#[49, 49, 49, 49, 50, 50, 50, 122, 49, 50]⟩, .string ⟨#[49, 112, 97]⟩, .string ⟨#[49, 49, 49, 49]⟩, .string ⟨#[49, 49, 97, 49]⟩, .string ⟨#[112, 49, 52, 52, 113, 97]⟩, .string ⟨#[52]⟩] 64) = w1 at *
      go_wp2_with fail
      go_ret
      exact ⟨ret_str HV.out.symm, B0.out⟩
    · have e0 : decide (n < 0) = false := decide_eq_false (by omega)
      have e1 : decide (9 < n) = true := decide_eq_true hn
      go_enter Tryd.func27, Tryd.ntmps27
      go_upto_region 2 with fail
      generalize w.alloc (.cells #[Value.string ⟨#[]⟩, .string ⟨#[120]⟩, .string ⟨#[116]⟩, .string ⟨#[112, 49, 52, 97]⟩, .string ⟨#[49, 49, 49, 49, 50, 50, 50, 122, 49, 50]⟩, .string ⟨#[49, 112, 97]⟩, .string ⟨#[49, 49, 49, 49]⟩, .string ⟨#[49, 49, 97, 49]⟩, .string ⟨#[112, 49, 52, 52, 113, 97]⟩, .string ⟨#[52]⟩] 64) = w1 at *
      go_wp2_with fail
      go_ret
      exact ⟨ret_str HV.out.symm, B0.out⟩
  · obtain ⟨k, rfl, hk10⟩ := knd_nat hk
    have HV : Hid (lets k = chs k) := by simp [Hid, lets, hk]
    have e0 : decide ((k : Int) < 0) = false := decide_eq_false (by omega)
    have e1 : decide ((9 : Int) < (k : Int)) = false := decide_eq_false (by omega)
    have e2 : decide (9 < k) = false := decide_eq_false (by omega)
    have hk10' : (k : Int) < 10 := by omega
    clear hk
    go_enter Tryd.func27, Tryd.ntmps27
    go_upto_region 2 with fail
    generalize w.alloc (.cells #[Value.string ⟨#[]⟩, .string ⟨#[120]⟩, .string ⟨#[116]⟩, .string ⟨#[112, 49, 52, 97]⟩, .string ⟨#[49, 49, 49, 49, 50, 50, 50, 122, 49, 50]⟩, .string ⟨#[49, 112, 97]⟩, .string ⟨#[49, 49, 49, 49]⟩, .string ⟨#[49, 49, 97, 49]⟩, .string ⟨#[112, 49, 52, 52, 113, 97]⟩, .string ⟨#[52]⟩] 64) = w1 at *
    have ck := (R0.out.cell k).trans (chs_at k hk10)
    go_wp2_with fail
    go_ret
    exact ⟨ret_str HV.out.symm, B0.out⟩
set_option maxHeartbeats 400000 in
theorem refWord_any (n : Int) (w : World) : Calls Tryd.prog 13 #[.int .i64 n] w fun e w' => e = .returned (.string (wordOf n)) ∧ Below w.heap.size w w' := by
  have B0 := hid (balloc (Below.refl w.heap.size w) (.cells #[Value.string ⟨#[112, 97, 100]⟩, .string ⟨#[112, 97, 100, 115]⟩, .string ⟨#[109, 101, 116, 114, 105, 99]⟩, .string ⟨#[114, 111, 117, 116, 101]⟩, .string ⟨#[99, 111, 110, 102, 105, 103]⟩, .string ⟨#[116, 97, 114, 103, 101, 116]⟩, .string ⟨#[116, 114, 97, 110, 115, 105, 116]⟩, .string ⟨#[115, 111, 108, 105, 99, 105, 116, 101, 100]⟩, .string ⟨#[112, 114, 101, 102, 105, 120]⟩, .string ⟨#[100, 101, 115, 99, 114, 105, 112, 116, 111, 114]⟩] 64))
  have R0 := hid (Row.new w 64 #[Value.string ⟨#[112, 97, 100]⟩, .string ⟨#[112, 97, 100, 115]⟩, .string ⟨#[109, 101, 116, 114, 105, 99]⟩, .string ⟨#[114, 111, 117, 116, 101]⟩, .string ⟨#[99, 111, 110, 102, 105, 103]⟩, .string ⟨#[116, 97, 114, 103, 101, 116]⟩, .string ⟨#[116, 114, 97, 110, 115, 105, 116]⟩, .string ⟨#[115, 111, 108, 105, 99, 105, 116, 101, 100]⟩, .string ⟨#[112, 114, 101, 102, 105, 120]⟩, .string ⟨#[100, 101, 115, 99, 114, 105, 112, 116, 111, 114]⟩])
  cases hk : kndB n
  · have HV : Hid (wordOf n = ByteArray.empty) := by simp [Hid, wordOf, hk]
    have hn : n < 0 ∨ 9 < n := by simp [kndB] at hk; omega
    rcases hn with hn | hn
    · have e0 : decide (n < 0) = true := decide_eq_true hn
      go_enter Tryd.func13, Tryd.ntmps13
      go_upto_region 2 with fail
      generalize w.alloc (.cells #[Value.string ⟨#[112, 97, 100]⟩, .string ⟨#[112, 97, 100, 115]⟩, .string ⟨#[109, 101, 116, 114, 105, 99]⟩, .string ⟨#[114, 111, 117, 116, 101]⟩, .string ⟨#[99, 111, 110, 102, 105, 103]⟩, .string ⟨#[116, 97, 114, 103, 101, 116]⟩, .string ⟨#[116, 114, 97, 110, 115, 105, 116]⟩, .string ⟨#[115, 111, 108, 105, 99, 105, 116, 101, 100]⟩, .string ⟨#[112, 114, 101, 102, 105, 120]⟩, .string ⟨#[100, 101, 115, 99, 114, 105, 112, 116, 111, 114]⟩] 64) = w1 at *
      go_wp2_with fail
      go_ret
      exact ⟨ret_str HV.out.symm, B0.out⟩
    · have e0 : decide (n < 0) = false := decide_eq_false (by omega)
      have e1 : decide (9 < n) = true := decide_eq_true hn
      go_enter Tryd.func13, Tryd.ntmps13
      go_upto_region 2 with fail
      generalize w.alloc (.cells #[Value.string ⟨#[112, 97, 100]⟩, .string ⟨#[112, 97, 100, 115]⟩, .string ⟨#[109, 101, 116, 114, 105, 99]⟩, .string ⟨#[114, 111, 117, 116, 101]⟩, .string ⟨#[99, 111, 110, 102, 105, 103]⟩, .string ⟨#[116, 97, 114, 103, 101, 116]⟩, .string ⟨#[116, 114, 97, 110, 115, 105, 116]⟩, .string ⟨#[115, 111, 108, 105, 99, 105, 116, 101, 100]⟩, .string ⟨#[112, 114, 101, 102, 105, 120]⟩, .string ⟨#[100, 101, 115, 99, 114, 105, 112, 116, 111, 114]⟩] 64) = w1 at *
      go_wp2_with fail
      go_ret
      exact ⟨ret_str HV.out.symm, B0.out⟩
  · obtain ⟨k, rfl, hk10⟩ := knd_nat hk
    have HV : Hid (wordOf k = wrd k) := by simp [Hid, wordOf, hk]
    have e0 : decide ((k : Int) < 0) = false := decide_eq_false (by omega)
    have e1 : decide ((9 : Int) < (k : Int)) = false := decide_eq_false (by omega)
    have e2 : decide (9 < k) = false := decide_eq_false (by omega)
    have hk10' : (k : Int) < 10 := by omega
    clear hk
    go_enter Tryd.func13, Tryd.ntmps13
    go_upto_region 2 with fail
    generalize w.alloc (.cells #[Value.string ⟨#[112, 97, 100]⟩, .string ⟨#[112, 97, 100, 115]⟩, .string ⟨#[109, 101, 116, 114, 105, 99]⟩, .string ⟨#[114, 111, 117, 116, 101]⟩, .string ⟨#[99, 111, 110, 102, 105, 103]⟩, .string ⟨#[116, 97, 114, 103, 101, 116]⟩, .string ⟨#[116, 114, 97, 110, 115, 105, 116]⟩, .string ⟨#[115, 111, 108, 105, 99, 105, 116, 101, 100]⟩, .string ⟨#[112, 114, 101, 102, 105, 120]⟩, .string ⟨#[100, 101, 115, 99, 114, 105, 112, 116, 111, 114]⟩] 64) = w1 at *
    have ck := (R0.out.cell k).trans (wrd_at k hk10)
    go_wp2_with fail
    go_ret
    exact ⟨ret_str HV.out.symm, B0.out⟩
/-- A letter's bytes, if it is a number. -/
def szc (c : Int) : Int := if c = 49 ∨ c = 112 ∨ c = 122 ∨ c = 120 then 1 else if c = 50 then 2 else if c = 52 ∨ c = 113 then 4 else 0
set_option maxHeartbeats 800000 in
theorem rsize_any (c : Int) (w : World) : Calls Tryd.prog 28 #[.int .u8 c] w fun e w' => e = .returned (.int .i64 (szc c)) ∧ w' = w := by
  have key : ∀ b1 b2 b3 b4 b5 b6 b7 : Bool, (c == 49) = b1 → (c == 112) = b2 → (c == 122) = b3 → (c == 120) = b4 → (c == 50) = b5 → (c == 52) = b6 → (c == 113) = b7 → szc c = (if (b1 || (b2 || (b3 || b4))) = true then 1 else if b5 = true then 2 else if (b6 || b7) = true then 4 else 0) → Calls Tryd.prog 28 #[.int .u8 c] w fun e w' => e = .returned (.int .i64 (szc c)) ∧ w' = w := by
    intro b1 b2 b3 b4 b5 b6 b7 h1 h2 h3 h4 h5 h6 h7 hs
    have HS := hid hs
    generalize szc c = s at *
    clear hs
    cases b1
    · cases b2
      · cases b3
        · cases b4
          · cases b5
            · cases b6
              · cases b7
                all_goals (go_enter Tryd.func28, Tryd.ntmps28; go_wp2; go_ret; exact ⟨ret_int HS.out.symm, rfl⟩)
              · go_enter Tryd.func28, Tryd.ntmps28; go_wp2; go_ret; exact ⟨ret_int HS.out.symm, rfl⟩
            · go_enter Tryd.func28, Tryd.ntmps28; go_wp2; go_ret; exact ⟨ret_int HS.out.symm, rfl⟩
          · go_enter Tryd.func28, Tryd.ntmps28; go_wp2; go_ret; exact ⟨ret_int HS.out.symm, rfl⟩
        · go_enter Tryd.func28, Tryd.ntmps28; go_wp2; go_ret; exact ⟨ret_int HS.out.symm, rfl⟩
      · go_enter Tryd.func28, Tryd.ntmps28; go_wp2; go_ret; exact ⟨ret_int HS.out.symm, rfl⟩
    · go_enter Tryd.func28, Tryd.ntmps28; go_wp2; go_ret; exact ⟨ret_int HS.out.symm, rfl⟩
  refine key _ _ _ _ _ _ _ rfl rfl rfl rfl rfl rfl rfl ?_
  unfold szc
  simp only [Bool.or_eq_true, beq_iff_eq]
end Go.Proofs.YtbgogeojdibmkaaDoor
