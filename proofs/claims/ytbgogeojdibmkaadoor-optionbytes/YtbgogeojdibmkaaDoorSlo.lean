/- Slices of options of the call's own: how they are made and put behind, in regions that draw their order too. -/
import Derived.Test.YtbgogeojdibmkaaDoorEnc
import Derived.Great.BuildSlice
namespace Go.Proofs.YtbgogeojdibmkaaDoor
open Go.ChangeShapes Go.WideShapes Go.ChangeAt Go.RowKit Go.Deep
set_option linter.unusedVariables false
set_option linter.unusedSimpArgs false

theorem fillO' (k : Int) (na : Option Addr) (nl nc : Nat) (l : List Int) (a0 a1 a2 a3 a4 a5 a6 a7 a8 a9 a10 a11 a12 a13 a14 a15 : Int) (ta : Option Addr) (tl tc : Nat) (m : List Int) :
    Instr.fill (fun i => some (i * 19, 19)) ((Array.range (1 * 19)).map ((Value.agg Ov.zero.cs).cells[· % (Value.agg Ov.zero.cs).cells.size]!)) [(0, .agg (Ov.cs ⟨k, ⟨na, nl, nc, l⟩, [a0, a1, a2, a3, a4, a5, a6, a7, a8, a9, a10, a11, a12, a13, a14, a15], ⟨ta, tl, tc, m⟩⟩))] = some (Ov.cs ⟨k, ⟨na, nl, nc, l⟩, [a0, a1, a2, a3, a4, a5, a6, a7, a8, a9, a10, a11, a12, a13, a14, a15], ⟨ta, tl, tc, m⟩⟩) := by kernel_rfl
theorem fillO (o : Ov) (h : o.ad.length = 16) : Instr.fill (fun i => some (i * 19, 19)) ((Array.range (1 * 19)).map ((Value.agg Ov.zero.cs).cells[· % (Value.agg Ov.zero.cs).cells.size]!)) [(0, .agg o.cs)] = some o.cs := by
  obtain ⟨k, ⟨na, nl, nc, l⟩, ad, ⟨ta, tl, tc, m⟩⟩ := o
  simp only at h
  match ad, h with
  | [a0, a1, a2, a3, a4, a5, a6, a7, a8, a9, a10, a11, a12, a13, a14, a15], _ => exact fillO' k na nl nc l a0 a1 a2 a3 a4 a5 a6 a7 a8 a9 a10 a11 a12 a13 a14 a15 ta tl tc m
/-- A type of slices of options. -/
structure ST (ts t : TypeId) : Prop where
  und : Tryd.prog.underlying ts = some (.slice t)
  ot : OT t
theorem s23 : ST 23 43 := ⟨Tryd.underlying23, o43⟩
theorem s22 : ST 22 38 := ⟨Tryd.underlying22, o38⟩
theorem cells_zero : (Value.agg Ov.zero.cs).cells.size = 19 := by rw [Value.cells]; rfl
/-- A slice of one option. -/
theorem bsO {ops : Array Oper} {rest : List Oper} {o : Oper} {a : Act} {w : World} {Q : Exit → Act → World → Prop} {ts t : TypeId} (hT : ST ts t) (hg : o.guard = none) (y : Operand) (ho : o.op = .buildSlice ts 1 #[(0, y)])
    (v : Ov) (hl : Adr v.ad) (hy : a.eval y = .agg v.cs) (h : wpList Tryd.prog ops Q rest (a.put o.dst (.slice (some ⟨w.heap.size, 0, none⟩) 1 1)) (w.alloc (.cells v.cs t))) : wpList Tryd.prog ops Q (o :: rest) a w := by
  obtain ⟨ie, hi, hz, hs, hb⟩ := info_parts hT.ot.zero
  refine wpList_buildSlice hg ts t 1 _ ho v.cs ie _ hT.und hi hz (by rw [hs]; decide) (by rw [hs]; decide) ?_ h
  rw [hs]
  simp only [List.map_toArray, List.map_cons, List.map_nil, hy]
  exact fillO v hl.1
theorem step_bsO {ops : Array Oper} {o : Oper} {a : Act} {w : World} {K : Act → World → Prop} {Q : Exit → Act → World → Prop} {E : Prop} {ts t : TypeId} (hT : ST ts t) (hg : o.guard = none) (y : Operand) (ho : o.op = .buildSlice ts 1 #[(0, y)])
    (v : Ov) (hl : Adr v.ad) (hy : a.eval y = .agg v.cs) (h : K (a.put o.dst (.slice (some ⟨w.heap.size, 0, none⟩) 1 1)) (w.alloc (.cells v.cs t))) :
    if Region.wanted o (yielded ops a.tmps) = true then Oper.wp Tryd.prog o a w K Q else E := by
  rw [if_pos (by simp [Region.wanted, hg])]
  obtain ⟨ie, hi, hz, hs, hb⟩ := info_parts hT.ot.zero
  refine wp_buildSlice ts t 1 _ ho v.cs ie _ hT.und hi hz (by rw [hs]; decide) (by rw [hs]; decide) ?_ h
  rw [hs]
  simp only [List.map_toArray, List.map_cons, List.map_nil, hy]
  exact fillO v hl.1
theorem news_row {w : World} {g : Nat} {t : TypeId} {cs : Array Value} (h : Row w g t cs) : ∀ j u, cs.toList[j]? = some u → w.cell? ((⟨g, 0, none⟩ : Addr).add j) = some u := by
  intro j u hj
  rw [Addr.add_lit, Nat.zero_add, h.cell]
  simpa using hj
theorem one_list (v : Ov) : ∀ u ∈ v.cs.toList, u.oneCell' = true := by
  intro u hu
  have := v.one
  rw [Array.all_eq_true_iff_forall_mem] at this
  exact this u (by simpa using hu)
/-- An option more. -/
theorem step_pushO {ops : Array Oper} {o : Oper} {a : Act} {w : World} {K : Act → World → Prop} {Q : Exit → Act → World → Prop} {E : Prop} {ts t : TypeId} (hT : ST ts t) (hg : o.guard = none) (s y : Operand)
    (ho : o.op = .call { callee := .builtin .append, args := #[s, y], argTypes := #[ts, ts] }) (base m g : Nat) (v : Value) (xs : List Value) (hs : a.eval s = v) (hown : w.ownsRow base t 19 v m xs)
    (x : Ov) (hl : Adr x.ad) (hx : a.eval y = .slice (some ⟨g, 0, none⟩) 1 1) (hr : Row w g t x.cs) (hb : base ≤ w.heap.size) (hm : m ≤ 200000)
    (h : ∀ v' w', w'.ownsRow base t 19 v' (m + 1) (xs ++ x.cs.toList) → w.grownBy w' v.ownBlock → K (a.put o.dst v') w') :
    if Region.wanted o (yielded ops a.tmps) = true then Oper.wp Tryd.prog o a w K Q else E := by
  rw [if_pos (by simp [Region.wanted, hg])]
  obtain ⟨ie, hi, hz, hz1, hz2⟩ := info_parts hT.ot.zero
  refine wp_append_own w s y ts ho base t ie _ 19 72 hT.und hi hz hz1 hz2 cells_zero (by decide) v m xs hs hown ⟨g, 0, none⟩ 1 1 x.cs.toList hx (by rw [Array.length_toList, Ov.size hl]) (news_row hr) (one_list x) (by unfold maxLen; omega) (by omega) hb ?_
  intro v' w' h2 h3 _
  exact h v' w' h2 h3
/-- Numbers that lie somewhere, behind a row of the call's own, in a region that draws its order. -/
theorem step_appI {ops : Array Oper} {o : Oper} {a : Act} {w : World} {K : Act → World → Prop} {Q : Exit → Act → World → Prop} {E : Prop} {base n m cap : Nat} {v : Value} {xs l : List Int} {ao : Option Addr} (hg : o.guard = none) (s x : Operand)
    (ho : o.op = .call { callee := .builtin .append, args := #[s, x], argTypes := #[35, 35] }) (hs : a.eval s = v) (hx : a.eval x = .slice ao m cap)
    (hown : w.ownsRow base 3 1 v n (i64s xs)) (hl : Lies .i64 w ao m cap l) (hb : base ≤ w.heap.size) (hm : n + m ≤ 200000)
    (h : ∀ v' w', w'.ownsRow base 3 1 v' (n + m) (i64s (xs ++ l)) → w.grownBy w' v.ownBlock → K (a.put o.dst v') w') :
    if Region.wanted o (yielded ops a.tmps) = true then Oper.wp Tryd.prog o a w K Q else E := by
  rw [if_pos (by simp [Region.wanted, hg])]
  obtain ⟨ie, hi, hz, hz1, hz2⟩ := info_parts info3
  cases ao with
  | some ad =>
    refine wp_append_own w s x 35 ho base 3 ie _ 1 8 Tryd.underlying35 hi hz hz1 hz2 rfl (by decide) v n _ hs hown ad m cap (l.map (Value.int .i64)) hx (by rw [List.length_map, hl.1]; omega) (hl.cells ad rfl) (ints_oneCell8 l .i64) (by unfold maxLen; omega) (by omega) hb ?_
    intro v' w' h2 h3 _
    exact h v' w' (by rw [i64s, List.map_append]; exact h2) h3
  | none =>
    obtain ⟨rfl, rfl⟩ := hl.isNil rfl
    have hn : l = [] := List.eq_nil_of_length_eq_zero hl.1
    subst hn
    have hrun := run_append_owned_none (P := Tryd.prog) (w := w) base 35 o.type 3 ie 1 Tryd.underlying35 hi v n _ hown
    unfold Oper.wp
    simp [execOp, ho, resolve, invoke, builtin, hs, hx, hrun, Result.andThen]
    exact h v w (by simpa using hown) (World.grownBy.refl _ _)
theorem yields_ldo {P : Program} {ops : Array Oper} {S : World → Prop} {op : Oper} {a : Act} (hw : Region.wanted op (yielded ops a.tmps) = true) (ty : TypeId) (x : Operand) (ho : op.op = .load ty x)
    (g off : Nat) (hx : a.eval x = .pointer (some ⟨g, off, none⟩)) (cs : Array Value) (d : TypeDesc) (hS : ∀ w, S w → Part w g off cs)
    (hu : P.underlying ty = some d) (hd : (match d with | .struct _ | .array _ _ => true | _ => false) = true) (hi : (P.info? ty).map (·.size) = some cs.size) : YieldsIf P ops S op (.agg cs) a :=
  .inl ⟨hw, fun w hw' => by
    unfold execOp
    simp only [ho, hx, Instr.loadAt, Instr.sureAddr, Sem.run_bind, Sem.run_pure, Result.andThen_ok, run_loadVar_part w g off ty cs d (hS w hw') hu hd hi]⟩
theorem yld36 {ops : Array Oper} {S : World → Prop} {op : Oper} {a : Act} (hw : Region.wanted op (yielded ops a.tmps) = true) (x : Operand) (ho : op.op = .load 36 x)
    (g off : Nat) (hx : a.eval x = .pointer (some ⟨g, off, none⟩)) (l : List Int) (hl : Adr l) (hS : ∀ w, S w → Part w g off (arr l)) : YieldsIf Tryd.prog ops S op (.agg (arr l)) a :=
  yields_ldo hw 36 x ho g off hx (arr l) _ hS Tryd.underlying36 rfl (by rw [arr_size, hl.1]; exact size36)
theorem yld41 {ops : Array Oper} {S : World → Prop} {op : Oper} {a : Act} (hw : Region.wanted op (yielded ops a.tmps) = true) (x : Operand) (ho : op.op = .load 41 x)
    (g off : Nat) (hx : a.eval x = .pointer (some ⟨g, off, none⟩)) (l : List Int) (hl : Adr l) (hS : ∀ w, S w → Part w g off (arr l)) : YieldsIf Tryd.prog ops S op (.agg (arr l)) a :=
  yields_ldo hw 41 x ho g off hx (arr l) _ hS Tryd.underlying41 rfl (by rw [arr_size, hl.1]; exact size41)
theorem yldO {ops : Array Oper} {S : World → Prop} {op : Oper} {a : Act} {t : TypeId} (ht : OT t) (hw : Region.wanted op (yielded ops a.tmps) = true) (x : Operand) (ho : op.op = .load t x)
    (g off : Nat) (hx : a.eval x = .pointer (some ⟨g, off, none⟩)) (v : Ov) (hl : Adr v.ad) (hS : ∀ w, S w → Part w g off v.cs) : YieldsIf Tryd.prog ops S op (.agg v.cs) a := by
  obtain ⟨fs, h1⟩ := ht.desc
  exact yields_ldo hw t x ho g off hx v.cs _ hS h1 rfl (by rw [Ov.size hl]; exact ht.info)
theorem ybdO {ops : Array Oper} {S : World → Prop} {op : Oper} {a : Act} {t : TypeId} (ht : OT t) (hw : Region.wanted op (yielded ops a.tmps) = true) (x0 x1 x2 x3 : Operand) (ho : op.op = .build t #[(0, x0), (1, x1), (2, x2), (3, x3)])
    (h : Ov) (hl : Adr h.ad) (h0 : a.eval x0 = .int .i64 h.k) (h1 : a.eval x1 = h.n.v) (h2 : a.eval x2 = .agg (arr h.ad)) (h3 : a.eval x3 = h.t.v) : YieldsIf Tryd.prog ops S op (.agg h.cs) a :=
  .inl ⟨hw, fun w _ => by
    have hf : Tryd.prog.built t ((#[(0, x0), (1, x1), (2, x2), (3, x3)] : Array (Nat × Operand)).map fun (i, x) => (i, a.eval x)).toList = some h.cs := by
      simp only [List.map_toArray, List.map_cons, List.map_nil, h0, h1, h2, h3]; exact ht.full h hl.1
    unfold execOp
    simp only [ho, Sem.run_bind, run_build w t _ h.cs hf, Result.andThen_ok]
    rfl⟩
end Go.Proofs.YtbgogeojdibmkaaDoor
