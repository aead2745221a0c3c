/- Arrays of bytes in memory: what a load and a store of a whole array do, and how two are compared. -/
import Derived.Test.YtoijfnkbjdekoaaDoorRows
import Derived.WalkKit
import Derived.ProofKit
import Derived.OpenShut
import Derived.Handy
import Derived.Deep.QuietTactic
import Derived.Deep.WholeRow
import Derived.ChangeKeysEq
import Derived.BigQuiet
import Derived.BigRegion
import Derived.WalkSpells
namespace Go.Proofs.YtoijfnkbjdekoaaDoor
open Go.ChangeShapes Go.WideShapes Go.ChangeAt Go.RowKit
set_option linter.unusedVariables false
set_option linter.unusedSimpArgs false

/-- Bytes as cells. -/
def u8s (l : List Int) : Array Value := (l.map (Value.int .u8)).toArray
theorem u8s_size (l : List Int) : (u8s l).size = l.length := by simp [u8s]
theorem u8s_at (l : List Int) (j : Nat) (h : j < l.length) : (u8s l)[j]? = some (.int .u8 (l.getD j 0)) := by simp [u8s, h]
theorem u8s_set (l : List Int) (j : Nat) (x : Int) : (u8s l).setIfInBounds j (.int .u8 x) = u8s (l.set j x) := by simp [u8s, List.map_set]
theorem u8s_one (l : List Int) : (u8s l).all (·.oneCell') = true := by simp [u8s, Value.oneCell']
theorem u8s_inj {l m : List Int} (h : u8s l = u8s m) : l = m := by
  have h' : l.map (Value.int .u8) = m.map (Value.int .u8) := by simpa [u8s] using congrArg Array.toList h
  exact (List.map_inj_right (f := Value.int .u8) (by intro a b h; injection h)).1 h'

/-- Numbers as cells. -/
def i64s (l : List Int) : Array Value := (l.map (Value.int .i64)).toArray
theorem i64s_size (l : List Int) : (i64s l).size = l.length := by simp [i64s]
theorem i64s_at (l : List Int) (j : Nat) (h : j < l.length) : (i64s l)[j]? = some (.int .i64 (l.getD j 0)) := by simp [i64s, h]
theorem i64s_set (l : List Int) (j : Nat) (x : Int) : (i64s l).setIfInBounds j (.int .i64 x) = i64s (l.set j x) := by simp [i64s, List.map_set]
theorem i64s_one (l : List Int) : (i64s l).all (·.oneCell') = true := by simp [i64s, Value.oneCell']

/-- A prefix as cells: an address and how many bits count. -/
def pfx (l : List Int) (bits : Int) : Array Value := (u8s l).push (.int .i64 bits)
theorem pfx_size (l : List Int) (bits : Int) : (pfx l bits).size = l.length + 1 := by simp [pfx, u8s]
theorem pfx_one (l : List Int) (bits : Int) : (pfx l bits).all (·.oneCell') = true := by
  rw [pfx, Array.all_push, u8s_one]; rfl

/-- A block of cells that is not frozen. -/
def Row (w : World) (b : Nat) (t : TypeId) (c : Array Value) : Prop := w.heap[b]? = some (.cells c t (0, 0))
section
variable {w w' : World} {b : Nat} {t : TypeId} {c : Array Value}
theorem Row.cell (h : Row w b t c) (j : Nat) : w.cell? ⟨b, j, none⟩ = c[j]? := cell_of_row w b j c t (0, 0) h
theorem Row.frozen (h : Row w b t c) (j : Nat) : w.frozen? ⟨b, j, none⟩ = false := frozen_of_row w b j c t h
theorem Row.lt (h : Row w b t c) : b < w.heap.size := (Array.getElem?_eq_some_iff.1 h).1
theorem Row.new (w : World) (t : TypeId) (c : Array Value) : Row (w.alloc (.cells c t)) w.heap.size t c := Go.heap_alloc_new w _
theorem Row.alloc (h : Row w b t c) (o : Obj) : Row (w.alloc o) b t c := (Below.heap_alloc w o b h.lt).trans h
theorem Row.drewN (h : Row w b t c) (q : Nat) : Row (w.drewN q) b t c := h
theorem Row.drew (h : Row w b t c) : Row w.drew b t c := h
theorem Row.below {B : Nat} (h : Row w b t c) (hb : Below B w w') (hB : b < B) : Row w' b t c := (hb.block b hB).trans h
theorem Row.set (h : Row w b t c) (j : Nat) (v : Value) : Row (w.setCell ⟨b, j, none⟩ v) b t (c.setIfInBounds j v) := Go.heap_setCell_same w b j c t v h
theorem Row.other (h : Row w b t c) (a : Addr) (v : Value) (hb : b ≠ a.block) : Row (w.setCell a v) b t c := (Go.heap_setCell_other w a b v hb).trans h
theorem Row.setRow (h : Row w b t c) (c' : Array Value) : Row (w.setRow b c') b t c' := setRow_heap w b c c' t (0, 0) h
theorem Row.rowOther (h : Row w b t c) (g : Nat) (c' : Array Value) (hb : b ≠ g) : Row (w.setRow g c') b t c := (setRow_other w g b c' hb).trans h
theorem Row.as (h : Row w b t c) {c' : Array Value} (e : c = c') : Row w b t c' := e ▸ h
end
theorem below_setRow {B : Nat} {a w : World} (h : Below B a w) {g : Nat} (hg : B ≤ g) (c : Array Value) : Below B a (w.setRow g c) :=
  ⟨h.os, h.tape, h.output, by rw [setRow_size]; exact h.size, fun k hk => (setRow_other w g k c (by omega)).trans (h.block k hk)⟩

/-- Cells from a place on. -/
def Part (w : World) (b off : Nat) (c : Array Value) : Prop := ∀ j v, c[j]? = some v → w.cell? ⟨b, off + j, none⟩ = some v
theorem Row.part {w : World} {b : Nat} {t : TypeId} {c : Array Value} (h : Row w b t c) : Part w b 0 c := fun j v hv => by rw [Nat.zero_add, h.cell]; exact hv
theorem Row.pre {w : World} {b : Nat} {t : TypeId} {l : List Int} {n : Int} (h : Row w b t (pfx l n)) : Part w b 0 (u8s l) := fun j v hv => by
  rw [Nat.zero_add, h.cell, pfx, Array.getElem?_push]
  have : j < (u8s l).size := (Array.getElem?_eq_some_iff.1 hv).1
  rw [if_neg (by omega)]; exact hv
theorem Row.bits {w : World} {b : Nat} {t : TypeId} {l : List Int} {n : Int} (h : Row w b t (pfx l n)) (hl : l.length = 16) : w.cell? ⟨b, 16, none⟩ = some (.int .i64 n) := by
  rw [h.cell, pfx, Array.getElem?_push, u8s_size, if_pos hl.symm]
theorem Part.below {w w' : World} {b off B : Nat} {c : Array Value} (h : Part w b off c) (hb : Below B w w') (hB : b < B) : Part w' b off c := fun j v hv => (hb.cell (p := ⟨b, off + j, none⟩) hB).trans (h j v hv)
theorem Part.drewN {w : World} {b off : Nat} {c : Array Value} (h : Part w b off c) (q : Nat) : Part (w.drewN q) b off c := h

theorem run_loadVar_part {P : Program} (w : World) (g off : Nat) (ty : TypeId) (cs : Array Value) (d : TypeDesc) (hg : Part w g off cs)
    (hu : P.underlying ty = some d) (hd : (match d with | .struct _ | .array _ _ => true | _ => false) = true) (hi : (P.info? ty).map (·.size) = some cs.size) :
    (loadVar ty ⟨g, off, none⟩).run P w = .ok (.agg cs) w := by
  have hl : (loadCells ⟨g, off, none⟩ cs.toList.length).run P w = .ok cs.toList.toArray w :=
    run_loadCells_list (P := P) w ⟨g, off, none⟩ cs.toList (fun j v hv => by
      have hadd : (⟨g, off, none⟩ : Addr).add j = ⟨g, off + j, none⟩ := by unfold Addr.add; split <;> simp_all
      rw [hadd]
      exact hg j v (by simpa using hv))
  cases hq : P.info? ty with
  | none => simp [hq] at hi
  | some i =>
    have hs : i.size = cs.size := by simpa [hq] using hi
    have hagg : (isAgg ty).run P w = .ok true w := by
      unfold isAgg
      rw [Sem.run_bind, run_underlying hu w]
      cases d <;> simp_all
    simp only [Array.length_toList, Array.toArray_toList] at hl
    simp [loadVar, Sem.run_bind, hagg, sizeOf, typeInfo, hq, hs, hl]

/-- A load of a whole array or struct, guarded or not. -/
theorem wp_ld {P : Program} {ops : Array Oper} {rest : List Oper} {o : Oper} {a : Act} {w : World} {Q : Exit → Act → World → Prop} (ty : TypeId) (x : Operand) (ho : o.op = .load ty x)
    (hw : Region.wanted o (yielded ops a.tmps) = true) (g off : Nat) (hx : a.eval x = .pointer (some ⟨g, off, none⟩)) (cs : Array Value) (d : TypeDesc)
    (hu : P.underlying ty = some d) (hd : (match d with | .struct _ | .array _ _ => true | _ => false) = true) (hi : (P.info? ty).map (·.size) = some cs.size) (hg : Part w g off cs)
    (h : wpList P ops Q rest (a.put o.dst (.agg cs)) w) : wpList P ops Q (o :: rest) a w :=
  wpList_step fun K hK => by
    rw [if_pos hw]
    unfold Oper.wp execOp
    simp only [ho, hx, Instr.loadAt, Instr.sureAddr, Sem.run_bind, Sem.run_pure, Result.andThen_ok, run_loadVar_part w g off ty cs d hg hu hd hi]
    exact hK _ _ h

/-- A store of a whole array or struct. -/
theorem wp_st {P : Program} {ops : Array Oper} {rest : List Oper} {o : Oper} {a : Act} {w : World} {Q : Exit → Act → World → Prop} (ty : TypeId) (x y : Operand) (ho : o.op = .store ty x y)
    (hgd : o.guard = none) (g : Nat) (cells : Array Value) (hx : a.eval x = .pointer (some ⟨g, 0, none⟩)) (hy : a.eval y = .agg cells)
    (hi : (P.info? ty).map (·.size) = some cells.size) (h1 : cells.all (·.oneCell') = true) (t : TypeId) (old : Array Value) (hold : old.size = cells.size) (hg : Row w g t old)
    (h : wpList P ops Q rest (a.put o.dst undef) (w.setRow g cells)) : wpList P ops Q (o :: rest) a w :=
  wpList_store_row hgd ty x y ho g cells hx hy t old hg hi hold h1 h

theorem size25 : (Tryd.prog.info? 25).map (·.size) = some 16 := by kernel_rfl
theorem size22 : (Tryd.prog.info? 22).map (·.size) = some 16 := by kernel_rfl
theorem size23 : (Tryd.prog.info? 23).map (·.size) = some 8 := by kernel_rfl
theorem size42 : (Tryd.prog.info? 42).map (·.size) = some 17 := by kernel_rfl
theorem size39 : (Tryd.prog.info? 39).map (·.size) = some 17 := by kernel_rfl

section
variable {ops : Array Oper} {rest : List Oper} {o : Oper} {a : Act} {w : World} {Q : Exit → Act → World → Prop}
/-- A load of an address. -/
theorem ld25 (x : Operand) (ho : o.op = .load 25 x) (hw : Region.wanted o (yielded ops a.tmps) = true) (g off : Nat) (hx : a.eval x = .pointer (some ⟨g, off, none⟩)) (l : List Int) (hl : l.length = 16) (hg : Part w g off (u8s l))
    (h : wpList Tryd.prog ops Q rest (a.put o.dst (.agg (u8s l))) w) : wpList Tryd.prog ops Q (o :: rest) a w :=
  wp_ld 25 x ho hw g off hx (u8s l) _ Tryd.underlying25 rfl (by rw [u8s_size, hl]; exact size25) hg h
theorem ld22 (x : Operand) (ho : o.op = .load 22 x) (hw : Region.wanted o (yielded ops a.tmps) = true) (g off : Nat) (hx : a.eval x = .pointer (some ⟨g, off, none⟩)) (l : List Int) (hl : l.length = 16) (hg : Part w g off (u8s l))
    (h : wpList Tryd.prog ops Q rest (a.put o.dst (.agg (u8s l))) w) : wpList Tryd.prog ops Q (o :: rest) a w :=
  wp_ld 22 x ho hw g off hx (u8s l) _ Tryd.underlying22 rfl (by rw [u8s_size, hl]; exact size22) hg h
theorem ld23 (x : Operand) (ho : o.op = .load 23 x) (hw : Region.wanted o (yielded ops a.tmps) = true) (g off : Nat) (hx : a.eval x = .pointer (some ⟨g, off, none⟩)) (l : List Int) (hl : l.length = 8) (hg : Part w g off (i64s l))
    (h : wpList Tryd.prog ops Q rest (a.put o.dst (.agg (i64s l))) w) : wpList Tryd.prog ops Q (o :: rest) a w :=
  wp_ld 23 x ho hw g off hx (i64s l) _ Tryd.underlying23 rfl (by rw [i64s_size, hl]; exact size23) hg h
theorem ld42 (x : Operand) (ho : o.op = .load 42 x) (hw : Region.wanted o (yielded ops a.tmps) = true) (g off : Nat) (hx : a.eval x = .pointer (some ⟨g, off, none⟩)) (l : List Int) (n : Int) (hl : l.length = 16) (hg : Part w g off (pfx l n))
    (h : wpList Tryd.prog ops Q rest (a.put o.dst (.agg (pfx l n))) w) : wpList Tryd.prog ops Q (o :: rest) a w :=
  wp_ld 42 x ho hw g off hx (pfx l n) _ Tryd.underlying42 rfl (by rw [pfx_size, hl]; exact size42) hg h
theorem ld39 (x : Operand) (ho : o.op = .load 39 x) (hw : Region.wanted o (yielded ops a.tmps) = true) (g off : Nat) (hx : a.eval x = .pointer (some ⟨g, off, none⟩)) (l : List Int) (n : Int) (hl : l.length = 16) (hg : Part w g off (pfx l n))
    (h : wpList Tryd.prog ops Q rest (a.put o.dst (.agg (pfx l n))) w) : wpList Tryd.prog ops Q (o :: rest) a w :=
  wp_ld 39 x ho hw g off hx (pfx l n) _ Tryd.underlying39 rfl (by rw [pfx_size, hl]; exact size39) hg h
theorem st25 (x y : Operand) (ho : o.op = .store 25 x y) (hgd : o.guard = none) (g : Nat) (l : List Int) (hl : l.length = 16) (hx : a.eval x = .pointer (some ⟨g, 0, none⟩)) (hy : a.eval y = .agg (u8s l)) (t : TypeId) (old : Array Value) (hold : old.size = 16) (hg : Row w g t old)
    (h : wpList Tryd.prog ops Q rest (a.put o.dst undef) (w.setRow g (u8s l))) : wpList Tryd.prog ops Q (o :: rest) a w :=
  wp_st 25 x y ho hgd g (u8s l) hx hy (by rw [u8s_size, hl]; exact size25) (u8s_one l) t old (by rw [u8s_size, hl, hold]) hg h
theorem st23 (x y : Operand) (ho : o.op = .store 23 x y) (hgd : o.guard = none) (g : Nat) (l : List Int) (hl : l.length = 8) (hx : a.eval x = .pointer (some ⟨g, 0, none⟩)) (hy : a.eval y = .agg (i64s l)) (t : TypeId) (old : Array Value) (hold : old.size = 8) (hg : Row w g t old)
    (h : wpList Tryd.prog ops Q rest (a.put o.dst undef) (w.setRow g (i64s l))) : wpList Tryd.prog ops Q (o :: rest) a w :=
  wp_st 23 x y ho hgd g (i64s l) hx hy (by rw [i64s_size, hl]; exact size23) (i64s_one l) t old (by rw [i64s_size, hl, hold]) hg h
theorem st42 (x y : Operand) (ho : o.op = .store 42 x y) (hgd : o.guard = none) (g : Nat) (l : List Int) (n : Int) (hl : l.length = 16) (hx : a.eval x = .pointer (some ⟨g, 0, none⟩)) (hy : a.eval y = .agg (pfx l n)) (t : TypeId) (old : Array Value) (hold : old.size = 17) (hg : Row w g t old)
    (h : wpList Tryd.prog ops Q rest (a.put o.dst undef) (w.setRow g (pfx l n))) : wpList Tryd.prog ops Q (o :: rest) a w :=
  wp_st 42 x y ho hgd g (pfx l n) hx hy (by rw [pfx_size, hl]; exact size42) (pfx_one l n) t old (by rw [pfx_size, hl, hold]) hg h
end

theorem res25 {fn : Func} {p : Tmp} (h : fn.results = #[.cell p 25]) (tmps : Array Value) (w : World) (g : Nat) (t : TypeId) (l : List Int) (hl : l.length = 16)
    (hp : tmps.getD p undef = .pointer (some ⟨g, 0, none⟩)) (hg : Row w g t (u8s l)) : (results fn tmps).run Tryd.prog w = .ok (.agg (u8s l)) w :=
  results_cell_row h tmps w g t (u8s l) (0, 0) _ hp hg Tryd.underlying25 rfl (by rw [u8s_size, hl]; exact size25)
theorem res22 {fn : Func} {p : Tmp} (h : fn.results = #[.cell p 22]) (tmps : Array Value) (w : World) (g : Nat) (t : TypeId) (l : List Int) (hl : l.length = 16)
    (hp : tmps.getD p undef = .pointer (some ⟨g, 0, none⟩)) (hg : Row w g t (u8s l)) : (results fn tmps).run Tryd.prog w = .ok (.agg (u8s l)) w :=
  results_cell_row h tmps w g t (u8s l) (0, 0) _ hp hg Tryd.underlying22 rfl (by rw [u8s_size, hl]; exact size22)
theorem res23 {fn : Func} {p : Tmp} (h : fn.results = #[.cell p 23]) (tmps : Array Value) (w : World) (g : Nat) (t : TypeId) (l : List Int) (hl : l.length = 8)
    (hp : tmps.getD p undef = .pointer (some ⟨g, 0, none⟩)) (hg : Row w g t (i64s l)) : (results fn tmps).run Tryd.prog w = .ok (.agg (i64s l)) w :=
  results_cell_row h tmps w g t (i64s l) (0, 0) _ hp hg Tryd.underlying23 rfl (by rw [i64s_size, hl]; exact size23)

/-! Two results, the first in memory. -/
theorem res25e {fn : Func} {p u : Tmp} (h : fn.results = #[.cell p 25, .tmp u]) (tmps : Array Value) (w : World) (g : Nat) (t : TypeId) (l : List Int) (hl : l.length = 16) (v : Value)
    (hp : tmps.getD p undef = .pointer (some ⟨g, 0, none⟩)) (hu : tmps.getD u undef = v) (hg : Row w g t (u8s l)) : (results fn tmps).run Tryd.prog w = .ok (.tuple #[.agg (u8s l), v]) w := by
  rw [results_cell_tmp h]
  have hp' : tmps[p]?.getD undef = .pointer (some ⟨g, 0, none⟩) := by simpa using hp
  have hu' : tmps[u]?.getD undef = v := by simpa using hu
  simp [hp', hu', asAddr, run_loadVar_row w g t 25 (u8s l) (0, 0) _ hg Tryd.underlying25 rfl (by rw [u8s_size, hl]; exact size25)]
theorem res42e {fn : Func} {p u : Tmp} (h : fn.results = #[.cell p 42, .tmp u]) (tmps : Array Value) (w : World) (g : Nat) (t : TypeId) (l : List Int) (n : Int) (hl : l.length = 16) (v : Value)
    (hp : tmps.getD p undef = .pointer (some ⟨g, 0, none⟩)) (hu : tmps.getD u undef = v) (hg : Row w g t (pfx l n)) : (results fn tmps).run Tryd.prog w = .ok (.tuple #[.agg (pfx l n), v]) w := by
  rw [results_cell_tmp h]
  have hp' : tmps[p]?.getD undef = .pointer (some ⟨g, 0, none⟩) := by simpa using hp
  have hu' : tmps[u]?.getD undef = v := by simpa using hu
  simp [hp', hu', asAddr, run_loadVar_row w g t 42 (pfx l n) (0, 0) _ hg Tryd.underlying42 rfl (by rw [pfx_size, hl]; exact size42)]

/-! How two arrays are compared. -/
theorem info5 : (Tryd.prog.info? 5).isSome = true := by kernel_rfl
theorem info3' : (Tryd.prog.info? 3).isSome = true := by kernel_rfl
theorem eqItems_u8 (w : World) (l m : List Int) (h : l.length = m.length) : ∀ (is : List Nat), (∀ i ∈ is, i < l.length) →
    (Op.eqItems 9999 5 (Tryd.prog.cellsOf 5) (u8s l) (u8s m) is).run Tryd.prog w = .ok (is.all fun i => l.getD i 0 == m.getD i 0) w
  | [], _ => by simp [Op.eqItems]
  | i :: is, hi => by
    have h1 : Tryd.prog.cellsOf 5 = 1 := by kernel_rfl
    have hil : i < l.length := hi i (by simp)
    have ih := eqItems_u8 w l m h is (fun j hj => hi j (by simp [hj]))
    have hp : ∀ l' : List Int, i < l'.length → (part 5 (u8s l') (i * 1)).run Tryd.prog w = .ok (.int .u8 (l'.getD i 0)) w := by
      intro l' hl'
      have hagg : (isAgg 5).run Tryd.prog w = .ok false w := by unfold isAgg; rw [Sem.run_bind, run_underlying Tryd.underlying5 w]; rfl
      simp only [part, Sem.run_bind, hagg, Result.andThen_ok, Bool.false_eq_true, if_false, Nat.mul_one, u8s_at l' i hl', Sem.run_pure]
    simp only [Op.eqItems, Sem.run_bind, h1, hp l hil, hp m (by omega), Result.andThen_ok, run_equalIn_int (P := Tryd.prog) w 9998 5 .u8 .u8 (l.getD i 0) (m.getD i 0) Tryd.underlying5]
    rw [h1] at ih
    cases hb : (l.getD i 0 == m.getD i 0)
    · simp only [List.all_cons, hb, Bool.false_and, Bool.not_false, if_true, Sem.run_pure]
    · simp only [List.all_cons, hb, Bool.true_and, Bool.not_true, Bool.false_eq_true, if_false]; exact ih

theorem all_eq (l m : List Int) (n : Nat) (hl : l.length = n) (hm : m.length = n) : ((List.range n).all fun i => l.getD i 0 == m.getD i 0) = (l == m) := by
  rw [Bool.eq_iff_iff]
  simp only [List.all_eq_true, List.mem_range, beq_iff_eq]
  constructor
  · intro h
    apply List.ext_getElem (by omega)
    intro i h1 h2
    have := h i (by omega)
    simpa [h1, h2] using this
  · rintro rfl i _; rfl

theorem eq25 (l m : List Int) (hl : l.length = 16) (hm : m.length = 16) : ∀ w : World, (Op.equalIn 10000 25 (.agg (u8s l)) (.agg (u8s m))).run Tryd.prog w = .ok (l == m) w := fun w => by
  obtain ⟨i, hi⟩ := Option.isSome_iff_exists.1 info5
  rw [run_equalIn_array w 9999 (u8s l) (u8s m) Tryd.underlying25 hi, eqItems_u8 w l m (by omega) _ (by intro i hi; simp at hi; omega), all_eq l m 16 hl hm]
theorem eq22 (l m : List Int) (hl : l.length = 16) (hm : m.length = 16) : ∀ w : World, (Op.equalIn 10000 22 (.agg (u8s l)) (.agg (u8s m))).run Tryd.prog w = .ok (l == m) w := fun w => by
  obtain ⟨i, hi⟩ := Option.isSome_iff_exists.1 info5
  rw [run_equalIn_array w 9999 (u8s l) (u8s m) Tryd.underlying22 hi, eqItems_u8 w l m (by omega) _ (by intro i hi; simp at hi; omega), all_eq l m 16 hl hm]
end Go.Proofs.YtoijfnkbjdekoaaDoor
