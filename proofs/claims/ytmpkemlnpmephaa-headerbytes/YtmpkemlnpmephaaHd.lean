/- Headers in memory: what a load, a store and a literal of a whole header do, and how two are compared. -/
import Derived.Test.YtmpkemlnpmephaaPackAny
import Derived.Deep.WholeRow
import Derived.ChangeKeysEq
import Derived.Laws.StructEq
import Derived.Laws.ResultCell
import Derived.BigRegion
import Derived.Deep.CutRange
import Derived.Deep.RegionHeld3
import Derived.Laws.CopyOwn
namespace Go.Proofs.Ytmpkemlnpmephaa
open Go.ChangeShapes Go.WideShapes Go.ChangeAt Go.RowKit
set_option linter.unusedVariables false
set_option linter.unusedSimpArgs false

/-- Bytes as the cells of an array. -/
def arr (l : List Int) : Array Value := (u8s l).toArray
theorem arr_size (l : List Int) : (arr l).size = l.length := by simp [arr, u8s]
theorem arr_at (l : List Int) (j : Nat) (h : j < l.length) : (arr l)[j]? = some (.int .u8 (l.getD j 0)) := by simp [arr, u8s, h]
theorem arr_one (l : List Int) : (arr l).all (·.oneCell') = true := by simp [arr, u8s, Value.oneCell']
/-- An address. -/
def Adr (l : List Int) : Prop := l.length = 16 ∧ Oct l
def zeros : List Int := List.replicate 16 0
theorem adr_zeros : Adr zeros := ⟨rfl, by intro x hx; simp only [zeros, List.mem_replicate] at hx; omega⟩

/-- A header. -/
structure Hd where
  c : Int
  fl : Int
  ln : Int
  nx : Int
  hp : Int
  f : List Int
  t : List Int
/-- Its cells. -/
def Hd.cs (h : Hd) : Array Value := #[.int .i64 h.c, .int .i64 h.fl, .int .i64 h.ln, .int .i64 h.nx, .int .i64 h.hp] ++ (arr h.f ++ arr h.t)
def Hd.ok (h : Hd) : Prop := Adr h.f ∧ Adr h.t
def Hd.zero : Hd := ⟨0, 0, 0, 0, 0, zeros, zeros⟩
theorem Hd.zero_ok : Hd.zero.ok := ⟨adr_zeros, adr_zeros⟩
def Hd.setLn (h : Hd) (x : Int) : Hd := ⟨h.c, h.fl, x, h.nx, h.hp, h.f, h.t⟩
def Hd.setHp (h : Hd) (x : Int) : Hd := ⟨h.c, h.fl, h.ln, h.nx, x, h.f, h.t⟩
def Hd.setNx (h : Hd) (x : Int) : Hd := ⟨h.c, h.fl, h.ln, x, h.hp, h.f, h.t⟩
def Hd.setF (h : Hd) (x : List Int) : Hd := ⟨h.c, h.fl, h.ln, h.nx, h.hp, x, h.t⟩
def Hd.setT (h : Hd) (x : List Int) : Hd := ⟨h.c, h.fl, h.ln, h.nx, h.hp, h.f, x⟩
theorem Hd.setLn_ok {h : Hd} (k : h.ok) (x : Int) : (h.setLn x).ok := k
theorem Hd.setHp_ok {h : Hd} (k : h.ok) (x : Int) : (h.setHp x).ok := k
theorem Hd.setNx_ok {h : Hd} (k : h.ok) (x : Int) : (h.setNx x).ok := k
theorem Hd.setF_ok {h : Hd} (k : h.ok) {x : List Int} (hx : Adr x) : (h.setF x).ok := ⟨hx, k.2⟩
theorem Hd.setT_ok {h : Hd} (k : h.ok) {x : List Int} (hx : Adr x) : (h.setT x).ok := ⟨k.1, hx⟩

theorem Hd.size {h : Hd} (k : h.ok) : h.cs.size = 37 := by simp [Hd.cs, arr_size, k.1.1, k.2.1]
theorem Hd.one (h : Hd) : h.cs.all (·.oneCell') = true := by simp [Hd.cs, Array.all_append, arr, u8s, Value.oneCell']
theorem Hd.at0 (h : Hd) : h.cs[0]? = some (.int .i64 h.c) := by simp [Hd.cs, Array.getElem?_append]
theorem Hd.at1 (h : Hd) : h.cs[1]? = some (.int .i64 h.fl) := by simp [Hd.cs, Array.getElem?_append]
theorem Hd.at2 (h : Hd) : h.cs[2]? = some (.int .i64 h.ln) := by simp [Hd.cs, Array.getElem?_append]
theorem Hd.at3 (h : Hd) : h.cs[3]? = some (.int .i64 h.nx) := by simp [Hd.cs, Array.getElem?_append]
theorem Hd.at4 (h : Hd) : h.cs[4]? = some (.int .i64 h.hp) := by simp [Hd.cs, Array.getElem?_append]
theorem Hd.atF {h : Hd} (k : h.ok) (j : Nat) (hj : j < 16) : h.cs[5 + j]? = some (.int .u8 (h.f.getD j 0)) := by
  rw [Hd.cs, Array.getElem?_append_right (by simp), show 5 + j - Array.size #[Value.int .i64 h.c, .int .i64 h.fl, .int .i64 h.ln, .int .i64 h.nx, .int .i64 h.hp] = j by simp, Array.getElem?_append_left (by rw [arr_size, k.1.1]; exact hj), arr_at _ _ (by rw [k.1.1]; exact hj)]
theorem Hd.atT {h : Hd} (k : h.ok) (j : Nat) (hj : j < 16) : h.cs[21 + j]? = some (.int .u8 (h.t.getD j 0)) := by
  rw [Hd.cs, Array.getElem?_append_right (by simp; omega), show 21 + j - Array.size #[Value.int .i64 h.c, .int .i64 h.fl, .int .i64 h.ln, .int .i64 h.nx, .int .i64 h.hp] = 16 + j by simp; omega, Array.getElem?_append_right (by rw [arr_size, k.1.1]; omega), arr_size, k.1.1, show 16 + j - 16 = j by omega, arr_at _ _ (by rw [k.2.1]; exact hj)]

theorem Hd.set2 (h : Hd) (x : Int) : h.cs.setIfInBounds 2 (.int .i64 x) = (h.setLn x).cs := by
  apply Array.ext'; simp [Hd.cs, Hd.setLn, List.set_append]
theorem Hd.set3 (h : Hd) (x : Int) : h.cs.setIfInBounds 3 (.int .i64 x) = (h.setNx x).cs := by
  apply Array.ext'; simp [Hd.cs, Hd.setNx, List.set_append]
theorem Hd.set4 (h : Hd) (x : Int) : h.cs.setIfInBounds 4 (.int .i64 x) = (h.setHp x).cs := by
  apply Array.ext'; simp [Hd.cs, Hd.setHp, List.set_append]

/-- A block of cells that is not frozen. -/
def Row (w : World) (b : Nat) (t : TypeId) (c : Array Value) : Prop := w.heap[b]? = some (.cells c t (0, 0))
section
variable {w w' : World} {b : Nat} {t : TypeId} {c : Array Value}
theorem Row.cell (h : Row w b t c) (j : Nat) : w.cell? ⟨b, j, none⟩ = c[j]? := cell_of_row w b j c t (0, 0) h
theorem Row.frozen (h : Row w b t c) (j : Nat) : w.frozen? ⟨b, j, none⟩ = false := frozen_of_row w b j c t h
theorem Row.lt (h : Row w b t c) : b < w.heap.size := (Array.getElem?_eq_some_iff.1 h).1
theorem Row.new (w : World) (t : TypeId) (c : Array Value) : Row (w.alloc (.cells c t)) w.heap.size t c := Go.heap_alloc_new w _
theorem Row.alloc (h : Row w b t c) (o : Obj) : Row (w.alloc o) b t c := (Below.heap_alloc w o b h.lt).trans h
theorem Row.drewN (h : Row w b t c) (q : Nat) : Row (w.drewN q) b t c := h
theorem Row.below (h : Row w b t c) (hb : Below w.heap.size w w') : Row w' b t c := (hb.block b h.lt).trans h
theorem Row.set (h : Row w b t c) (j : Nat) (v : Value) : Row (w.setCell ⟨b, j, none⟩ v) b t (c.setIfInBounds j v) := Go.heap_setCell_same w b j c t v h
theorem Row.other (h : Row w b t c) (a : Addr) (v : Value) (hb : b ≠ a.block) : Row (w.setCell a v) b t c := (Go.heap_setCell_other w a b v hb).trans h
theorem Row.setRow (h : Row w b t c) (c' : Array Value) : Row (w.setRow b c') b t c' := setRow_heap w b c c' t (0, 0) h
theorem Row.rowOther (h : Row w b t c) (g : Nat) (c' : Array Value) (hb : b ≠ g) : Row (w.setRow g c') b t c := (setRow_other w g b c' hb).trans h
theorem Row.kept (h : Row w b t c) {o : Option Nat} (hg : w.grownBy w' o) (hb : some b ≠ o) : Row w' b t c := (hg.block b h.lt hb).trans h
end
theorem below_setRow' {B : Nat} {a w : World} (h : Below B a w) {g : Nat} (hg : B ≤ g) (c : Array Value) : Below B a (w.setRow g c) :=
  ⟨h.os, h.tape, h.output, by rw [setRow_size]; exact h.size, fun k hk => (setRow_other w g k c (by omega)).trans (h.block k hk)⟩

/-- Cells from a place on. -/
def Part (w : World) (b off : Nat) (c : Array Value) : Prop := ∀ j v, c[j]? = some v → w.cell? ⟨b, off + j, none⟩ = some v
theorem Row.part {w : World} {b : Nat} {t : TypeId} {c : Array Value} (h : Row w b t c) : Part w b 0 c := fun j v hv => by rw [Nat.zero_add, h.cell]; exact hv
theorem Row.partF {w : World} {b : Nat} {t : TypeId} {h : Hd} (k : h.ok) (r : Row w b t h.cs) : Part w b 5 (arr h.f) := fun j v hv => by
  have hj : j < 16 := by have := (Array.getElem?_eq_some_iff.1 hv).1; rw [arr_size, k.1.1] at this; exact this
  rw [r.cell, Hd.atF k j hj, ← hv, arr_at _ _ (by rw [k.1.1]; exact hj)]
theorem Row.partT {w : World} {b : Nat} {t : TypeId} {h : Hd} (k : h.ok) (r : Row w b t h.cs) : Part w b 21 (arr h.t) := fun j v hv => by
  have hj : j < 16 := by have := (Array.getElem?_eq_some_iff.1 hv).1; rw [arr_size, k.2.1] at this; exact this
  rw [r.cell, Hd.atT k j hj, ← hv, arr_at _ _ (by rw [k.2.1]; exact hj)]
/-- An array in the middle of a header, as a slice. -/
theorem part_lies {w : World} {b off : Nat} {l : List Int} (hl : Adr l) (h : Part w b off (arr l)) : Lies .u8 w (some ⟨b, off, none⟩) 16 16 l := by
  refine ⟨hl.1, Nat.le_refl _, by decide, (fun h => by cases h), fun k hk => ⟨b, off, rfl, ?_⟩⟩
  exact h k _ (arr_at l k (by rw [hl.1]; exact hk))

theorem run_loadVar_part {P : Program} (w : World) (g off : Nat) (ty : TypeId) (cs : Array Value) (d : TypeDesc) (hg : Part w g off cs)
    (hu : P.underlying ty = some d) (hd : (match d with | .struct _ | .array _ _ => true | _ => false) = true) (hi : (P.info? ty).map (·.size) = some cs.size) :
    (loadVar ty ⟨g, off, none⟩).run P w = .ok (.agg cs) w := by
  have hl : (loadCells ⟨g, off, none⟩ cs.toList.length).run P w = .ok cs.toList.toArray w :=
    run_loadCells_list (P := P) w ⟨g, off, none⟩ cs.toList (fun j v hv => by
      have hadd : (⟨g, off, none⟩ : Addr).add j = ⟨g, off + j, none⟩ := by unfold Addr.add; split <;> simp_all
      rw [hadd]
      exact hg j v (by simpa using hv))
  cases hq : P.info? ty with
  | none => simp [hq] at hi
  | some i =>
    have hs : i.size = cs.size := by simpa [hq] using hi
    have hagg : (isAgg ty).run P w = .ok true w := by
      unfold isAgg
      rw [Sem.run_bind, run_underlying hu w]
      cases d <;> simp_all
    simp only [Array.length_toList, Array.toArray_toList] at hl
    simp [loadVar, Sem.run_bind, hagg, sizeOf, typeInfo, hq, hs, hl]

/-- A load of a whole array or struct, guarded or not. -/
theorem wp_ld {P : Program} {ops : Array Oper} {rest : List Oper} {o : Oper} {a : Act} {w : World} {Q : Exit → Act → World → Prop} (ty : TypeId) (x : Operand) (ho : o.op = .load ty x)
    (hw : Region.wanted o (yielded ops a.tmps) = true) (g off : Nat) (hx : a.eval x = .pointer (some ⟨g, off, none⟩)) (cs : Array Value) (d : TypeDesc)
    (hu : P.underlying ty = some d) (hd : (match d with | .struct _ | .array _ _ => true | _ => false) = true) (hi : (P.info? ty).map (·.size) = some cs.size) (hg : Part w g off cs)
    (h : wpList P ops Q rest (a.put o.dst (.agg cs)) w) : wpList P ops Q (o :: rest) a w :=
  wpList_step fun K hK => by
    rw [if_pos hw]
    unfold Oper.wp execOp
    simp only [ho, hx, Instr.loadAt, Instr.sureAddr, Sem.run_bind, Sem.run_pure, Result.andThen_ok, run_loadVar_part w g off ty cs d hg hu hd hi]
    exact hK _ _ h
/-- A store of a whole array or struct. -/
theorem wp_st {P : Program} {ops : Array Oper} {rest : List Oper} {o : Oper} {a : Act} {w : World} {Q : Exit → Act → World → Prop} (ty : TypeId) (x y : Operand) (ho : o.op = .store ty x y)
    (hgd : o.guard = none) (g : Nat) (cells : Array Value) (hx : a.eval x = .pointer (some ⟨g, 0, none⟩)) (hy : a.eval y = .agg cells)
    (hi : (P.info? ty).map (·.size) = some cells.size) (h1 : cells.all (·.oneCell') = true) (t : TypeId) (old : Array Value) (hold : old.size = cells.size) (hg : Row w g t old)
    (h : wpList P ops Q rest (a.put o.dst undef) (w.setRow g cells)) : wpList P ops Q (o :: rest) a w :=
  wpList_store_row hgd ty x y ho g cells hx hy t old hg hi hold h1 h
theorem wp_bd {P : Program} {ops : Array Oper} {rest : List Oper} {o : Oper} {a : Act} {w : World} {Q : Exit → Act → World → Prop} (t : TypeId) (parts : Array (Nat × Operand)) (ho : o.op = .build t parts) (hg : o.guard = none)
    (cs : Array Value) (hf : P.built t (parts.map fun (i, x) => (i, a.eval x)).toList = some cs)
    (h : wpList P ops Q rest (a.put o.dst (.agg cs)) w) : wpList P ops Q (o :: rest) a w :=
  wpList_build hg t parts ho (by rw [hf]; rfl) (by rw [hf]; exact h)

theorem size22 : (Try.prog.info? 22).map (·.size) = some 16 := by kernel_rfl
theorem size26 : (Try.prog.info? 26).map (·.size) = some 16 := by kernel_rfl
theorem size24 : (Try.prog.info? 24).map (·.size) = some 37 := by kernel_rfl
theorem size28 : (Try.prog.info? 28).map (·.size) = some 37 := by kernel_rfl

section
variable {ops : Array Oper} {rest : List Oper} {o : Oper} {a : Act} {w : World} {Q : Exit → Act → World → Prop}
theorem ld22 (x : Operand) (ho : o.op = .load 22 x) (hw : Region.wanted o (yielded ops a.tmps) = true) (g off : Nat) (hx : a.eval x = .pointer (some ⟨g, off, none⟩)) (l : List Int) (hl : l.length = 16) (hg : Part w g off (arr l))
    (h : wpList Try.prog ops Q rest (a.put o.dst (.agg (arr l))) w) : wpList Try.prog ops Q (o :: rest) a w :=
  wp_ld 22 x ho hw g off hx (arr l) _ Try.underlying22 rfl (by rw [arr_size, hl]; exact size22) hg h
theorem ld26 (x : Operand) (ho : o.op = .load 26 x) (hw : Region.wanted o (yielded ops a.tmps) = true) (g off : Nat) (hx : a.eval x = .pointer (some ⟨g, off, none⟩)) (l : List Int) (hl : l.length = 16) (hg : Part w g off (arr l))
    (h : wpList Try.prog ops Q rest (a.put o.dst (.agg (arr l))) w) : wpList Try.prog ops Q (o :: rest) a w :=
  wp_ld 26 x ho hw g off hx (arr l) _ Try.underlying26 rfl (by rw [arr_size, hl]; exact size26) hg h
theorem ld24 (x : Operand) (ho : o.op = .load 24 x) (hw : Region.wanted o (yielded ops a.tmps) = true) (g : Nat) (hx : a.eval x = .pointer (some ⟨g, 0, none⟩)) (h : Hd) (k : h.ok) (t : TypeId) (hg : Row w g t h.cs)
    (hn : wpList Try.prog ops Q rest (a.put o.dst (.agg h.cs)) w) : wpList Try.prog ops Q (o :: rest) a w :=
  wp_ld 24 x ho hw g 0 hx h.cs _ Try.underlying24 rfl (by rw [Hd.size k]; exact size24) hg.part hn
theorem st24 (x y : Operand) (ho : o.op = .store 24 x y) (hgd : o.guard = none) (g : Nat) (h : Hd) (k : h.ok) (hx : a.eval x = .pointer (some ⟨g, 0, none⟩)) (hy : a.eval y = .agg h.cs) (t : TypeId) (old : Hd) (ko : old.ok) (hg : Row w g t old.cs)
    (hn : wpList Try.prog ops Q rest (a.put o.dst undef) (w.setRow g h.cs)) : wpList Try.prog ops Q (o :: rest) a w :=
  wp_st 24 x y ho hgd g h.cs hx hy (by rw [Hd.size k]; exact size24) h.one t old.cs (by rw [Hd.size k, Hd.size ko]) hg hn
theorem ld28 (x : Operand) (ho : o.op = .load 28 x) (hw : Region.wanted o (yielded ops a.tmps) = true) (g : Nat) (hx : a.eval x = .pointer (some ⟨g, 0, none⟩)) (h : Hd) (k : h.ok) (t : TypeId) (hg : Row w g t h.cs)
    (hn : wpList Try.prog ops Q rest (a.put o.dst (.agg h.cs)) w) : wpList Try.prog ops Q (o :: rest) a w :=
  wp_ld 28 x ho hw g 0 hx h.cs _ Try.underlying28 rfl (by rw [Hd.size k]; exact size28) hg.part hn
theorem st28 (x y : Operand) (ho : o.op = .store 28 x y) (hgd : o.guard = none) (g : Nat) (h : Hd) (k : h.ok) (hx : a.eval x = .pointer (some ⟨g, 0, none⟩)) (hy : a.eval y = .agg h.cs) (t : TypeId) (old : Hd) (ko : old.ok) (hg : Row w g t old.cs)
    (hn : wpList Try.prog ops Q rest (a.put o.dst undef) (w.setRow g h.cs)) : wpList Try.prog ops Q (o :: rest) a w :=
  wp_st 28 x y ho hgd g h.cs hx hy (by rw [Hd.size k]; exact size28) h.one t old.cs (by rw [Hd.size k, Hd.size ko]) hg hn
end
theorem res24 {fn : Func} {p : Tmp} (hf : fn.results = #[.cell p 24]) (tmps : Array Value) (w : World) (g : Nat) (t : TypeId) (h : Hd) (k : h.ok)
    (hp : tmps.getD p undef = .pointer (some ⟨g, 0, none⟩)) (hg : Row w g t h.cs) : (results fn tmps).run Try.prog w = .ok (.agg h.cs) w :=
  results_cell_row hf tmps w g t h.cs (0, 0) _ hp hg Try.underlying24 rfl (by rw [Hd.size k]; exact size24)
theorem res24e {fn : Func} {p u : Tmp} (hf : fn.results = #[.cell p 24, .tmp u]) (tmps : Array Value) (w : World) (g : Nat) (t : TypeId) (h : Hd) (k : h.ok) (v : Value)
    (hp : tmps.getD p undef = .pointer (some ⟨g, 0, none⟩)) (hu : tmps.getD u undef = v) (hg : Row w g t h.cs) : (results fn tmps).run Try.prog w = .ok (.tuple #[.agg h.cs, v]) w := by
  rw [results_cell_tmp hf]
  have hp' : tmps[p]?.getD undef = .pointer (some ⟨g, 0, none⟩) := by simpa using hp
  have hu' : tmps[u]?.getD undef = v := by simpa using hu
  simp [hp', hu', asAddr, run_loadVar_row w g t 24 h.cs (0, 0) _ hg Try.underlying24 rfl (by rw [Hd.size k]; exact size24)]
theorem res24f {fn : Func} {p u x : Tmp} (hf : fn.results = #[.cell p 24, .tmp u, .tmp x]) (tmps : Array Value) (w : World) (g : Nat) (t : TypeId) (h : Hd) (k : h.ok) (v y : Value)
    (hp : tmps.getD p undef = .pointer (some ⟨g, 0, none⟩)) (hu : tmps.getD u undef = v) (hx : tmps.getD x undef = y) (hg : Row w g t h.cs) : (results fn tmps).run Try.prog w = .ok (.tuple #[.agg h.cs, v, y]) w := by
  have hp' : tmps[p]?.getD undef = .pointer (some ⟨g, 0, none⟩) := by simpa using hp
  have hu' : tmps[u]?.getD undef = v := by simpa using hu
  have hx' : tmps[x]?.getD undef = y := by simpa using hx
  simp only [results, hf]
  simp [Sem.run_bind, Result.andThen, hp', hu', hx', asAddr, run_loadVar_row w g t 24 h.cs (0, 0) _ hg Try.underlying24 rfl (by rw [Hd.size k]; exact size24)]
theorem res28 {fn : Func} {p : Tmp} (hf : fn.results = #[.cell p 28]) (tmps : Array Value) (w : World) (g : Nat) (t : TypeId) (h : Hd) (k : h.ok)
    (hp : tmps.getD p undef = .pointer (some ⟨g, 0, none⟩)) (hg : Row w g t h.cs) : (results fn tmps).run Try.prog w = .ok (.agg h.cs) w :=
  results_cell_row hf tmps w g t h.cs (0, 0) _ hp hg Try.underlying28 rfl (by rw [Hd.size k]; exact size28)
theorem res28e {fn : Func} {p u : Tmp} (hf : fn.results = #[.cell p 28, .tmp u]) (tmps : Array Value) (w : World) (g : Nat) (t : TypeId) (h : Hd) (k : h.ok) (v : Value)
    (hp : tmps.getD p undef = .pointer (some ⟨g, 0, none⟩)) (hu : tmps.getD u undef = v) (hg : Row w g t h.cs) : (results fn tmps).run Try.prog w = .ok (.tuple #[.agg h.cs, v]) w := by
  rw [results_cell_tmp hf]
  have hp' : tmps[p]?.getD undef = .pointer (some ⟨g, 0, none⟩) := by simpa using hp
  have hu' : tmps[u]?.getD undef = v := by simpa using hu
  simp [hp', hu', asAddr, run_loadVar_row w g t 28 h.cs (0, 0) _ hg Try.underlying28 rfl (by rw [Hd.size k]; exact size28)]
theorem res28f {fn : Func} {p u x : Tmp} (hf : fn.results = #[.cell p 28, .tmp u, .tmp x]) (tmps : Array Value) (w : World) (g : Nat) (t : TypeId) (h : Hd) (k : h.ok) (v y : Value)
    (hp : tmps.getD p undef = .pointer (some ⟨g, 0, none⟩)) (hu : tmps.getD u undef = v) (hx : tmps.getD x undef = y) (hg : Row w g t h.cs) : (results fn tmps).run Try.prog w = .ok (.tuple #[.agg h.cs, v, y]) w := by
  have hp' : tmps[p]?.getD undef = .pointer (some ⟨g, 0, none⟩) := by simpa using hp
  have hu' : tmps[u]?.getD undef = v := by simpa using hu
  have hx' : tmps[x]?.getD undef = y := by simpa using hx
  simp only [results, hf]
  simp [Sem.run_bind, Result.andThen, hp', hu', hx', asAddr, run_loadVar_row w g t 28 h.cs (0, 0) _ hg Try.underlying28 rfl (by rw [Hd.size k]; exact size28)]
theorem built24' (c fl ln nx hp a0 a1 a2 a3 a4 a5 a6 a7 a8 a9 a10 a11 a12 a13 a14 a15 b0 b1 b2 b3 b4 b5 b6 b7 b8 b9 b10 b11 b12 b13 b14 b15 : Int) : Try.prog.built 24 [(0, .int .i64 c), (1, .int .i64 fl), (2, .int .i64 ln), (3, .int .i64 nx), (4, .int .i64 hp), (5, .agg (arr [a0, a1, a2, a3, a4, a5, a6, a7, a8, a9, a10, a11, a12, a13, a14, a15])), (6, .agg (arr [b0, b1, b2, b3, b4, b5, b6, b7, b8, b9, b10, b11, b12, b13, b14, b15]))] = some (Hd.cs ⟨c, fl, ln, nx, hp, [a0, a1, a2, a3, a4, a5, a6, a7, a8, a9, a10, a11, a12, a13, a14, a15], [b0, b1, b2, b3, b4, b5, b6, b7, b8, b9, b10, b11, b12, b13, b14, b15]⟩) := by kernel_rfl
theorem built24 (h : Hd) (k : h.ok) : Try.prog.built 24 [(0, .int .i64 h.c), (1, .int .i64 h.fl), (2, .int .i64 h.ln), (3, .int .i64 h.nx), (4, .int .i64 h.hp), (5, .agg (arr h.f)), (6, .agg (arr h.t))] = some h.cs := by
  obtain ⟨c, fl, ln, nx, hp, f, t⟩ := h
  obtain ⟨⟨hf, _⟩, ht, _⟩ := k
  simp only at hf ht
  match f, hf, t, ht with
  | [a0, a1, a2, a3, a4, a5, a6, a7, a8, a9, a10, a11, a12, a13, a14, a15], _, [b0, b1, b2, b3, b4, b5, b6, b7, b8, b9, b10, b11, b12, b13, b14, b15], _ => exact built24' c fl ln nx hp a0 a1 a2 a3 a4 a5 a6 a7 a8 a9 a10 a11 a12 a13 a14 a15 b0 b1 b2 b3 b4 b5 b6 b7 b8 b9 b10 b11 b12 b13 b14 b15
theorem bd24 {ops : Array Oper} {rest : List Oper} {o : Oper} {a : Act} {w : World} {Q : Exit → Act → World → Prop} (x0 x1 x2 x3 x4 x5 x6 : Operand) (ho : o.op = .build 24 #[(0, x0), (1, x1), (2, x2), (3, x3), (4, x4), (5, x5), (6, x6)]) (hg : o.guard = none)
    (h : Hd) (k : h.ok) (h0 : a.eval x0 = .int .i64 h.c) (h1 : a.eval x1 = .int .i64 h.fl) (h2 : a.eval x2 = .int .i64 h.ln) (h3 : a.eval x3 = .int .i64 h.nx) (h4 : a.eval x4 = .int .i64 h.hp) (h5 : a.eval x5 = .agg (arr h.f)) (h6 : a.eval x6 = .agg (arr h.t))
    (hn : wpList Try.prog ops Q rest (a.put o.dst (.agg h.cs)) w) : wpList Try.prog ops Q (o :: rest) a w :=
  wp_bd 24 _ ho hg h.cs (by simp only [List.map_toArray, List.map_cons, List.map_nil, h0, h1, h2, h3, h4, h5, h6]; exact built24 h k) hn
theorem built24z : Try.prog.built 24 [] = some Hd.zero.cs := by kernel_rfl
theorem bd24z {ops : Array Oper} {rest : List Oper} {o : Oper} {a : Act} {w : World} {Q : Exit → Act → World → Prop} (ho : o.op = .build 24 #[]) (hg : o.guard = none)
    (hn : wpList Try.prog ops Q rest (a.put o.dst (.agg Hd.zero.cs)) w) : wpList Try.prog ops Q (o :: rest) a w :=
  wp_bd 24 _ ho hg Hd.zero.cs (by simp only [List.map_toArray, List.map_nil]; exact built24z) hn
theorem built28' (c fl ln nx hp a0 a1 a2 a3 a4 a5 a6 a7 a8 a9 a10 a11 a12 a13 a14 a15 b0 b1 b2 b3 b4 b5 b6 b7 b8 b9 b10 b11 b12 b13 b14 b15 : Int) : Try.prog.built 28 [(0, .int .i64 c), (1, .int .i64 fl), (2, .int .i64 ln), (3, .int .i64 nx), (4, .int .i64 hp), (5, .agg (arr [a0, a1, a2, a3, a4, a5, a6, a7, a8, a9, a10, a11, a12, a13, a14, a15])), (6, .agg (arr [b0, b1, b2, b3, b4, b5, b6, b7, b8, b9, b10, b11, b12, b13, b14, b15]))] = some (Hd.cs ⟨c, fl, ln, nx, hp, [a0, a1, a2, a3, a4, a5, a6, a7, a8, a9, a10, a11, a12, a13, a14, a15], [b0, b1, b2, b3, b4, b5, b6, b7, b8, b9, b10, b11, b12, b13, b14, b15]⟩) := by kernel_rfl
theorem built28 (h : Hd) (k : h.ok) : Try.prog.built 28 [(0, .int .i64 h.c), (1, .int .i64 h.fl), (2, .int .i64 h.ln), (3, .int .i64 h.nx), (4, .int .i64 h.hp), (5, .agg (arr h.f)), (6, .agg (arr h.t))] = some h.cs := by
  obtain ⟨c, fl, ln, nx, hp, f, t⟩ := h
  obtain ⟨⟨hf, _⟩, ht, _⟩ := k
  simp only at hf ht
  match f, hf, t, ht with
  | [a0, a1, a2, a3, a4, a5, a6, a7, a8, a9, a10, a11, a12, a13, a14, a15], _, [b0, b1, b2, b3, b4, b5, b6, b7, b8, b9, b10, b11, b12, b13, b14, b15], _ => exact built28' c fl ln nx hp a0 a1 a2 a3 a4 a5 a6 a7 a8 a9 a10 a11 a12 a13 a14 a15 b0 b1 b2 b3 b4 b5 b6 b7 b8 b9 b10 b11 b12 b13 b14 b15
theorem bd28 {ops : Array Oper} {rest : List Oper} {o : Oper} {a : Act} {w : World} {Q : Exit → Act → World → Prop} (x0 x1 x2 x3 x4 x5 x6 : Operand) (ho : o.op = .build 28 #[(0, x0), (1, x1), (2, x2), (3, x3), (4, x4), (5, x5), (6, x6)]) (hg : o.guard = none)
    (h : Hd) (k : h.ok) (h0 : a.eval x0 = .int .i64 h.c) (h1 : a.eval x1 = .int .i64 h.fl) (h2 : a.eval x2 = .int .i64 h.ln) (h3 : a.eval x3 = .int .i64 h.nx) (h4 : a.eval x4 = .int .i64 h.hp) (h5 : a.eval x5 = .agg (arr h.f)) (h6 : a.eval x6 = .agg (arr h.t))
    (hn : wpList Try.prog ops Q rest (a.put o.dst (.agg h.cs)) w) : wpList Try.prog ops Q (o :: rest) a w :=
  wp_bd 28 _ ho hg h.cs (by simp only [List.map_toArray, List.map_cons, List.map_nil, h0, h1, h2, h3, h4, h5, h6]; exact built28 h k) hn
theorem built28z : Try.prog.built 28 [] = some Hd.zero.cs := by kernel_rfl
theorem bd28z {ops : Array Oper} {rest : List Oper} {o : Oper} {a : Act} {w : World} {Q : Exit → Act → World → Prop} (ho : o.op = .build 28 #[]) (hg : o.guard = none)
    (hn : wpList Try.prog ops Q rest (a.put o.dst (.agg Hd.zero.cs)) w) : wpList Try.prog ops Q (o :: rest) a w :=
  wp_bd 28 _ ho hg Hd.zero.cs (by simp only [List.map_toArray, List.map_nil]; exact built28z) hn
theorem built28b (c fl : Int) : Try.prog.built 28 [(0, .int .i64 c), (1, .int .i64 fl)] = some (Hd.cs ⟨c, fl, 0, 0, 0, zeros, zeros⟩) := by kernel_rfl
theorem bd28b {ops : Array Oper} {rest : List Oper} {o : Oper} {a : Act} {w : World} {Q : Exit → Act → World → Prop} (x0 x1 : Operand) (ho : o.op = .build 28 #[(0, x0), (1, x1)]) (hg : o.guard = none)
    (c fl : Int) (h0 : a.eval x0 = .int .i64 c) (h1 : a.eval x1 = .int .i64 fl)
    (hn : wpList Try.prog ops Q rest (a.put o.dst (.agg (Hd.cs ⟨c, fl, 0, 0, 0, zeros, zeros⟩))) w) : wpList Try.prog ops Q (o :: rest) a w :=
  wp_bd 28 _ ho hg _ (by simp only [List.map_toArray, List.map_cons, List.map_nil, h0, h1]; exact built28b c fl) hn
theorem built28h (hp : Int) : Try.prog.built 28 [(4, .int .i64 hp)] = some (Hd.cs ⟨0, 0, 0, 0, hp, zeros, zeros⟩) := by kernel_rfl
theorem bd28h {ops : Array Oper} {rest : List Oper} {o : Oper} {a : Act} {w : World} {Q : Exit → Act → World → Prop} (x0 : Operand) (ho : o.op = .build 28 #[(4, x0)]) (hg : o.guard = none)
    (hp : Int) (h0 : a.eval x0 = .int .i64 hp)
    (hn : wpList Try.prog ops Q rest (a.put o.dst (.agg (Hd.cs ⟨0, 0, 0, 0, hp, zeros, zeros⟩))) w) : wpList Try.prog ops Q (o :: rest) a w :=
  wp_bd 28 _ ho hg _ (by simp only [List.map_toArray, List.map_cons, List.map_nil, h0]; exact built28h hp) hn
theorem zhd : (List.toArray (Value.int .i64 0 :: Value.int .i64 0 :: Value.int .i64 0 :: Value.int .i64 0 :: Value.int .i64 0 :: Value.int .u8 0 :: Value.int .u8 0 :: Value.int .u8 0 :: Value.int .u8 0 :: Value.int .u8 0 :: Value.int .u8 0 :: Value.int .u8 0 :: Value.int .u8 0 :: Value.int .u8 0 :: Value.int .u8 0 :: Value.int .u8 0 :: Value.int .u8 0 :: Value.int .u8 0 :: Value.int .u8 0 :: Value.int .u8 0 :: Value.int .u8 0 :: Value.int .u8 0 :: Value.int .u8 0 :: Value.int .u8 0 :: Value.int .u8 0 :: Value.int .u8 0 :: Value.int .u8 0 :: Value.int .u8 0 :: Value.int .u8 0 :: Value.int .u8 0 :: Value.int .u8 0 :: Value.int .u8 0 :: Value.int .u8 0 :: Value.int .u8 0 :: Value.int .u8 0 :: Value.int .u8 0 :: Value.int .u8 0 :: []) : Array Value) = Hd.zero.cs := rfl
end Go.Proofs.Ytmpkemlnpmephaa
