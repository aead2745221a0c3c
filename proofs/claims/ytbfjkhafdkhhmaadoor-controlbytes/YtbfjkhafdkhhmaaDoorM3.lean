/- Slices that came in, appends from wherever, and what pack.Put answers in one sentence. · Rows of cells, parts of rows, whole loads, stores and literals; rows of the call's own beside each other; texts; the cursor beside them. · Options in memory, and the table of kinds. -/
import Derived.Test.YtbfjkhafdkhhmaaDoorM2
import Derived.Laws.AppendOwnNone
import Derived.Deep.WholeRow
import Derived.ChangeKeysEq
import Derived.Laws.StructEq
import Derived.Laws.ResultCell
import Derived.BigRegion
import Derived.Deep.CutRange
import Derived.Deep.RegionHeld3
import Derived.Deep.RegionWith
import Derived.Laws.CopyOwn
import Derived.Deep.Strs
import Derived.ChangeSame
namespace Go.Proofs.YtbfjkhafdkhhmaaDoor
open Go.ChangeShapes Go.WideShapes Go.ChangeAt Go.RowKit
set_option linter.unusedVariables false
set_option linter.unusedSimpArgs false

theorem bthen {w w1 w2 : World} (h : Below w.heap.size w w1) (k : Below w1.heap.size w1 w2) : Below w.heap.size w w2 := h.trans (k.mono h.size)
theorem bgrown {w w1 w2 : World} {c : Nat} (h : Below w.heap.size w w1) (k : w1.grownBy w2 (some c)) (hc : w.heap.size ≤ c) : Below w.heap.size w w2 := Below.grown h k h.size (fun j hj => by cases hj; exact hc)
theorem bdrew {w w1 : World} (h : Below w.heap.size w w1) (q : Nat) : Below w.heap.size w (w1.drewN q) := h.trans ⟨rfl, rfl, rfl, Nat.le_refl _, fun _ _ => rfl⟩
theorem balloc {w w1 : World} (h : Below w.heap.size w w1) (o : Obj) : Below w.heap.size w (w1.alloc o) := h.alloc h.size o

/-- Numbers that were just laid down. -/
theorem lies_new (kd : IntKind) (w : World) (cs : Array Value) (t : TypeId) (l : List Int) (h : cs.toList = l.map (Value.int kd)) (hs : l.length ≤ 100) : Lies kd (w.alloc (.cells cs t)) (some ⟨w.heap.size, 0, none⟩) l.length l.length l := by
  refine ⟨rfl, Nat.le_refl _, by unfold maxLen; omega, fun h => (by cases h), fun k hk => ⟨w.heap.size, 0, rfl, ?_⟩⟩
  have := World.news_of_block (heap_alloc_new w (.cells cs t)) k (.int kd (l.getD k 0)) (by rw [h]; simp [hk])
  rwa [Addr.add_lit] at this

/-- What is known of a slice of numbers that came in: it is nil, or it leads to a row of 'cap' cells that hold the numbers 'zs'. -/
def IsRow (k : IntKind) (w : World) (a : Option Addr) (len cap : Nat) (zs : List Int) : Prop :=
  (a = none ∧ len = 0 ∧ cap = 0 ∧ zs = []) ∨
  ∃ x, a = some x ∧ len ≤ cap ∧ cap ≤ maxLen ∧ zs.length = cap ∧ (∀ i, i < zs.length → w.cell? (x.add i) = some (.int k (zs.getD i 0))) ∧ ∀ n ∈ zs, (Lit.int k n).wf = true

theorem IsRow.lies {kd : IntKind} {w : World} {a : Option Addr} {len cap : Nat} {zs : List Int} (h : IsRow kd w a len cap zs) : Lies kd w a len cap (zs.take len) := by
  rcases h with ⟨rfl, rfl, rfl, rfl⟩ | ⟨x, rfl, hlc, hcm, hz, hcell, hwf⟩
  · exact Lies.nil kd w
  · refine ⟨by simp; omega, hlc, hcm, fun h => (by cases h), fun k hk => ?_⟩
    obtain ⟨b, off, rfl, hc⟩ := ints_at hcell (by omega)
    refine ⟨b, off, rfl, ?_⟩
    rw [hc k (by omega)]
    simp [List.getD, List.getElem?_take, hk]

theorem Lies.pre {kd : IntKind} {w : World} {a : Option Addr} {len cap : Nat} {l : List Int} (h : Lies kd w a len cap l) (n : Nat) (hn : n ≤ len) : Lies kd w a n cap (l.take n) := by
  refine ⟨by rw [List.length_take, h.1]; omega, Nat.le_trans hn h.2.1, h.2.2.1, h.2.2.2.1, fun k hk => ?_⟩
  obtain ⟨b, off, he, hc⟩ := h.2.2.2.2 k (by omega)
  refine ⟨b, off, he, ?_⟩
  rw [hc]; simp [List.getD, List.getElem?_take, hk]

theorem IsRow.wf {kd : IntKind} {w : World} {a : Option Addr} {len cap : Nat} {zs : List Int} (h : IsRow kd w a len cap zs) : ∀ n ∈ zs, (Lit.int kd n).wf = true := by
  rcases h with ⟨rfl, rfl, rfl, rfl⟩ | ⟨x, rfl, hlc, hcm, hz, hcell, hwf⟩
  · intro n hn; cases hn
  · exact hwf

/-- An append onto a row of the call's own, from wherever. -/
theorem wpList_append_own_any {P : Program} (w : World) {ops : Array Oper} {rest : List Oper} {o : Oper} {a : Act} {Q : Exit → Act → World → Prop} (hgd : o.guard = none) (s x : Operand) (t : TypeId)
    (ho : o.op = .call { callee := .builtin .append, args := #[s, x], argTypes := #[t, t] })
    (base : Nat) (e : TypeId) (i : TypeInfo) (z : Value) (size bytes : Nat) (ht : P.underlying t = some (.slice e)) (hi : P.info? e = some i) (hz : i.zero = some z)
    (hsize : i.size = size) (hby : i.bytes = bytes) (hzs : z.cells.size = size) (hsz : 0 < size)
    (v : Value) (n : Nat) (xs : List Value) (hs : a.eval s = v) (hown : w.ownsRow base e size v n xs)
    (ao : Option Addr) (m c : Nat) (news : List Value) (hx : a.eval x = .slice ao m c) (hl : news.length = m * size) (hnone : ao = none → m = 0 ∧ c = 0) (hnews : ∀ ad, ao = some ad → ∀ j u, news[j]? = some u → w.cell? (ad.add j) = some u) (h1 : ∀ u ∈ news, u.oneCell' = true)
    (h63 : n + m ≤ maxLen) (hbytes : (n + m) * bytes ≤ 140737488355328) (hbase : base ≤ w.heap.size)
    (h : ∀ v' w', w'.ownsRow base e size v' (n + m) (xs ++ news) → Below base w w' → wpList P ops Q rest (a.put o.dst v') w') : wpList P ops Q (o :: rest) a w := by
  cases ao with
  | some ad =>
    refine wpList_append_own w hgd s x t ho base e i z size bytes ht hi hz hsize hby hzs hsz v n xs hs hown ad m c news hx hl (hnews ad rfl) h1 h63 hbytes hbase ?_
    intro v' w' h2 h3 _
    exact h v' w' h2 (Below.grown (Below.refl _ _) h3 hbase (fun k hk => (hown.lt k hk).1))
  | none =>
    obtain ⟨rfl, rfl⟩ := hnone rfl
    have hn : news = [] := List.eq_nil_of_length_eq_zero (by simpa using hl)
    subst hn
    refine wpList_append_own_none hgd s x t ho base e i size ht hi v n xs hs hown hx ?_
    exact h v w (by simpa using hown) (Below.refl _ _)

/-- What is wrong, if these numbers are put behind so many bytes. -/
def putE (size : Int) (lb : Nat) (l : List Int) : Int := if fitsB size l = true then (if 1280 < lb + size.toNat * l.length then 2 else 0) else 1
/-- What is put then. -/
def putL (size : Int) (bs l : List Int) : List Int := if putE size bs.length l = 0 then bs ++ bytesOf size l else []

theorem put_any (ab al : Option Addr) (lb cb ll cl : Nat) (size : Int) (bs l : List Int) (w : World) (hb : Lies .u8 w ab lb cb bs) (hl : Lies .i64 w al ll cl l) (hlb : lb ≤ 1000000) (hll : ll ≤ 1000000) :
    Calls Tryd.prog 55 #[.slice ab lb cb, .int .i64 size, .slice al ll cl] w fun e w' => ∃ v, e = .returned (.tuple #[v, .int .i64 (putE size bs.length l)]) ∧
      w'.ownsRow w.heap.size 5 1 v (putL size bs l).length (u8s (putL size bs l)) ∧ Below w.heap.size w w' := by
  have h1 := hb.1
  have h2 := hl.1
  cases hf : fitsB size l
  · have hE : putE size bs.length l = 1 := by simp [putE, hf]
    have hL : putL size bs l = [] := by simp [putL, hE]
    rw [hE, hL]
    refine (put_no ab al lb cb ll cl size l w hl hf).mono ?_
    rintro e w' ⟨rfl, rfl⟩
    exact ⟨_, rfl, World.ownsRow_nil _ _ _ _, Below.refl _ _⟩
  · by_cases hlong : 1280 < lb + size.toNat * ll
    · have hE : putE size bs.length l = 2 := by simp [putE, hf, h1, h2, hlong]
      have hL : putL size bs l = [] := by simp [putL, hE]
      rw [hE, hL]
      refine (put_long ab al lb cb ll cl size l w hl hf hlb hll hlong).mono ?_
      rintro e w' ⟨rfl, rfl⟩
      exact ⟨_, rfl, World.ownsRow_nil _ _ _ _, Below.refl _ _⟩
    · have hE : putE size bs.length l = 0 := by simp [putE, hf, h1, h2]; omega
      have hL : putL size bs l = bs ++ bytesOf size l := by simp [putL, hE]
      rw [hE, hL]
      refine (put_ok ab al lb cb ll cl size bs l w hb hl hf (by omega)).mono ?_
      rintro e w' ⟨v, rfl, h1, h2⟩
      exact ⟨v, rfl, h1, h2⟩

theorem putL_le (size : Int) (bs l : List Int) : (putL size bs l).length ≤ 1280 := by
  unfold putL
  split
  · rename_i h
    unfold putE at h
    split at h
    · rename_i hf
      split at h
      · omega
      · have hz : sizeB size = true := by simp [fitsB] at hf; exact hf.1
        rw [List.length_append, bytesOf_length size l hz]; omega
    · omega
  · simp

/-- A row of the call's own, as a slice of numbers. -/
theorem owns_liesk {kd : IntKind} {e : TypeId} {w : World} {base : Nat} {v : Value} {l : List Int} (h : w.ownsRow base e 1 v l.length (l.map (Value.int kd))) : ∃ a cap, v = .slice a l.length cap ∧ Lies kd w a l.length cap l := by
  rcases h.2 with ⟨rfl, hn⟩ | ⟨g, cap, cur, rfl, hb, hg, hnc, hcm, hcs, hx⟩
  · exact ⟨none, 0, by rw [hn], ⟨rfl, by omega, by decide, fun _ => rfl, fun k hk => by omega⟩⟩
  · refine ⟨_, cap, rfl, ⟨rfl, hnc, hcm, (fun h => by cases h), fun k hk => ⟨g, 0, rfl, ?_⟩⟩⟩
    rw [Nat.zero_add, cell_of_row w g k cur e (0, 0) hg]
    have h1 : (cur.toList.take (l.length * 1))[k]? = (l.map (Value.int kd))[k]? := by rw [hx]
    rw [List.getElem?_take, if_pos (by omega)] at h1
    simp [hk] at h1
    simp [h1, hk]

theorem fitsB_append (size : Int) (l m : List Int) : fitsB size (l ++ m) = (fitsB size l && fitsB size m) := by
  unfold fitsB; rw [List.all_append]; cases sizeB size <;> simp

theorem size_le {size : Int} {l : List Int} (h : fitsB size l = true) : size.toNat ≤ 4 := by
  have : sizeB size = true := by simp [fitsB] at h; exact h.1
  rcases sizeB_cases this with rfl | rfl | rfl <;> decide

/-- The same bytes, of two rows of any length. -/
theorem same_any (a b : Option Addr) (la ca lb cb : Nat) (l m : List Int) (w : World) (ha : Lies .u8 w a la ca l) (hb : Lies .u8 w b lb cb m) :
    Calls Tryd.prog 15 #[.slice a la ca, .slice b lb cb] w fun e w' => e = .returned (.bool (l == m)) ∧ ∃ q, w' = w.drewN q := by
  by_cases h : la = lb
  · subst h; exact same_len a b la ca cb l m w ha hb
  · refine (same_no a b la ca lb cb w h).mono ?_
    rintro e w' ⟨rfl, rfl⟩
    refine ⟨ret_bool ?_, 0, rfl⟩
    symm
    rw [beq_eq_false_iff_ne]
    intro e; subst e
    exact h (ha.1.symm.trans hb.1)
end Go.Proofs.YtbfjkhafdkhhmaaDoor

namespace Go.Proofs.YtbfjkhafdkhhmaaDoor
open Go.ChangeShapes Go.WideShapes Go.ChangeAt Go.RowKit Go.Deep
set_option linter.unusedVariables false
set_option linter.unusedSimpArgs false

/-- Bytes as the cells of an array. -/
def arr (l : List Int) : Array Value := (u8s l).toArray
theorem arr_size (l : List Int) : (arr l).size = l.length := by simp [arr, u8s]
theorem arr_at (l : List Int) (j : Nat) (h : j < l.length) : (arr l)[j]? = some (.int .u8 (l.getD j 0)) := by simp [arr, u8s, h]
theorem arr_one (l : List Int) : (arr l).all (·.oneCell') = true := by simp [arr, u8s, Value.oneCell']
/-- An address. -/
def Adr (l : List Int) : Prop := l.length = 16 ∧ Oct l
def zeros : List Int := List.replicate 16 0
theorem adr_zeros : Adr zeros := ⟨rfl, by intro x hx; simp only [zeros, List.mem_replicate] at hx; omega⟩
/-- A block of cells that is not frozen. -/
def Row (w : World) (b : Nat) (t : TypeId) (c : Array Value) : Prop := w.heap[b]? = some (.cells c t (0, 0))
theorem Row.cell {w : World} {b : Nat} {t : TypeId} {c : Array Value} (h : Row w b t c) (j : Nat) : w.cell? ⟨b, j, none⟩ = c[j]? := cell_of_row w b j c t (0, 0) h
theorem Row.frozen {w : World} {b : Nat} {t : TypeId} {c : Array Value} (h : Row w b t c) (j : Nat) : w.frozen? ⟨b, j, none⟩ = false := frozen_of_row w b j c t h
theorem Row.lt {w : World} {b : Nat} {t : TypeId} {c : Array Value} (h : Row w b t c) : b < w.heap.size := (Array.getElem?_eq_some_iff.1 h).1
theorem Row.new (w : World) (t : TypeId) (c : Array Value) : Row (w.alloc (.cells c t)) w.heap.size t c := Go.heap_alloc_new w _
theorem Row.alloc {w : World} {b : Nat} {t : TypeId} {c : Array Value} (h : Row w b t c) (o : Obj) : Row (w.alloc o) b t c := (Below.heap_alloc w o b h.lt).trans h
theorem Row.drewN {w : World} {b : Nat} {t : TypeId} {c : Array Value} (h : Row w b t c) (q : Nat) : Row (w.drewN q) b t c := h
theorem Row.below {w w' : World} {b : Nat} {t : TypeId} {c : Array Value} (h : Row w b t c) (hb : Below w.heap.size w w') : Row w' b t c := (hb.block b h.lt).trans h
theorem Row.set {w : World} {b : Nat} {t : TypeId} {c : Array Value} (h : Row w b t c) (j : Nat) (v : Value) : Row (w.setCell ⟨b, j, none⟩ v) b t (c.setIfInBounds j v) := Go.heap_setCell_same w b j c t v h
theorem Row.other {w : World} {b : Nat} {t : TypeId} {c : Array Value} (h : Row w b t c) (a : Addr) (v : Value) (hb : b ≠ a.block) : Row (w.setCell a v) b t c := (Go.heap_setCell_other w a b v hb).trans h
theorem Row.setRow {w : World} {b : Nat} {t : TypeId} {c : Array Value} (h : Row w b t c) (c' : Array Value) : Row (w.setRow b c') b t c' := setRow_heap w b c c' t (0, 0) h
theorem Row.rowOther {w : World} {b : Nat} {t : TypeId} {c : Array Value} (h : Row w b t c) (g : Nat) (c' : Array Value) (hb : b ≠ g) : Row (w.setRow g c') b t c := (setRow_other w g b c' hb).trans h
theorem Row.kept {w w' : World} {b : Nat} {t : TypeId} {c : Array Value} (h : Row w b t c) {o : Option Nat} (hg : w.grownBy w' o) (hb : some b ≠ o) : Row w' b t c := (hg.block b h.lt hb).trans h
theorem below_setRow' {B : Nat} {a w : World} (h : Below B a w) {g : Nat} (hg : B ≤ g) (c : Array Value) : Below B a (w.setRow g c) :=
  ⟨h.os, h.tape, h.output, by rw [setRow_size]; exact h.size, fun k hk => (setRow_other w g k c (by omega)).trans (h.block k hk)⟩
/-- Cells from a place on. -/
def Part (w : World) (b off : Nat) (c : Array Value) : Prop := ∀ j v, c[j]? = some v → w.cell? ⟨b, off + j, none⟩ = some v
theorem Row.part {w : World} {b : Nat} {t : TypeId} {c : Array Value} (h : Row w b t c) : Part w b 0 c := fun j v hv => by rw [Nat.zero_add, h.cell]; exact hv
/-- An array in the middle of a header, as a slice. -/
theorem part_lies {w : World} {b off : Nat} {l : List Int} (hl : Adr l) (h : Part w b off (arr l)) : Lies .u8 w (some ⟨b, off, none⟩) 16 16 l := by
  refine ⟨hl.1, Nat.le_refl _, by decide, (fun h => by cases h), fun k hk => ⟨b, off, rfl, ?_⟩⟩
  exact h k _ (arr_at l k (by rw [hl.1]; exact hk))
theorem run_loadVar_part {P : Program} (w : World) (g off : Nat) (ty : TypeId) (cs : Array Value) (d : TypeDesc) (hg : Part w g off cs)
    (hu : P.underlying ty = some d) (hd : (match d with | .struct _ | .array _ _ => true | _ => false) = true) (hi : (P.info? ty).map (·.size) = some cs.size) :
    (loadVar ty ⟨g, off, none⟩).run P w = .ok (.agg cs) w := by
  have hl : (loadCells ⟨g, off, none⟩ cs.toList.length).run P w = .ok cs.toList.toArray w :=
    run_loadCells_list (P := P) w ⟨g, off, none⟩ cs.toList (fun j v hv => by
      have hadd : (⟨g, off, none⟩ : Addr).add j = ⟨g, off + j, none⟩ := by unfold Addr.add; split <;> simp_all
      rw [hadd]
      exact hg j v (by simpa using hv))
  cases hq : P.info? ty with
  | none => simp [hq] at hi
  | some i =>
    have hs : i.size = cs.size := by simpa [hq] using hi
    have hagg : (isAgg ty).run P w = .ok true w := by
      unfold isAgg
      rw [Sem.run_bind, run_underlying hu w]
      cases d <;> simp_all
    simp only [Array.length_toList, Array.toArray_toList] at hl
    simp [loadVar, Sem.run_bind, hagg, sizeOf, typeInfo, hq, hs, hl]
/-- A load of a whole array or struct, guarded or not. -/
theorem wp_ld {P : Program} {ops : Array Oper} {rest : List Oper} {o : Oper} {a : Act} {w : World} {Q : Exit → Act → World → Prop} (ty : TypeId) (x : Operand) (ho : o.op = .load ty x)
    (hw : Region.wanted o (yielded ops a.tmps) = true) (g off : Nat) (hx : a.eval x = .pointer (some ⟨g, off, none⟩)) (cs : Array Value) (d : TypeDesc)
    (hu : P.underlying ty = some d) (hd : (match d with | .struct _ | .array _ _ => true | _ => false) = true) (hi : (P.info? ty).map (·.size) = some cs.size) (hg : Part w g off cs)
    (h : wpList P ops Q rest (a.put o.dst (.agg cs)) w) : wpList P ops Q (o :: rest) a w :=
  wpList_step fun K hK => by
    rw [if_pos hw]
    unfold Oper.wp execOp
    simp only [ho, hx, Instr.loadAt, Instr.sureAddr, Sem.run_bind, Sem.run_pure, Result.andThen_ok, run_loadVar_part w g off ty cs d hg hu hd hi]
    exact hK _ _ h
/-- A store of a whole array or struct. -/
theorem wp_st {P : Program} {ops : Array Oper} {rest : List Oper} {o : Oper} {a : Act} {w : World} {Q : Exit → Act → World → Prop} (ty : TypeId) (x y : Operand) (ho : o.op = .store ty x y)
    (hgd : o.guard = none) (g : Nat) (cells : Array Value) (hx : a.eval x = .pointer (some ⟨g, 0, none⟩)) (hy : a.eval y = .agg cells)
    (hi : (P.info? ty).map (·.size) = some cells.size) (h1 : cells.all (·.oneCell') = true) (t : TypeId) (old : Array Value) (hold : old.size = cells.size) (hg : Row w g t old)
    (h : wpList P ops Q rest (a.put o.dst undef) (w.setRow g cells)) : wpList P ops Q (o :: rest) a w :=
  wpList_store_row hgd ty x y ho g cells hx hy t old hg hi hold h1 h
theorem wp_bd {P : Program} {ops : Array Oper} {rest : List Oper} {o : Oper} {a : Act} {w : World} {Q : Exit → Act → World → Prop} (t : TypeId) (parts : Array (Nat × Operand)) (ho : o.op = .build t parts) (hg : o.guard = none)
    (cs : Array Value) (hf : P.built t (parts.map fun (i, x) => (i, a.eval x)).toList = some cs)
    (h : wpList P ops Q rest (a.put o.dst (.agg cs)) w) : wpList P ops Q (o :: rest) a w :=
  wpList_build hg t parts ho (by rw [hf]; rfl) (by rw [hf]; exact h)
theorem yields_ld {P : Program} {ops : Array Oper} {S : World → Prop} {op : Oper} {a : Act} (hw : Region.wanted op (yielded ops a.tmps) = true) (ty : TypeId) (x : Operand) (ho : op.op = .load ty x)
    (g : Nat) (hx : a.eval x = .pointer (some ⟨g, 0, none⟩)) (cs : Array Value) (d : TypeDesc) (hS : ∀ w, S w → Part w g 0 cs)
    (hu : P.underlying ty = some d) (hd : (match d with | .struct _ | .array _ _ => true | _ => false) = true) (hi : (P.info? ty).map (·.size) = some cs.size) : YieldsIf P ops S op (.agg cs) a :=
  .inl ⟨hw, fun w hw' => by
    unfold execOp
    simp only [ho, hx, Instr.loadAt, Instr.sureAddr, Sem.run_bind, Sem.run_pure, Result.andThen_ok, run_loadVar_part w g 0 ty cs d (hS w hw') hu hd hi]⟩
theorem step_st {P : Program} {ops : Array Oper} {o : Oper} {a : Act} {w : World} {K : Act → World → Prop} {Q : Exit → Act → World → Prop} {E : Prop} (hgd : o.guard = none) (ty : TypeId) (x y : Operand) (ho : o.op = .store ty x y)
    (g : Nat) (cells : Array Value) (hx : a.eval x = .pointer (some ⟨g, 0, none⟩)) (hy : a.eval y = .agg cells) (t : TypeId) (old : Array Value) (hg : Row w g t old) (hi : (P.info? ty).map (·.size) = some cells.size)
    (hold : old.size = cells.size) (h1 : cells.all (·.oneCell') = true) (h : K (a.put o.dst undef) (w.setRow g cells)) :
    if Region.wanted o (yielded ops a.tmps) = true then Oper.wp P o a w K Q else E := by
  rw [if_pos (by simp [Region.wanted, hgd])]
  exact wp_store_row ty x y ho g cells hx hy t old hg hi hold h1 h
theorem w64 (n : Int) (h0 : 0 ≤ n) (h1 : n < 2 ^ 62) : IntKind.i64.wrap n = n := wraps_i64 n h0 h1
theorem u8s_len (l : List Int) : (u8s l).length = l.length := by simp [u8s]
theorem num_bd (l : List Int) (h : Oct l) (n : Nat) (b : Int) (hn : l.length = n) (hb : (256 : Int) ^ n = b) : 0 ≤ numOf l ∧ numOf l < b := by
  have := numOf_bd l h l.length (Nat.le_refl _)
  rw [List.take_of_length_le (Nat.le_refl _), hn, hb] at this
  exact this
theorem bset {w w1 : World} {B g : Nat} (j : Nat) (v : Value) (h : Below B w w1) (hg : B ≤ g) : Below B w (w1.setCell ⟨g, j, none⟩ v) := Below.setCell h (p := ⟨g, j, none⟩) hg v
theorem rd_ok {size n : Int} {left : Nat} (hz : sizeB size = true) (hn : 0 ≤ n) (h : size * n ≤ left) : rdE size n left 0 = 0 ∧ rdN size n left 0 = (size * n).toNat := by
  have hE : rdE size n left 0 = 0 := by
    unfold rdE
    rw [if_pos rfl, if_neg (by rw [hz]; simp; omega), if_neg (by omega)]
  exact ⟨hE, by rw [rdN, if_pos hE]⟩
theorem take_ok (w : World) (c : Nat) (a : Option Addr) (len cap at_ : Nat) (l : List Int) (size : Int) (sz : Nat) (h : CurAt w c a len cap l at_ 0) (hs : size = sz) (hz : sizeB size = true) (hle : at_ + sz ≤ len) :
    Calls Tryd.prog 82 #[.pointer (some ⟨c, 0, none⟩), .int .i64 size] w fun e w' => e = .returned (.int .i64 (numOf ((l.drop at_).take sz))) ∧
      CurAt w' c a len cap l (at_ + sz) 0 ∧ w.grownBy w' (some c) ∧ w'.heap.size = w.heap.size := by
  obtain ⟨h1, h2⟩ := rd_ok (size := size) (n := 1) (left := len - at_) hz (by omega) (by omega)
  have h3 : rdN size 1 (len - at_) 0 = sz := by rw [h2]; omega
  refine (take_any w c a len cap at_ l 0 size h).mono ?_
  rintro e w' ⟨rfl, hc, hg, hz'⟩
  rw [h1, h3] at hc
  exact ⟨by rw [takeV, h3], hc, hg, hz'⟩
theorem bytes_ok (w : World) (c : Nat) (a : Option Addr) (len cap at_ : Nat) (l : List Int) (n : Int) (m : Nat) (h : CurAt w c a len cap l at_ 0) (hn : n = m) (hle : at_ + m ≤ len) :
    Calls Tryd.prog 84 #[.pointer (some ⟨c, 0, none⟩), .int .i64 n] w fun e w' => ∃ v, e = .returned v ∧ w'.ownsRow w.heap.size 5 1 v m (u8s ((l.drop at_).take m)) ∧
      CurAt w' c a len cap l (at_ + m) 0 ∧ w.grownBy w' (some c) := by
  obtain ⟨h1, h2⟩ := rd_ok (size := 1) (n := n) (left := len - at_) (by decide) (by omega) (by omega)
  have h3 : rdN 1 n (len - at_) 0 = m := by rw [h2]; omega
  refine (bytes_any w c a len cap at_ l 0 n h).mono ?_
  rintro e w' ⟨v, rfl, ho, hc, hg⟩
  rw [h1, h3] at hc
  rw [h3] at ho
  exact ⟨v, rfl, ho, hc, hg⟩
theorem grown_then {w w1 w2 : World} {c : Option Nat} (h : w.grownBy w1 c) (hb : Below w.heap.size w1 w2) : w.grownBy w2 c :=
  ⟨hb.os.trans h.os, hb.tape.trans h.tape, hb.output.trans h.output, Nat.le_trans h.size hb.size, fun k hk hne => (hb.block k hk).trans (h.block k hk hne)⟩
theorem CurAt.own {w w1 w2 : World} {c : Nat} {a : Option Addr} {len cap : Nat} {l : List Int} {at0 at_ : Nat} {er0 er : Int} (h0 : CurAt w c a len cap l at0 er0) (h1 : CurAt w1 c a len cap l at_ er) (hg : w.grownBy w1 (some c)) (hb : Below w.heap.size w1 w2) :
    CurAt w2 c a len cap l at_ er := ⟨(hb.block c h0.lt).trans h1.block, h0.lies.grown h0.noU8 (grown_then hg hb), h1.oct, h1.le, h1.small⟩
theorem grownBy_setRow (w : World) (g : Nat) (cs : Array Value) : w.grownBy (w.setRow g cs) (some g) :=
  ⟨rfl, rfl, rfl, by rw [setRow_size]; exact Nat.le_refl _, fun k _ hne => setRow_other w g k cs (fun e => hne (by rw [e]))⟩
theorem own_mono {w : World} {b b' : Nat} {e : TypeId} {size : Nat} {v : Value} {n : Nat} {xs : List Value} (h : w.ownsRow b e size v n xs) (hb : b' ≤ b) : w.ownsRow b' e size v n xs := by
  obtain ⟨h1, h2 | ⟨g, cap, cur, h3, h4, h5⟩⟩ := h
  · exact ⟨h1, .inl h2⟩
  · exact ⟨h1, .inr ⟨g, cap, cur, h3, Nat.le_trans hb h4, h5⟩⟩
theorem own_row {w : World} {base g : Nat} {e t : TypeId} {size : Nat} {v : Value} {n : Nat} {xs : List Value} {c : Array Value} (h : w.ownsRow base e size v n xs) (hr : Row w g t c) (hne : e ≠ t) : v.ownBlock ≠ some g := by
  rcases h.2 with ⟨rfl, _⟩ | ⟨g', cap, cur, rfl, _, hg, _⟩
  · simp [Value.ownBlock]
  · simp only [Value.ownBlock]
    intro he
    obtain rfl := Option.some.inj he
    rw [hr] at hg
    simp at hg
    exact hne hg.2.symm
/-- Rows of different kinds lie apart. -/
theorem own_apart {w : World} {base base' : Nat} {e e' : TypeId} {size size' : Nat} {v v' : Value} {n n' : Nat} {xs xs' : List Value} (h : w.ownsRow base e size v n xs) (h' : w.ownsRow base' e' size' v' n' xs') (hne : e ≠ e') : v.ownBlock = none ∨ v.ownBlock ≠ v'.ownBlock := by
  rcases h.2 with ⟨rfl, _⟩ | ⟨g, cap, cur, rfl, _, hg, _⟩
  · exact .inl rfl
  · refine .inr ?_
    rcases h'.2 with ⟨rfl, _⟩ | ⟨g', cap', cur', rfl, _, hg', _⟩
    · simp [Value.ownBlock]
    · simp only [Value.ownBlock]
      intro he
      obtain rfl := Option.some.inj he
      rw [hg] at hg'
      simp at hg'
      exact hne hg'.2
theorem own_below {w w' : World} {b : Nat} {e : TypeId} {size : Nat} {v : Value} {n : Nat} {xs : List Value} (h : w.ownsRow b e size v n xs) (hb : Below w.heap.size w w') : w'.ownsRow b e size v n xs :=
  h.kept (row := none) ⟨hb.os, hb.tape, hb.output, hb.size, fun k hk _ => hb.block k hk⟩ (by cases hv : v.ownBlock <;> simp)
theorem own_setRow {w : World} {b g : Nat} {e : TypeId} {size : Nat} {v : Value} {n : Nat} {xs : List Value} {cs : Array Value} (h : w.ownsRow b e size v n xs) (hg : g < b) : (w.setRow g cs).ownsRow b e size v n xs :=
  h.kept (grownBy_setRow w g cs) (by
    rcases h.2 with ⟨rfl, _⟩ | ⟨g', cap, cur, rfl, hb, _⟩
    · exact .inl rfl
    · refine .inr ?_
      simp only [Value.ownBlock]
      intro e
      have := Option.some.inj e
      omega)
/-- An append onto a row of the call's own, from wherever: what it writes. -/
theorem wpList_append_own_by {P : Program} (w : World) {ops : Array Oper} {rest : List Oper} {o : Oper} {a : Act} {Q : Exit → Act → World → Prop} (hgd : o.guard = none) (s x : Operand) (t : TypeId)
    (ho : o.op = .call { callee := .builtin .append, args := #[s, x], argTypes := #[t, t] })
    (base : Nat) (e : TypeId) (i : TypeInfo) (z : Value) (size bytes : Nat) (ht : P.underlying t = some (.slice e)) (hi : P.info? e = some i) (hz : i.zero = some z)
    (hsize : i.size = size) (hby : i.bytes = bytes) (hzs : z.cells.size = size) (hsz : 0 < size)
    (v : Value) (n : Nat) (xs : List Value) (hs : a.eval s = v) (hown : w.ownsRow base e size v n xs)
    (ao : Option Addr) (m c : Nat) (news : List Value) (hx : a.eval x = .slice ao m c) (hl : news.length = m * size) (hnone : ao = none → m = 0 ∧ c = 0) (hnews : ∀ ad, ao = some ad → ∀ j u, news[j]? = some u → w.cell? (ad.add j) = some u) (h1 : ∀ u ∈ news, u.oneCell' = true)
    (h63 : n + m ≤ maxLen) (hbytes : (n + m) * bytes ≤ 140737488355328) (hbase : base ≤ w.heap.size)
    (h : ∀ v' w', w'.ownsRow base e size v' (n + m) (xs ++ news) → w.grownBy w' v.ownBlock → wpList P ops Q rest (a.put o.dst v') w') : wpList P ops Q (o :: rest) a w := by
  cases ao with
  | some ad =>
    refine wpList_append_own w hgd s x t ho base e i z size bytes ht hi hz hsize hby hzs hsz v n xs hs hown ad m c news hx hl (hnews ad rfl) h1 h63 hbytes hbase ?_
    intro v' w' h2 h3 _
    exact h v' w' h2 h3
  | none =>
    obtain ⟨rfl, rfl⟩ := hnone rfl
    have hn : news = [] := List.eq_nil_of_length_eq_zero (by simpa using hl)
    subst hn
    refine wpList_append_own_none hgd s x t ho base e i size ht hi v n xs hs hown hx ?_
    exact h v w (by simpa using hown) (World.grownBy.refl _ _)
theorem bown {w w1 w2 : World} {e : TypeId} {size : Nat} {v : Value} {n : Nat} {xs : List Value} (h : Below w.heap.size w w1) (ho : w1.ownsRow w.heap.size e size v n xs) (k : w1.grownBy w2 v.ownBlock) : Below w.heap.size w w2 :=
  Below.grown h k h.size (fun j hj => (ho.lt j hj).1)
/-- Numbers as cells. -/
def nArr (l : List Int) : Array Value := (l.map (Value.int .i64)).toArray
theorem nArr_at (l : List Int) (j : Nat) (h : j < l.length) : (nArr l)[j]? = some (.int .i64 (l.getD j 0)) := by simp [nArr, h]
theorem oct_take {l : List Int} (h : Oct l) (n : Nat) : Oct (l.take n) := fun x hx => h x (List.mem_of_mem_take hx)
theorem wf_u8 {n : Int} (h : (Lit.int .u8 n).wf = true) : 0 ≤ n ∧ n < 256 := by
  simp [Lit.wf, IntKind.min, IntKind.max, IntKind.bits, IntKind.signed] at h; omega
theorem IsRow.oct {w : World} {a : Option Addr} {len cap : Nat} {zs : List Int} (h : IsRow .u8 w a len cap zs) : Oct zs := fun x hx => wf_u8 (h.wf x hx)
theorem c5 : Tryd.prog.cellsOf 5 = 1 := by kernel_rfl
/-- A text in memory: a slice, and its bytes. -/
structure Txt where
  a : Option Addr
  n : Nat
  cap : Nat
  l : List Int
def Txt.v (t : Txt) : Value := .slice t.a t.n t.cap
def Txt.none : Txt := ⟨.none, 0, 0, []⟩
def Txt.ok (w : World) (t : Txt) : Prop := Lies .u8 w t.a t.n t.cap t.l ∧ Oct t.l
def bytes (L : List Txt) : List Int := L.flatMap (·.l)
/-- A slice of texts. -/
def Texts (w : World) (a : Option Addr) (n cap : Nat) (L : List Txt) : Prop :=
  L.length = n ∧ n ≤ cap ∧ cap ≤ maxLen ∧ (∀ k, k < n → ∃ b off, a = some ⟨b, off, .none⟩ ∧ w.cell? ⟨b, off + k, .none⟩ = some (L.getD k Txt.none).v) ∧ ∀ t ∈ L, t.ok w
theorem Txt.ok.below {w w' : World} {t : Txt} (h : t.ok w) (hb : Below w.heap.size w w') : t.ok w' := ⟨h.1.below hb, h.2⟩
theorem Texts.below {w w' : World} {a : Option Addr} {n cap : Nat} {L : List Txt} (h : Texts w a n cap L) (hb : Below w.heap.size w w') : Texts w' a n cap L := by
  refine ⟨h.1, h.2.1, h.2.2.1, fun k hk => ?_, fun t ht => (h.2.2.2.2 t ht).below hb⟩
  obtain ⟨b, off, he, hc⟩ := h.2.2.2.1 k hk
  exact ⟨b, off, he, (hb.cell (p := ⟨b, off + k, none⟩) (World.block_lt_of_cell? w _ hc)).trans hc⟩
theorem bytes_snoc (L : List Txt) (k : Nat) (h : k < L.length) : bytes (L.take (k + 1)) = bytes (L.take k) ++ (L.getD k Txt.none).l := by
  rw [bytes, bytes, List.take_succ_eq_append_getElem h, List.flatMap_append]; congr 1; simp [h]
theorem bytes_take_le (L : List Txt) (k : Nat) : (bytes (L.take k)).length ≤ (bytes L).length := by
  have : bytes L = bytes (L.take k) ++ bytes (L.drop k) := by rw [bytes, bytes, bytes, ← List.flatMap_append, List.take_append_drop]
  rw [this, List.length_append]; omega
theorem bytes_app (S T : List Txt) : bytes (S ++ T) = bytes S ++ bytes T := List.flatMap_append
theorem bytes_oct {w : World} {L : List Txt} (h : ∀ t ∈ L, t.ok w) : Oct (bytes L) := by
  intro x hx
  simp [bytes, List.mem_flatMap] at hx
  obtain ⟨t, ht, hx⟩ := hx
  exact (h t ht).2 x hx
/-- One text in a slice of its own. -/
theorem texts_one (w : World) (t : Txt) (h : t.ok w) : Texts (w.alloc (.cells #[t.v] 33)) (some ⟨w.heap.size, 0, none⟩) 1 1 [t] := by
  refine ⟨rfl, Nat.le_refl _, by decide, fun k hk => ⟨w.heap.size, 0, rfl, ?_⟩, ?_⟩
  · obtain rfl : k = 0 := by omega
    have := World.news_of_block (heap_alloc_new w (.cells #[t.v] 33)) 0 t.v rfl
    rwa [Addr.add_lit] at this
  · intro t' ht
    simp at ht; subst ht
    exact h.below ((Below.refl _ _).alloc (Nat.le_refl _) _)
theorem texts_nil (w : World) : Texts w none 0 0 [] := ⟨rfl, Nat.le_refl _, by decide, fun k hk => by omega, fun t ht => by cases ht⟩
theorem infoBs : (Tryd.prog.info? 33).map (fun i => (i.zero, i.size, i.bytes)) = some (some (.slice none 0 0), 1, 24) := by kernel_rfl
theorem cellsBs : Tryd.prog.cellsOf 33 = 1 := by kernel_rfl
/-- A row of texts of the call's own. -/
theorem owns_texts {w : World} {base : Nat} {v : Value} {T : List Txt} (h : w.ownsRow base 33 1 v T.length (T.map Txt.v)) (hok : ∀ t ∈ T, t.ok w) : ∃ a cap, v = .slice a T.length cap ∧ Texts w a T.length cap T := by
  rcases h.2 with ⟨rfl, hn⟩ | ⟨g, cap, cur, rfl, hb, hg, hnc, hcm, hcs, hx⟩
  · exact ⟨none, 0, by rw [hn], rfl, by omega, by decide, fun k hk => by omega, hok⟩
  · refine ⟨_, cap, rfl, rfl, hnc, hcm, fun k hk => ⟨g, 0, rfl, ?_⟩, hok⟩
    rw [Nat.zero_add, cell_of_row w g k cur 33 (0, 0) hg]
    have h1 : (cur.toList.take (T.length * 1))[k]? = (T.map Txt.v)[k]? := by rw [hx]
    rw [List.getElem?_take, if_pos (by omega)] at h1
    simp [hk] at h1
    simp [h1, hk]
def TextsIn (w : World) (a : Option Addr) (len cap : Nat) : Prop := ∃ L, Texts w a len cap L
end Go.Proofs.YtbfjkhafdkhhmaaDoor

namespace Go.Proofs.YtbfjkhafdkhhmaaDoor
open Go.ChangeShapes Go.WideShapes Go.ChangeAt Go.RowKit Go.Deep
set_option linter.unusedVariables false
set_option linter.unusedSimpArgs false

/-- An option. -/
structure Po where
  k : Int
  n : List Int
  ad : List Int
  t : List Int
/-- An option as it lies. -/
structure Ov where
  k : Int
  n : Txt
  ad : List Int
  t : Txt
def Ov.p (o : Ov) : Po := ⟨o.k, o.n.l, o.ad, o.t.l⟩
/-- Its cells. -/
def Ov.cs (o : Ov) : Array Value := #[.int .i64 o.k, o.n.v] ++ (arr o.ad ++ #[o.t.v])
structure Ov.ok (w : World) (o : Ov) : Prop where
  n : Lies .i64 w o.n.a o.n.n o.n.cap o.n.l
  ad : Adr o.ad
  t : Lies .u8 w o.t.a o.t.n o.t.cap o.t.l
  oct : Oct o.t.l
def Ov.zero : Ov := ⟨0, Txt.none, zeros, Txt.none⟩
theorem Ov.zero_ok (w : World) : Ov.zero.ok w := ⟨Lies.nil _ _, adr_zeros, Lies.nil _ _, fun x hx => by cases hx⟩
theorem Ov.ok.below {w w' : World} {o : Ov} (h : o.ok w) (hb : Below w.heap.size w w') : o.ok w' := ⟨h.n.below hb, h.ad, h.t.below hb, h.oct⟩
theorem Ov.ok.drewN {w : World} {o : Ov} (h : o.ok w) (q : Nat) : o.ok (w.drewN q) := ⟨h.n, h.ad, h.t, h.oct⟩
theorem Ov.size {o : Ov} (h : Adr o.ad) : o.cs.size = 19 := by simp [Ov.cs, arr_size, h.1]
theorem Txt.v_one (t : Txt) : t.v.oneCell' = true := rfl
theorem Ov.one (o : Ov) : o.cs.all (·.oneCell') = true := by simp [Ov.cs, Array.all_append, arr, u8s, Value.oneCell', Txt.v]
theorem Ov.at0 (o : Ov) : o.cs[0]? = some (.int .i64 o.k) := by simp [Ov.cs, Array.getElem?_append]
theorem Ov.at1 (o : Ov) : o.cs[1]? = some (.slice o.n.a o.n.n o.n.cap) := by simp [Ov.cs, Array.getElem?_append, Txt.v]
theorem Ov.atA {o : Ov} (h : Adr o.ad) (j : Nat) (hj : j < 16) : o.cs[2 + j]? = some (.int .u8 (o.ad.getD j 0)) := by
  rw [Ov.cs, Array.getElem?_append_right (by simp), show 2 + j - Array.size #[Value.int .i64 o.k, o.n.v] = j by simp, Array.getElem?_append_left (by rw [arr_size, h.1]; exact hj), arr_at _ _ (by rw [h.1]; exact hj)]
theorem Ov.at18 {o : Ov} (h : Adr o.ad) : o.cs[18]? = some (.slice o.t.a o.t.n o.t.cap) := by
  rw [Ov.cs, Array.getElem?_append_right (by simp), Array.getElem?_append_right (by rw [arr_size, h.1]; simp), arr_size, h.1]; rfl
theorem Part.ovA {w : World} {b off : Nat} {o : Ov} (h : Adr o.ad) (r : Part w b off o.cs) : Part w b (off + 2) (arr o.ad) := fun j v hv => by
  have hj : j < 16 := by have := (Array.getElem?_eq_some_iff.1 hv).1; rw [arr_size, h.1] at this; exact this
  rw [Nat.add_assoc]
  refine r (2 + j) v ?_
  rw [Ov.atA h j hj, ← hv, arr_at _ _ (by rw [h.1]; exact hj)]
/-- A type of options. -/
structure OTo (t : TypeId) : Prop where
  desc : ∃ fs, Tryd.prog.underlying t = some (.struct fs)
  info : (Tryd.prog.info? t).map (·.size) = some 19
  full : ∀ (o : Ov), o.ad.length = 16 → Tryd.prog.built t [(0, .int .i64 o.k), (1, o.n.v), (2, .agg (arr o.ad)), (3, o.t.v)] = some o.cs
  two : ∀ (k : Int) (v : Txt), Tryd.prog.built t [(0, .int .i64 k), (1, v.v)] = some (Ov.cs ⟨k, v, zeros, Txt.none⟩)
  kind : ∀ (k : Int), Tryd.prog.built t [(0, .int .i64 k)] = some (Ov.cs ⟨k, Txt.none, zeros, Txt.none⟩)
  bare : Tryd.prog.built t [] = some Ov.zero.cs
  zero : (Tryd.prog.info? t).map (fun i => (i.zero, i.size, i.bytes)) = some (some (.agg Ov.zero.cs), 19, 72)
theorem built43 (k : Int) (na : Option Addr) (nl nc : Nat) (l : List Int) (a0 a1 a2 a3 a4 a5 a6 a7 a8 a9 a10 a11 a12 a13 a14 a15 : Int) (ta : Option Addr) (tl tc : Nat) (m : List Int) : Tryd.prog.built 54 [(0, .int .i64 k), (1, Txt.v ⟨na, nl, nc, l⟩), (2, .agg (arr [a0, a1, a2, a3, a4, a5, a6, a7, a8, a9, a10, a11, a12, a13, a14, a15])), (3, Txt.v ⟨ta, tl, tc, m⟩)] =
    some (Ov.cs ⟨k, ⟨na, nl, nc, l⟩, [a0, a1, a2, a3, a4, a5, a6, a7, a8, a9, a10, a11, a12, a13, a14, a15], ⟨ta, tl, tc, m⟩⟩) := by kernel_rfl
theorem full43 (o : Ov) (h : o.ad.length = 16) : Tryd.prog.built 54 [(0, .int .i64 o.k), (1, o.n.v), (2, .agg (arr o.ad)), (3, o.t.v)] = some o.cs := by
  obtain ⟨k, ⟨na, nl, nc, l⟩, ad, ⟨ta, tl, tc, m⟩⟩ := o
  simp only at h
  match ad, h with
  | [a0, a1, a2, a3, a4, a5, a6, a7, a8, a9, a10, a11, a12, a13, a14, a15], _ => exact built43 k na nl nc l a0 a1 a2 a3 a4 a5 a6 a7 a8 a9 a10 a11 a12 a13 a14 a15 ta tl tc m
theorem built38 (k : Int) (na : Option Addr) (nl nc : Nat) (l : List Int) (a0 a1 a2 a3 a4 a5 a6 a7 a8 a9 a10 a11 a12 a13 a14 a15 : Int) (ta : Option Addr) (tl tc : Nat) (m : List Int) : Tryd.prog.built 57 [(0, .int .i64 k), (1, Txt.v ⟨na, nl, nc, l⟩), (2, .agg (arr [a0, a1, a2, a3, a4, a5, a6, a7, a8, a9, a10, a11, a12, a13, a14, a15])), (3, Txt.v ⟨ta, tl, tc, m⟩)] =
    some (Ov.cs ⟨k, ⟨na, nl, nc, l⟩, [a0, a1, a2, a3, a4, a5, a6, a7, a8, a9, a10, a11, a12, a13, a14, a15], ⟨ta, tl, tc, m⟩⟩) := by kernel_rfl
theorem full38 (o : Ov) (h : o.ad.length = 16) : Tryd.prog.built 57 [(0, .int .i64 o.k), (1, o.n.v), (2, .agg (arr o.ad)), (3, o.t.v)] = some o.cs := by
  obtain ⟨k, ⟨na, nl, nc, l⟩, ad, ⟨ta, tl, tc, m⟩⟩ := o
  simp only at h
  match ad, h with
  | [a0, a1, a2, a3, a4, a5, a6, a7, a8, a9, a10, a11, a12, a13, a14, a15], _ => exact built38 k na nl nc l a0 a1 a2 a3 a4 a5 a6 a7 a8 a9 a10 a11 a12 a13 a14 a15 ta tl tc m
theorem two43 (k : Int) (a : Option Addr) (n c : Nat) : Tryd.prog.built 54 [(0, .int .i64 k), (1, .slice a n c)] = some (Ov.cs ⟨k, ⟨a, n, c, []⟩, zeros, Txt.none⟩) := by kernel_rfl
theorem two38 (k : Int) (a : Option Addr) (n c : Nat) : Tryd.prog.built 57 [(0, .int .i64 k), (1, .slice a n c)] = some (Ov.cs ⟨k, ⟨a, n, c, []⟩, zeros, Txt.none⟩) := by kernel_rfl
theorem kind43 (k : Int) : Tryd.prog.built 54 [(0, .int .i64 k)] = some (Ov.cs ⟨k, Txt.none, zeros, Txt.none⟩) := by kernel_rfl
theorem kind38 (k : Int) : Tryd.prog.built 57 [(0, .int .i64 k)] = some (Ov.cs ⟨k, Txt.none, zeros, Txt.none⟩) := by kernel_rfl
theorem o43 : OTo 54 := ⟨⟨_, Tryd.underlying54⟩, by kernel_rfl, full43, fun k v => two43 k v.a v.n v.cap, kind43, by kernel_rfl, by kernel_rfl⟩
theorem o38 : OTo 57 := ⟨⟨_, Tryd.underlying57⟩, by kernel_rfl, full38, fun k v => two38 k v.a v.n v.cap, kind38, by kernel_rfl, by kernel_rfl⟩
theorem zov : (#[Value.int .i64 0, .slice none 0 0, .int .u8 0, .int .u8 0, .int .u8 0, .int .u8 0, .int .u8 0, .int .u8 0, .int .u8 0, .int .u8 0, .int .u8 0, .int .u8 0, .int .u8 0, .int .u8 0, .int .u8 0, .int .u8 0, .int .u8 0, .int .u8 0, .slice none 0 0] : Array Value) = Ov.zero.cs := rfl
theorem ldOo {ops : Array Oper} {rest : List Oper} {o : Oper} {a : Act} {w : World} {Q : Exit → Act → World → Prop} {t : TypeId} (ht : OTo t) (x : Operand) (ho : o.op = .load t x) (hw : Region.wanted o (yielded ops a.tmps) = true) (g off : Nat) (hx : a.eval x = .pointer (some ⟨g, off, none⟩)) (h : Ov) (hl : Adr h.ad) (hg : Part w g off h.cs)
    (hn : wpList Tryd.prog ops Q rest (a.put o.dst (.agg h.cs)) w) : wpList Tryd.prog ops Q (o :: rest) a w := by
  obtain ⟨fs, h1⟩ := ht.desc
  exact wp_ld t x ho hw g off hx h.cs _ h1 rfl (by rw [Ov.size hl]; exact ht.info) hg hn
theorem stOo {ops : Array Oper} {rest : List Oper} {o : Oper} {a : Act} {w : World} {Q : Exit → Act → World → Prop} {t : TypeId} (ht : OTo t) (x y : Operand) (ho : o.op = .store t x y) (hgd : o.guard = none) (g : Nat) (h : Ov) (hl : Adr h.ad) (hx : a.eval x = .pointer (some ⟨g, 0, none⟩)) (hy : a.eval y = .agg h.cs) (t' : TypeId) (old : Ov) (hlo : Adr old.ad) (hg : Row w g t' old.cs)
    (hn : wpList Tryd.prog ops Q rest (a.put o.dst undef) (w.setRow g h.cs)) : wpList Tryd.prog ops Q (o :: rest) a w :=
  wp_st t x y ho hgd g h.cs hx hy (by rw [Ov.size hl]; exact ht.info) h.one t' old.cs (by rw [Ov.size hl, Ov.size hlo]) hg hn
theorem bdOo {ops : Array Oper} {rest : List Oper} {o : Oper} {a : Act} {w : World} {Q : Exit → Act → World → Prop} {t : TypeId} (ht : OTo t) (x0 x1 x2 x3 : Operand) (ho : o.op = .build t #[(0, x0), (1, x1), (2, x2), (3, x3)]) (hg : o.guard = none)
    (h : Ov) (hl : Adr h.ad) (h0 : a.eval x0 = .int .i64 h.k) (h1 : a.eval x1 = h.n.v) (h2 : a.eval x2 = .agg (arr h.ad)) (h3 : a.eval x3 = h.t.v)
    (hn : wpList Tryd.prog ops Q rest (a.put o.dst (.agg h.cs)) w) : wpList Tryd.prog ops Q (o :: rest) a w :=
  wp_bd t _ ho hg h.cs (by simp only [List.map_toArray, List.map_cons, List.map_nil, h0, h1, h2, h3]; exact ht.full h hl.1) hn
theorem bdO2 {ops : Array Oper} {rest : List Oper} {o : Oper} {a : Act} {w : World} {Q : Exit → Act → World → Prop} {t : TypeId} (ht : OTo t) (x0 x1 : Operand) (ho : o.op = .build t #[(0, x0), (1, x1)]) (hg : o.guard = none)
    (k : Int) (v : Txt) (h0 : a.eval x0 = .int .i64 k) (h1 : a.eval x1 = v.v)
    (hn : wpList Tryd.prog ops Q rest (a.put o.dst (.agg (Ov.cs ⟨k, v, zeros, Txt.none⟩))) w) : wpList Tryd.prog ops Q (o :: rest) a w :=
  wp_bd t _ ho hg _ (by simp only [List.map_toArray, List.map_cons, List.map_nil, h0, h1]; exact ht.two k v) hn
theorem bdO1 {ops : Array Oper} {rest : List Oper} {o : Oper} {a : Act} {w : World} {Q : Exit → Act → World → Prop} {t : TypeId} (ht : OTo t) (x0 : Operand) (ho : o.op = .build t #[(0, x0)]) (hg : o.guard = none)
    (k : Int) (h0 : a.eval x0 = .int .i64 k)
    (hn : wpList Tryd.prog ops Q rest (a.put o.dst (.agg (Ov.cs ⟨k, Txt.none, zeros, Txt.none⟩))) w) : wpList Tryd.prog ops Q (o :: rest) a w :=
  wp_bd t _ ho hg _ (by simp only [List.map_toArray, List.map_cons, List.map_nil, h0]; exact ht.kind k) hn
theorem bdOzo {ops : Array Oper} {rest : List Oper} {o : Oper} {a : Act} {w : World} {Q : Exit → Act → World → Prop} {t : TypeId} (ht : OTo t) (ho : o.op = .build t #[]) (hg : o.guard = none)
    (hn : wpList Tryd.prog ops Q rest (a.put o.dst (.agg Ov.zero.cs)) w) : wpList Tryd.prog ops Q (o :: rest) a w :=
  wp_bd t _ ho hg Ov.zero.cs (by simp only [List.map_toArray, List.map_nil]; exact ht.bare) hn
/-- A slice of options. -/
structure Opts (w : World) (a : Option Addr) (n cap : Nat) (L : List Ov) : Prop where
  len : L.length = n
  le : n ≤ cap
  max : cap ≤ maxLen
  isNil : a = none → cap = 0
  cell : ∀ k, k < n → ∃ b off, a = some ⟨b, off, none⟩ ∧ Part w b (off + k * 19) (L.getD k Ov.zero).cs
  ok : ∀ o ∈ L, o.ok w
theorem Part.below {w w' : World} {b off : Nat} {c : Array Value} (h : Part w b off c) (hb : Below w.heap.size w w') : Part w' b off c := fun j v hv => by
  have := h j v hv
  exact (hb.cell (p := ⟨b, off + j, none⟩) (World.block_lt_of_cell? w _ this)).trans this
theorem Opts.below {w w' : World} {a : Option Addr} {n cap : Nat} {L : List Ov} (h : Opts w a n cap L) (hb : Below w.heap.size w w') : Opts w' a n cap L := by
  refine ⟨h.len, h.le, h.max, h.isNil, fun k hk => ?_, fun o ho => (h.ok o ho).below hb⟩
  obtain ⟨b, off, he, hc⟩ := h.cell k hk
  exact ⟨b, off, he, hc.below hb⟩
theorem Opts.none (w : World) : Opts w none 0 0 [] := ⟨rfl, Nat.le_refl _, by decide, fun _ => rfl, fun k hk => by omega, fun o ho => by cases ho⟩
theorem Opts.at {w : World} {a : Option Addr} {n cap : Nat} {L : List Ov} (h : Opts w a n cap L) (k : Nat) (hk : k < n) : (L.getD k Ov.zero).ok w := by
  refine h.ok _ ?_
  rw [List.getD_eq_getElem?_getD, List.getElem?_eq_getElem (by rw [h.len]; exact hk)]
  exact List.getElem_mem _
/-- The cells of options, one behind the other. -/
def ocs (L : List Ov) : List Value := L.flatMap (·.cs.toList)
theorem ocs_length {L : List Ov} (h : ∀ o ∈ L, Adr o.ad) : (ocs L).length = L.length * 19 := by
  induction L with
  | nil => rfl
  | cons o L ih =>
    have := Ov.size (h o (by simp))
    simp only [ocs, List.flatMap_cons, List.length_append, Array.length_toList, List.length_cons] at ih ⊢
    rw [ih (fun x hx => h x (by simp [hx])), this]; omega
theorem ocs_app (L M : List Ov) : ocs (L ++ M) = ocs L ++ ocs M := List.flatMap_append
theorem ocs_one (L : List Ov) : ∀ u ∈ ocs L, u.oneCell' = true := by
  intro u hu
  simp only [ocs, List.mem_flatMap, Array.mem_toList_iff] at hu
  obtain ⟨o, _, hu⟩ := hu
  have := o.one
  rw [Array.all_eq_true_iff_forall_mem] at this
  exact this u hu
theorem ocs_at {L : List Ov} (h : ∀ o ∈ L, Adr o.ad) (k : Nat) (hk : k < L.length) (j : Nat) (hj : j < 19) : (ocs L)[k * 19 + j]? = (L.getD k Ov.zero).cs[j]? := by
  induction L generalizing k with
  | nil => simp at hk
  | cons o L ih =>
    have hs := Ov.size (h o (by simp))
    have e : ocs (o :: L) = o.cs.toList ++ ocs L := by simp [ocs]
    rw [e]
    cases k with
    | zero =>
      rw [List.getElem?_append_left (by rw [Array.length_toList, hs]; omega)]
      simp
    | succ k =>
      rw [List.getElem?_append_right (by rw [Array.length_toList, hs]; omega), Array.length_toList, hs, show (k + 1) * 19 + j - 19 = k * 19 + j by omega, ih (fun x hx => h x (by simp [hx])) k (by simpa using hk)]
      simp
/-- A row of options of the call's own. -/
theorem owns_opts {w : World} {base : Nat} {e : TypeId} {v : Value} {L : List Ov} (h : w.ownsRow base e 19 v L.length (ocs L)) (hok : ∀ o ∈ L, o.ok w) : ∃ a cap, v = .slice a L.length cap ∧ Opts w a L.length cap L := by
  have had : ∀ o ∈ L, Adr o.ad := fun o ho => (hok o ho).ad
  rcases h.2 with ⟨rfl, hn⟩ | ⟨g, cap, cur, rfl, hb, hg, hnc, hcm, hcs, hx⟩
  · exact ⟨Option.none, 0, by rw [hn], rfl, by omega, by decide, fun _ => rfl, fun k hk => by omega, hok⟩
  · refine ⟨_, cap, rfl, rfl, hnc, hcm, (fun h => by cases h), fun k hk => ⟨g, 0, rfl, ?_⟩, hok⟩
    intro j u hu
    have hadk : Adr (L.getD k Ov.zero).ad := had _ (by rw [List.getD_eq_getElem?_getD, List.getElem?_eq_getElem hk]; exact List.getElem_mem _)
    have hj : j < 19 := by have := (Array.getElem?_eq_some_iff.1 hu).1; rw [Ov.size hadk] at this; exact this
    rw [Nat.zero_add, cell_of_row w g _ cur e (0, 0) hg]
    have h1 : (cur.toList.take (L.length * 19))[k * 19 + j]? = (ocs L)[k * 19 + j]? := by rw [hx]
    rw [ocs_at had k hk j hj, hu, List.getElem?_take, if_pos (by omega)] at h1
    simpa using h1
end Go.Proofs.YtbfjkhafdkhhmaaDoor
