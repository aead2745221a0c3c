/- Rows of cells, parts of rows, whole loads, stores and literals; rows of the call's own beside each other; texts; the cursor beside them. -/
import Derived.Test.YtbgogeojdibmkaaDoorPackAny
import Derived.Deep.WholeRow
import Derived.ChangeKeysEq
import Derived.Laws.StructEq
import Derived.Laws.ResultCell
import Derived.BigRegion
import Derived.Deep.CutRange
import Derived.Deep.RegionHeld3
import Derived.Deep.RegionWith
import Derived.Laws.CopyOwn
import Derived.Deep.Strs
import Derived.ChangeSame
namespace Go.Proofs.YtbgogeojdibmkaaDoor
open Go.ChangeShapes Go.WideShapes Go.ChangeAt Go.RowKit Go.Deep
set_option linter.unusedVariables false
set_option linter.unusedSimpArgs false

/-- Bytes as the cells of an array. -/
def arr (l : List Int) : Array Value := (u8s l).toArray
theorem arr_size (l : List Int) : (arr l).size = l.length := by simp [arr, u8s]
theorem arr_at (l : List Int) (j : Nat) (h : j < l.length) : (arr l)[j]? = some (.int .u8 (l.getD j 0)) := by simp [arr, u8s, h]
theorem arr_one (l : List Int) : (arr l).all (·.oneCell') = true := by simp [arr, u8s, Value.oneCell']
/-- An address. -/
def Adr (l : List Int) : Prop := l.length = 16 ∧ Oct l
def zeros : List Int := List.replicate 16 0
theorem adr_zeros : Adr zeros := ⟨rfl, by intro x hx; simp only [zeros, List.mem_replicate] at hx; omega⟩
/-- A block of cells that is not frozen. -/
def Row (w : World) (b : Nat) (t : TypeId) (c : Array Value) : Prop := w.heap[b]? = some (.cells c t (0, 0))
theorem Row.cell {w : World} {b : Nat} {t : TypeId} {c : Array Value} (h : Row w b t c) (j : Nat) : w.cell? ⟨b, j, none⟩ = c[j]? := cell_of_row w b j c t (0, 0) h
theorem Row.frozen {w : World} {b : Nat} {t : TypeId} {c : Array Value} (h : Row w b t c) (j : Nat) : w.frozen? ⟨b, j, none⟩ = false := frozen_of_row w b j c t h
theorem Row.lt {w : World} {b : Nat} {t : TypeId} {c : Array Value} (h : Row w b t c) : b < w.heap.size := (Array.getElem?_eq_some_iff.1 h).1
theorem Row.new (w : World) (t : TypeId) (c : Array Value) : Row (w.alloc (.cells c t)) w.heap.size t c := Go.heap_alloc_new w _
theorem Row.alloc {w : World} {b : Nat} {t : TypeId} {c : Array Value} (h : Row w b t c) (o : Obj) : Row (w.alloc o) b t c := (Below.heap_alloc w o b h.lt).trans h
theorem Row.drewN {w : World} {b : Nat} {t : TypeId} {c : Array Value} (h : Row w b t c) (q : Nat) : Row (w.drewN q) b t c := h
theorem Row.below {w w' : World} {b : Nat} {t : TypeId} {c : Array Value} (h : Row w b t c) (hb : Below w.heap.size w w') : Row w' b t c := (hb.block b h.lt).trans h
theorem Row.set {w : World} {b : Nat} {t : TypeId} {c : Array Value} (h : Row w b t c) (j : Nat) (v : Value) : Row (w.setCell ⟨b, j, none⟩ v) b t (c.setIfInBounds j v) := Go.heap_setCell_same w b j c t v h
theorem Row.other {w : World} {b : Nat} {t : TypeId} {c : Array Value} (h : Row w b t c) (a : Addr) (v : Value) (hb : b ≠ a.block) : Row (w.setCell a v) b t c := (Go.heap_setCell_other w a b v hb).trans h
theorem Row.setRow {w : World} {b : Nat} {t : TypeId} {c : Array Value} (h : Row w b t c) (c' : Array Value) : Row (w.setRow b c') b t c' := setRow_heap w b c c' t (0, 0) h
theorem Row.rowOther {w : World} {b : Nat} {t : TypeId} {c : Array Value} (h : Row w b t c) (g : Nat) (c' : Array Value) (hb : b ≠ g) : Row (w.setRow g c') b t c := (setRow_other w g b c' hb).trans h
theorem Row.kept {w w' : World} {b : Nat} {t : TypeId} {c : Array Value} (h : Row w b t c) {o : Option Nat} (hg : w.grownBy w' o) (hb : some b ≠ o) : Row w' b t c := (hg.block b h.lt hb).trans h
theorem below_setRow' {B : Nat} {a w : World} (h : Below B a w) {g : Nat} (hg : B ≤ g) (c : Array Value) : Below B a (w.setRow g c) :=
  ⟨h.os, h.tape, h.output, by rw [setRow_size]; exact h.size, fun k hk => (setRow_other w g k c (by omega)).trans (h.block k hk)⟩
/-- Cells from a place on. -/
def Part (w : World) (b off : Nat) (c : Array Value) : Prop := ∀ j v, c[j]? = some v → w.cell? ⟨b, off + j, none⟩ = some v
theorem Row.part {w : World} {b : Nat} {t : TypeId} {c : Array Value} (h : Row w b t c) : Part w b 0 c := fun j v hv => by rw [Nat.zero_add, h.cell]; exact hv
/-- An array in the middle of a header, as a slice. -/
theorem part_lies {w : World} {b off : Nat} {l : List Int} (hl : Adr l) (h : Part w b off (arr l)) : Lies .u8 w (some ⟨b, off, none⟩) 16 16 l := by
  refine ⟨hl.1, Nat.le_refl _, by decide, (fun h => by cases h), fun k hk => ⟨b, off, rfl, ?_⟩⟩
  exact h k _ (arr_at l k (by rw [hl.1]; exact hk))
theorem run_loadVar_part {P : Program} (w : World) (g off : Nat) (ty : TypeId) (cs : Array Value) (d : TypeDesc) (hg : Part w g off cs)
    (hu : P.underlying ty = some d) (hd : (match d with | .struct _ | .array _ _ => true | _ => false) = true) (hi : (P.info? ty).map (·.size) = some cs.size) :
    (loadVar ty ⟨g, off, none⟩).run P w = .ok (.agg cs) w := by
  have hl : (loadCells ⟨g, off, none⟩ cs.toList.length).run P w = .ok cs.toList.toArray w :=
    run_loadCells_list (P := P) w ⟨g, off, none⟩ cs.toList (fun j v hv => by
      have hadd : (⟨g, off, none⟩ : Addr).add j = ⟨g, off + j, none⟩ := by unfold Addr.add; split <;> simp_all
      rw [hadd]
      exact hg j v (by simpa using hv))
  cases hq : P.info? ty with
  | none => simp [hq] at hi
  | some i =>
    have hs : i.size = cs.size := by simpa [hq] using hi
    have hagg : (isAgg ty).run P w = .ok true w := by
      unfold isAgg
      rw [Sem.run_bind, run_underlying hu w]
      cases d <;> simp_all
    simp only [Array.length_toList, Array.toArray_toList] at hl
    simp [loadVar, Sem.run_bind, hagg, sizeOf, typeInfo, hq, hs, hl]
/-- A load of a whole array or struct, guarded or not. -/
theorem wp_ld {P : Program} {ops : Array Oper} {rest : List Oper} {o : Oper} {a : Act} {w : World} {Q : Exit → Act → World → Prop} (ty : TypeId) (x : Operand) (ho : o.op = .load ty x)
    (hw : Region.wanted o (yielded ops a.tmps) = true) (g off : Nat) (hx : a.eval x = .pointer (some ⟨g, off, none⟩)) (cs : Array Value) (d : TypeDesc)
    (hu : P.underlying ty = some d) (hd : (match d with | .struct _ | .array _ _ => true | _ => false) = true) (hi : (P.info? ty).map (·.size) = some cs.size) (hg : Part w g off cs)
    (h : wpList P ops Q rest (a.put o.dst (.agg cs)) w) : wpList P ops Q (o :: rest) a w :=
  wpList_step fun K hK => by
    rw [if_pos hw]
    unfold Oper.wp execOp
    simp only [ho, hx, Instr.loadAt, Instr.sureAddr, Sem.run_bind, Sem.run_pure, Result.andThen_ok, run_loadVar_part w g off ty cs d hg hu hd hi]
    exact hK _ _ h
/-- A store of a whole array or struct. -/
theorem wp_st {P : Program} {ops : Array Oper} {rest : List Oper} {o : Oper} {a : Act} {w : World} {Q : Exit → Act → World → Prop} (ty : TypeId) (x y : Operand) (ho : o.op = .store ty x y)
    (hgd : o.guard = none) (g : Nat) (cells : Array Value) (hx : a.eval x = .pointer (some ⟨g, 0, none⟩)) (hy : a.eval y = .agg cells)
    (hi : (P.info? ty).map (·.size) = some cells.size) (h1 : cells.all (·.oneCell') = true) (t : TypeId) (old : Array Value) (hold : old.size = cells.size) (hg : Row w g t old)
    (h : wpList P ops Q rest (a.put o.dst undef) (w.setRow g cells)) : wpList P ops Q (o :: rest) a w :=
  wpList_store_row hgd ty x y ho g cells hx hy t old hg hi hold h1 h
theorem wp_bd {P : Program} {ops : Array Oper} {rest : List Oper} {o : Oper} {a : Act} {w : World} {Q : Exit → Act → World → Prop} (t : TypeId) (parts : Array (Nat × Operand)) (ho : o.op = .build t parts) (hg : o.guard = none)
    (cs : Array Value) (hf : P.built t (parts.map fun (i, x) => (i, a.eval x)).toList = some cs)
    (h : wpList P ops Q rest (a.put o.dst (.agg cs)) w) : wpList P ops Q (o :: rest) a w :=
  wpList_build hg t parts ho (by rw [hf]; rfl) (by rw [hf]; exact h)
theorem yields_ld {P : Program} {ops : Array Oper} {S : World → Prop} {op : Oper} {a : Act} (hw : Region.wanted op (yielded ops a.tmps) = true) (ty : TypeId) (x : Operand) (ho : op.op = .load ty x)
    (g : Nat) (hx : a.eval x = .pointer (some ⟨g, 0, none⟩)) (cs : Array Value) (d : TypeDesc) (hS : ∀ w, S w → Part w g 0 cs)
    (hu : P.underlying ty = some d) (hd : (match d with | .struct _ | .array _ _ => true | _ => false) = true) (hi : (P.info? ty).map (·.size) = some cs.size) : YieldsIf P ops S op (.agg cs) a :=
  .inl ⟨hw, fun w hw' => by
    unfold execOp
    simp only [ho, hx, Instr.loadAt, Instr.sureAddr, Sem.run_bind, Sem.run_pure, Result.andThen_ok, run_loadVar_part w g 0 ty cs d (hS w hw') hu hd hi]⟩
theorem step_st {P : Program} {ops : Array Oper} {o : Oper} {a : Act} {w : World} {K : Act → World → Prop} {Q : Exit → Act → World → Prop} {E : Prop} (hgd : o.guard = none) (ty : TypeId) (x y : Operand) (ho : o.op = .store ty x y)
    (g : Nat) (cells : Array Value) (hx : a.eval x = .pointer (some ⟨g, 0, none⟩)) (hy : a.eval y = .agg cells) (t : TypeId) (old : Array Value) (hg : Row w g t old) (hi : (P.info? ty).map (·.size) = some cells.size)
    (hold : old.size = cells.size) (h1 : cells.all (·.oneCell') = true) (h : K (a.put o.dst undef) (w.setRow g cells)) :
    if Region.wanted o (yielded ops a.tmps) = true then Oper.wp P o a w K Q else E := by
  rw [if_pos (by simp [Region.wanted, hgd])]
  exact wp_store_row ty x y ho g cells hx hy t old hg hi hold h1 h
theorem w64 (n : Int) (h0 : 0 ≤ n) (h1 : n < 2 ^ 62) : IntKind.i64.wrap n = n := wraps_i64 n h0 h1
theorem u8s_len (l : List Int) : (u8s l).length = l.length := by simp [u8s]
theorem num_bd (l : List Int) (h : Oct l) (n : Nat) (b : Int) (hn : l.length = n) (hb : (256 : Int) ^ n = b) : 0 ≤ numOf l ∧ numOf l < b := by
  have := numOf_bd l h l.length (Nat.le_refl _)
  rw [List.take_of_length_le (Nat.le_refl _), hn, hb] at this
  exact this
theorem bset {w w1 : World} {B g : Nat} (j : Nat) (v : Value) (h : Below B w w1) (hg : B ≤ g) : Below B w (w1.setCell ⟨g, j, none⟩ v) := Below.setCell h (p := ⟨g, j, none⟩) hg v
theorem rd_ok {size n : Int} {left : Nat} (hz : sizeB size = true) (hn : 0 ≤ n) (h : size * n ≤ left) : rdE size n left 0 = 0 ∧ rdN size n left 0 = (size * n).toNat := by
  have hE : rdE size n left 0 = 0 := by
    unfold rdE
    rw [if_pos rfl, if_neg (by rw [hz]; simp; omega), if_neg (by omega)]
  exact ⟨hE, by rw [rdN, if_pos hE]⟩
theorem take_ok (w : World) (c : Nat) (a : Option Addr) (len cap at_ : Nat) (l : List Int) (size : Int) (sz : Nat) (h : CurAt w c a len cap l at_ 0) (hs : size = sz) (hz : sizeB size = true) (hle : at_ + sz ≤ len) :
    Calls Tryd.prog 51 #[.pointer (some ⟨c, 0, none⟩), .int .i64 size] w fun e w' => e = .returned (.int .i64 (numOf ((l.drop at_).take sz))) ∧
      CurAt w' c a len cap l (at_ + sz) 0 ∧ w.grownBy w' (some c) ∧ w'.heap.size = w.heap.size := by
  obtain ⟨h1, h2⟩ := rd_ok (size := size) (n := 1) (left := len - at_) hz (by omega) (by omega)
  have h3 : rdN size 1 (len - at_) 0 = sz := by rw [h2]; omega
  refine (take_any w c a len cap at_ l 0 size h).mono ?_
  rintro e w' ⟨rfl, hc, hg, hz'⟩
  rw [h1, h3] at hc
  exact ⟨by rw [takeV, h3], hc, hg, hz'⟩
theorem bytes_ok (w : World) (c : Nat) (a : Option Addr) (len cap at_ : Nat) (l : List Int) (n : Int) (m : Nat) (h : CurAt w c a len cap l at_ 0) (hn : n = m) (hle : at_ + m ≤ len) :
    Calls Tryd.prog 67 #[.pointer (some ⟨c, 0, none⟩), .int .i64 n] w fun e w' => ∃ v, e = .returned v ∧ w'.ownsRow w.heap.size 5 1 v m (u8s ((l.drop at_).take m)) ∧
      CurAt w' c a len cap l (at_ + m) 0 ∧ w.grownBy w' (some c) := by
  obtain ⟨h1, h2⟩ := rd_ok (size := 1) (n := n) (left := len - at_) (by decide) (by omega) (by omega)
  have h3 : rdN 1 n (len - at_) 0 = m := by rw [h2]; omega
  refine (bytes_any w c a len cap at_ l 0 n h).mono ?_
  rintro e w' ⟨v, rfl, ho, hc, hg⟩
  rw [h1, h3] at hc
  rw [h3] at ho
  exact ⟨v, rfl, ho, hc, hg⟩
theorem grown_then {w w1 w2 : World} {c : Option Nat} (h : w.grownBy w1 c) (hb : Below w.heap.size w1 w2) : w.grownBy w2 c :=
  ⟨hb.os.trans h.os, hb.tape.trans h.tape, hb.output.trans h.output, Nat.le_trans h.size hb.size, fun k hk hne => (hb.block k hk).trans (h.block k hk hne)⟩
theorem CurAt.own {w w1 w2 : World} {c : Nat} {a : Option Addr} {len cap : Nat} {l : List Int} {at0 at_ : Nat} {er0 er : Int} (h0 : CurAt w c a len cap l at0 er0) (h1 : CurAt w1 c a len cap l at_ er) (hg : w.grownBy w1 (some c)) (hb : Below w.heap.size w1 w2) :
    CurAt w2 c a len cap l at_ er := ⟨(hb.block c h0.lt).trans h1.block, h0.lies.grown h0.noU8 (grown_then hg hb), h1.oct, h1.le, h1.small⟩
theorem grownBy_setRow (w : World) (g : Nat) (cs : Array Value) : w.grownBy (w.setRow g cs) (some g) :=
  ⟨rfl, rfl, rfl, by rw [setRow_size]; exact Nat.le_refl _, fun k _ hne => setRow_other w g k cs (fun e => hne (by rw [e]))⟩
theorem own_mono {w : World} {b b' : Nat} {e : TypeId} {size : Nat} {v : Value} {n : Nat} {xs : List Value} (h : w.ownsRow b e size v n xs) (hb : b' ≤ b) : w.ownsRow b' e size v n xs := by
  obtain ⟨h1, h2 | ⟨g, cap, cur, h3, h4, h5⟩⟩ := h
  · exact ⟨h1, .inl h2⟩
  · exact ⟨h1, .inr ⟨g, cap, cur, h3, Nat.le_trans hb h4, h5⟩⟩
theorem own_row {w : World} {base g : Nat} {e t : TypeId} {size : Nat} {v : Value} {n : Nat} {xs : List Value} {c : Array Value} (h : w.ownsRow base e size v n xs) (hr : Row w g t c) (hne : e ≠ t) : v.ownBlock ≠ some g := by
  rcases h.2 with ⟨rfl, _⟩ | ⟨g', cap, cur, rfl, _, hg, _⟩
  · simp [Value.ownBlock]
  · simp only [Value.ownBlock]
    intro he
    obtain rfl := Option.some.inj he
    rw [hr] at hg
    simp at hg
    exact hne hg.2.symm
/-- Rows of different kinds lie apart. -/
theorem own_apart {w : World} {base base' : Nat} {e e' : TypeId} {size size' : Nat} {v v' : Value} {n n' : Nat} {xs xs' : List Value} (h : w.ownsRow base e size v n xs) (h' : w.ownsRow base' e' size' v' n' xs') (hne : e ≠ e') : v.ownBlock = none ∨ v.ownBlock ≠ v'.ownBlock := by
  rcases h.2 with ⟨rfl, _⟩ | ⟨g, cap, cur, rfl, _, hg, _⟩
  · exact .inl rfl
  · refine .inr ?_
    rcases h'.2 with ⟨rfl, _⟩ | ⟨g', cap', cur', rfl, _, hg', _⟩
    · simp [Value.ownBlock]
    · simp only [Value.ownBlock]
      intro he
      obtain rfl := Option.some.inj he
      rw [hg] at hg'
      simp at hg'
      exact hne hg'.2
theorem own_below {w w' : World} {b : Nat} {e : TypeId} {size : Nat} {v : Value} {n : Nat} {xs : List Value} (h : w.ownsRow b e size v n xs) (hb : Below w.heap.size w w') : w'.ownsRow b e size v n xs :=
  h.kept (row := none) ⟨hb.os, hb.tape, hb.output, hb.size, fun k hk _ => hb.block k hk⟩ (by cases hv : v.ownBlock <;> simp)
theorem own_setRow {w : World} {b g : Nat} {e : TypeId} {size : Nat} {v : Value} {n : Nat} {xs : List Value} {cs : Array Value} (h : w.ownsRow b e size v n xs) (hg : g < b) : (w.setRow g cs).ownsRow b e size v n xs :=
  h.kept (grownBy_setRow w g cs) (by
    rcases h.2 with ⟨rfl, _⟩ | ⟨g', cap, cur, rfl, hb, _⟩
    · exact .inl rfl
    · refine .inr ?_
      simp only [Value.ownBlock]
      intro e
      have := Option.some.inj e
      omega)
/-- An append onto a row of the call's own, from wherever: what it writes. -/
theorem wpList_append_own_by {P : Program} (w : World) {ops : Array Oper} {rest : List Oper} {o : Oper} {a : Act} {Q : Exit → Act → World → Prop} (hgd : o.guard = none) (s x : Operand) (t : TypeId)
    (ho : o.op = .call { callee := .builtin .append, args := #[s, x], argTypes := #[t, t] })
    (base : Nat) (e : TypeId) (i : TypeInfo) (z : Value) (size bytes : Nat) (ht : P.underlying t = some (.slice e)) (hi : P.info? e = some i) (hz : i.zero = some z)
    (hsize : i.size = size) (hby : i.bytes = bytes) (hzs : z.cells.size = size) (hsz : 0 < size)
    (v : Value) (n : Nat) (xs : List Value) (hs : a.eval s = v) (hown : w.ownsRow base e size v n xs)
    (ao : Option Addr) (m c : Nat) (news : List Value) (hx : a.eval x = .slice ao m c) (hl : news.length = m * size) (hnone : ao = none → m = 0 ∧ c = 0) (hnews : ∀ ad, ao = some ad → ∀ j u, news[j]? = some u → w.cell? (ad.add j) = some u) (h1 : ∀ u ∈ news, u.oneCell' = true)
    (h63 : n + m ≤ maxLen) (hbytes : (n + m) * bytes ≤ 140737488355328) (hbase : base ≤ w.heap.size)
    (h : ∀ v' w', w'.ownsRow base e size v' (n + m) (xs ++ news) → w.grownBy w' v.ownBlock → wpList P ops Q rest (a.put o.dst v') w') : wpList P ops Q (o :: rest) a w := by
  cases ao with
  | some ad =>
    refine wpList_append_own w hgd s x t ho base e i z size bytes ht hi hz hsize hby hzs hsz v n xs hs hown ad m c news hx hl (hnews ad rfl) h1 h63 hbytes hbase ?_
    intro v' w' h2 h3 _
    exact h v' w' h2 h3
  | none =>
    obtain ⟨rfl, rfl⟩ := hnone rfl
    have hn : news = [] := List.eq_nil_of_length_eq_zero (by simpa using hl)
    subst hn
    refine wpList_append_own_none hgd s x t ho base e i size ht hi v n xs hs hown hx ?_
    exact h v w (by simpa using hown) (World.grownBy.refl _ _)
theorem bown {w w1 w2 : World} {e : TypeId} {size : Nat} {v : Value} {n : Nat} {xs : List Value} (h : Below w.heap.size w w1) (ho : w1.ownsRow w.heap.size e size v n xs) (k : w1.grownBy w2 v.ownBlock) : Below w.heap.size w w2 :=
  Below.grown h k h.size (fun j hj => (ho.lt j hj).1)
/-- Numbers as cells. -/
def nArr (l : List Int) : Array Value := (l.map (Value.int .i64)).toArray
theorem nArr_at (l : List Int) (j : Nat) (h : j < l.length) : (nArr l)[j]? = some (.int .i64 (l.getD j 0)) := by simp [nArr, h]
theorem oct_take {l : List Int} (h : Oct l) (n : Nat) : Oct (l.take n) := fun x hx => h x (List.mem_of_mem_take hx)
theorem wf_u8 {n : Int} (h : (Lit.int .u8 n).wf = true) : 0 ≤ n ∧ n < 256 := by
  simp [Lit.wf, IntKind.min, IntKind.max, IntKind.bits, IntKind.signed] at h; omega
theorem IsRow.oct {w : World} {a : Option Addr} {len cap : Nat} {zs : List Int} (h : IsRow .u8 w a len cap zs) : Oct zs := fun x hx => wf_u8 (h.wf x hx)
theorem c5 : Tryd.prog.cellsOf 5 = 1 := by kernel_rfl
/-- A text in memory: a slice, and its bytes. -/
structure Txt where
  a : Option Addr
  n : Nat
  cap : Nat
  l : List Int
def Txt.v (t : Txt) : Value := .slice t.a t.n t.cap
def Txt.none : Txt := ⟨.none, 0, 0, []⟩
def Txt.ok (w : World) (t : Txt) : Prop := Lies .u8 w t.a t.n t.cap t.l ∧ Oct t.l
def bytes (L : List Txt) : List Int := L.flatMap (·.l)
/-- A slice of texts. -/
def Texts (w : World) (a : Option Addr) (n cap : Nat) (L : List Txt) : Prop :=
  L.length = n ∧ n ≤ cap ∧ cap ≤ maxLen ∧ (∀ k, k < n → ∃ b off, a = some ⟨b, off, .none⟩ ∧ w.cell? ⟨b, off + k, .none⟩ = some (L.getD k Txt.none).v) ∧ ∀ t ∈ L, t.ok w
theorem Txt.ok.below {w w' : World} {t : Txt} (h : t.ok w) (hb : Below w.heap.size w w') : t.ok w' := ⟨h.1.below hb, h.2⟩
theorem Texts.below {w w' : World} {a : Option Addr} {n cap : Nat} {L : List Txt} (h : Texts w a n cap L) (hb : Below w.heap.size w w') : Texts w' a n cap L := by
  refine ⟨h.1, h.2.1, h.2.2.1, fun k hk => ?_, fun t ht => (h.2.2.2.2 t ht).below hb⟩
  obtain ⟨b, off, he, hc⟩ := h.2.2.2.1 k hk
  exact ⟨b, off, he, (hb.cell (p := ⟨b, off + k, none⟩) (World.block_lt_of_cell? w _ hc)).trans hc⟩
theorem bytes_snoc (L : List Txt) (k : Nat) (h : k < L.length) : bytes (L.take (k + 1)) = bytes (L.take k) ++ (L.getD k Txt.none).l := by
  rw [bytes, bytes, List.take_succ_eq_append_getElem h, List.flatMap_append]; congr 1; simp [h]
theorem bytes_take_le (L : List Txt) (k : Nat) : (bytes (L.take k)).length ≤ (bytes L).length := by
  have : bytes L = bytes (L.take k) ++ bytes (L.drop k) := by rw [bytes, bytes, bytes, ← List.flatMap_append, List.take_append_drop]
  rw [this, List.length_append]; omega
theorem bytes_app (S T : List Txt) : bytes (S ++ T) = bytes S ++ bytes T := List.flatMap_append
theorem bytes_oct {w : World} {L : List Txt} (h : ∀ t ∈ L, t.ok w) : Oct (bytes L) := by
  intro x hx
  simp [bytes, List.mem_flatMap] at hx
  obtain ⟨t, ht, hx⟩ := hx
  exact (h t ht).2 x hx
/-- One text in a slice of its own. -/
theorem texts_one (w : World) (t : Txt) (h : t.ok w) : Texts (w.alloc (.cells #[t.v] 26)) (some ⟨w.heap.size, 0, none⟩) 1 1 [t] := by
  refine ⟨rfl, Nat.le_refl _, by decide, fun k hk => ⟨w.heap.size, 0, rfl, ?_⟩, ?_⟩
  · obtain rfl : k = 0 := by omega
    have := World.news_of_block (heap_alloc_new w (.cells #[t.v] 26)) 0 t.v rfl
    rwa [Addr.add_lit] at this
  · intro t' ht
    simp at ht; subst ht
    exact h.below ((Below.refl _ _).alloc (Nat.le_refl _) _)
theorem texts_nil (w : World) : Texts w none 0 0 [] := ⟨rfl, Nat.le_refl _, by decide, fun k hk => by omega, fun t ht => by cases ht⟩
theorem infoBs : (Tryd.prog.info? 26).map (fun i => (i.zero, i.size, i.bytes)) = some (some (.slice none 0 0), 1, 24) := by kernel_rfl
theorem cellsBs : Tryd.prog.cellsOf 26 = 1 := by kernel_rfl
/-- A row of texts of the call's own. -/
theorem owns_texts {w : World} {base : Nat} {v : Value} {T : List Txt} (h : w.ownsRow base 26 1 v T.length (T.map Txt.v)) (hok : ∀ t ∈ T, t.ok w) : ∃ a cap, v = .slice a T.length cap ∧ Texts w a T.length cap T := by
  rcases h.2 with ⟨rfl, hn⟩ | ⟨g, cap, cur, rfl, hb, hg, hnc, hcm, hcs, hx⟩
  · exact ⟨none, 0, by rw [hn], rfl, by omega, by decide, fun k hk => by omega, hok⟩
  · refine ⟨_, cap, rfl, rfl, hnc, hcm, fun k hk => ⟨g, 0, rfl, ?_⟩, hok⟩
    rw [Nat.zero_add, cell_of_row w g k cur 26 (0, 0) hg]
    have h1 : (cur.toList.take (T.length * 1))[k]? = (T.map Txt.v)[k]? := by rw [hx]
    rw [List.getElem?_take, if_pos (by omega)] at h1
    simp [hk] at h1
    simp [h1, hk]
def TextsIn (w : World) (a : Option Addr) (len cap : Nat) : Prop := ∃ L, Texts w a len cap L
end Go.Proofs.YtbgogeojdibmkaaDoor
