/- Rows of cells, parts of rows, whole loads, stores and literals; rows of the call's own beside each other; texts; the cursor beside them. · Options in memory, and the table of kinds. · The table of kinds in memory; isKind, Word, partsSize, numbers. · The numbers of a kind: isAddress, numbers. · What is wrong with an option: formed, within, Check. · What is wrong with an option: within, Check. · The bytes of an option that is right: content. -/
import Derived.Test.YtbklpelikaapoaaGreatDoorM1
import Derived.Deep.WholeRow
import Derived.ChangeKeysEq
import Derived.Laws.StructEq
import Derived.Laws.ResultCell
import Derived.BigRegion
import Derived.Deep.CutRange
import Derived.Deep.RegionHeld3
import Derived.Deep.RegionWith
import Derived.Laws.CopyOwn
import Derived.Deep.Strs
import Derived.ChangeSame
namespace Go.Proofs.YtbklpelikaapoaaGreatDoor
open Go.ChangeShapes Go.WideShapes Go.ChangeAt Go.RowKit Go.Deep
set_option linter.unusedVariables false
set_option linter.unusedSimpArgs false

/-- Bytes as the cells of an array. -/
def arr (l : List Int) : Array Value := (u8s l).toArray
theorem arr_size (l : List Int) : (arr l).size = l.length := by simp [arr, u8s]
theorem arr_at (l : List Int) (j : Nat) (h : j < l.length) : (arr l)[j]? = some (.int .u8 (l.getD j 0)) := by simp [arr, u8s, h]
theorem arr_one (l : List Int) : (arr l).all (·.oneCell') = true := by simp [arr, u8s, Value.oneCell']
/-- An address. -/
def Adr (l : List Int) : Prop := l.length = 16 ∧ Oct l
def zeros : List Int := List.replicate 16 0
theorem adr_zeros : Adr zeros := ⟨rfl, by intro x hx; simp only [zeros, List.mem_replicate] at hx; omega⟩
/-- A block of cells that is not frozen. -/
def Row (w : World) (b : Nat) (t : TypeId) (c : Array Value) : Prop := w.heap[b]? = some (.cells c t (0, 0))
theorem Row.cell {w : World} {b : Nat} {t : TypeId} {c : Array Value} (h : Row w b t c) (j : Nat) : w.cell? ⟨b, j, none⟩ = c[j]? := cell_of_row w b j c t (0, 0) h
theorem Row.frozen {w : World} {b : Nat} {t : TypeId} {c : Array Value} (h : Row w b t c) (j : Nat) : w.frozen? ⟨b, j, none⟩ = false := frozen_of_row w b j c t h
theorem Row.lt {w : World} {b : Nat} {t : TypeId} {c : Array Value} (h : Row w b t c) : b < w.heap.size := (Array.getElem?_eq_some_iff.1 h).1
theorem Row.new (w : World) (t : TypeId) (c : Array Value) : Row (w.alloc (.cells c t)) w.heap.size t c := Go.heap_alloc_new w _
theorem Row.alloc {w : World} {b : Nat} {t : TypeId} {c : Array Value} (h : Row w b t c) (o : Obj) : Row (w.alloc o) b t c := (Below.heap_alloc w o b h.lt).trans h
theorem Row.drewN {w : World} {b : Nat} {t : TypeId} {c : Array Value} (h : Row w b t c) (q : Nat) : Row (w.drewN q) b t c := h
theorem Row.below {w w' : World} {b : Nat} {t : TypeId} {c : Array Value} (h : Row w b t c) (hb : Below w.heap.size w w') : Row w' b t c := (hb.block b h.lt).trans h
theorem Row.set {w : World} {b : Nat} {t : TypeId} {c : Array Value} (h : Row w b t c) (j : Nat) (v : Value) : Row (w.setCell ⟨b, j, none⟩ v) b t (c.setIfInBounds j v) := Go.heap_setCell_same w b j c t v h
theorem Row.other {w : World} {b : Nat} {t : TypeId} {c : Array Value} (h : Row w b t c) (a : Addr) (v : Value) (hb : b ≠ a.block) : Row (w.setCell a v) b t c := (Go.heap_setCell_other w a b v hb).trans h
theorem Row.setRow {w : World} {b : Nat} {t : TypeId} {c : Array Value} (h : Row w b t c) (c' : Array Value) : Row (w.setRow b c') b t c' := setRow_heap w b c c' t (0, 0) h
theorem Row.rowOther {w : World} {b : Nat} {t : TypeId} {c : Array Value} (h : Row w b t c) (g : Nat) (c' : Array Value) (hb : b ≠ g) : Row (w.setRow g c') b t c := (setRow_other w g b c' hb).trans h
theorem Row.kept {w w' : World} {b : Nat} {t : TypeId} {c : Array Value} (h : Row w b t c) {o : Option Nat} (hg : w.grownBy w' o) (hb : some b ≠ o) : Row w' b t c := (hg.block b h.lt hb).trans h
theorem below_setRow' {B : Nat} {a w : World} (h : Below B a w) {g : Nat} (hg : B ≤ g) (c : Array Value) : Below B a (w.setRow g c) :=
  ⟨h.os, h.tape, h.output, by rw [setRow_size]; exact h.size, fun k hk => (setRow_other w g k c (by omega)).trans (h.block k hk)⟩
/-- Cells from a place on. -/
def Part (w : World) (b off : Nat) (c : Array Value) : Prop := ∀ j v, c[j]? = some v → w.cell? ⟨b, off + j, none⟩ = some v
theorem Row.part {w : World} {b : Nat} {t : TypeId} {c : Array Value} (h : Row w b t c) : Part w b 0 c := fun j v hv => by rw [Nat.zero_add, h.cell]; exact hv
/-- An array in the middle of a header, as a slice. -/
theorem part_lies {w : World} {b off : Nat} {l : List Int} (hl : Adr l) (h : Part w b off (arr l)) : Lies .u8 w (some ⟨b, off, none⟩) 16 16 l := by
  refine ⟨hl.1, Nat.le_refl _, by decide, (fun h => by cases h), fun k hk => ⟨b, off, rfl, ?_⟩⟩
  exact h k _ (arr_at l k (by rw [hl.1]; exact hk))
theorem run_loadVar_part {P : Program} (w : World) (g off : Nat) (ty : TypeId) (cs : Array Value) (d : TypeDesc) (hg : Part w g off cs)
    (hu : P.underlying ty = some d) (hd : (match d with | .struct _ | .array _ _ => true | _ => false) = true) (hi : (P.info? ty).map (·.size) = some cs.size) :
    (loadVar ty ⟨g, off, none⟩).run P w = .ok (.agg cs) w := by
  have hl : (loadCells ⟨g, off, none⟩ cs.toList.length).run P w = .ok cs.toList.toArray w :=
    run_loadCells_list (P := P) w ⟨g, off, none⟩ cs.toList (fun j v hv => by
      have hadd : (⟨g, off, none⟩ : Addr).add j = ⟨g, off + j, none⟩ := by unfold Addr.add; split <;> simp_all
      rw [hadd]
      exact hg j v (by simpa using hv))
  cases hq : P.info? ty with
  | none => simp [hq] at hi
  | some i =>
    have hs : i.size = cs.size := by simpa [hq] using hi
    have hagg : (isAgg ty).run P w = .ok true w := by
      unfold isAgg
      rw [Sem.run_bind, run_underlying hu w]
      cases d <;> simp_all
    simp only [Array.length_toList, Array.toArray_toList] at hl
    simp [loadVar, Sem.run_bind, hagg, sizeOf, typeInfo, hq, hs, hl]
/-- A load of a whole array or struct, guarded or not. -/
theorem wp_ld {P : Program} {ops : Array Oper} {rest : List Oper} {o : Oper} {a : Act} {w : World} {Q : Exit → Act → World → Prop} (ty : TypeId) (x : Operand) (ho : o.op = .load ty x)
    (hw : Region.wanted o (yielded ops a.tmps) = true) (g off : Nat) (hx : a.eval x = .pointer (some ⟨g, off, none⟩)) (cs : Array Value) (d : TypeDesc)
    (hu : P.underlying ty = some d) (hd : (match d with | .struct _ | .array _ _ => true | _ => false) = true) (hi : (P.info? ty).map (·.size) = some cs.size) (hg : Part w g off cs)
    (h : wpList P ops Q rest (a.put o.dst (.agg cs)) w) : wpList P ops Q (o :: rest) a w :=
  wpList_step fun K hK => by
    rw [if_pos hw]
    unfold Oper.wp execOp
    simp only [ho, hx, Instr.loadAt, Instr.sureAddr, Sem.run_bind, Sem.run_pure, Result.andThen_ok, run_loadVar_part w g off ty cs d hg hu hd hi]
    exact hK _ _ h
/-- A store of a whole array or struct. -/
theorem wp_st {P : Program} {ops : Array Oper} {rest : List Oper} {o : Oper} {a : Act} {w : World} {Q : Exit → Act → World → Prop} (ty : TypeId) (x y : Operand) (ho : o.op = .store ty x y)
    (hgd : o.guard = none) (g : Nat) (cells : Array Value) (hx : a.eval x = .pointer (some ⟨g, 0, none⟩)) (hy : a.eval y = .agg cells)
    (hi : (P.info? ty).map (·.size) = some cells.size) (h1 : cells.all (·.oneCell') = true) (t : TypeId) (old : Array Value) (hold : old.size = cells.size) (hg : Row w g t old)
    (h : wpList P ops Q rest (a.put o.dst undef) (w.setRow g cells)) : wpList P ops Q (o :: rest) a w :=
  wpList_store_row hgd ty x y ho g cells hx hy t old hg hi hold h1 h
theorem wp_bd {P : Program} {ops : Array Oper} {rest : List Oper} {o : Oper} {a : Act} {w : World} {Q : Exit → Act → World → Prop} (t : TypeId) (parts : Array (Nat × Operand)) (ho : o.op = .build t parts) (hg : o.guard = none)
    (cs : Array Value) (hf : P.built t (parts.map fun (i, x) => (i, a.eval x)).toList = some cs)
    (h : wpList P ops Q rest (a.put o.dst (.agg cs)) w) : wpList P ops Q (o :: rest) a w :=
  wpList_build hg t parts ho (by rw [hf]; rfl) (by rw [hf]; exact h)
theorem yields_ld {P : Program} {ops : Array Oper} {S : World → Prop} {op : Oper} {a : Act} (hw : Region.wanted op (yielded ops a.tmps) = true) (ty : TypeId) (x : Operand) (ho : op.op = .load ty x)
    (g : Nat) (hx : a.eval x = .pointer (some ⟨g, 0, none⟩)) (cs : Array Value) (d : TypeDesc) (hS : ∀ w, S w → Part w g 0 cs)
    (hu : P.underlying ty = some d) (hd : (match d with | .struct _ | .array _ _ => true | _ => false) = true) (hi : (P.info? ty).map (·.size) = some cs.size) : YieldsIf P ops S op (.agg cs) a :=
  .inl ⟨hw, fun w hw' => by
    unfold execOp
    simp only [ho, hx, Instr.loadAt, Instr.sureAddr, Sem.run_bind, Sem.run_pure, Result.andThen_ok, run_loadVar_part w g 0 ty cs d (hS w hw') hu hd hi]⟩
theorem step_st {P : Program} {ops : Array Oper} {o : Oper} {a : Act} {w : World} {K : Act → World → Prop} {Q : Exit → Act → World → Prop} {E : Prop} (hgd : o.guard = none) (ty : TypeId) (x y : Operand) (ho : o.op = .store ty x y)
    (g : Nat) (cells : Array Value) (hx : a.eval x = .pointer (some ⟨g, 0, none⟩)) (hy : a.eval y = .agg cells) (t : TypeId) (old : Array Value) (hg : Row w g t old) (hi : (P.info? ty).map (·.size) = some cells.size)
    (hold : old.size = cells.size) (h1 : cells.all (·.oneCell') = true) (h : K (a.put o.dst undef) (w.setRow g cells)) :
    if Region.wanted o (yielded ops a.tmps) = true then Oper.wp P o a w K Q else E := by
  rw [if_pos (by simp [Region.wanted, hgd])]
  exact wp_store_row ty x y ho g cells hx hy t old hg hi hold h1 h
theorem u8s_len (l : List Int) : (u8s l).length = l.length := by simp [u8s]
theorem num_bd (l : List Int) (h : Oct l) (n : Nat) (b : Int) (hn : l.length = n) (hb : (256 : Int) ^ n = b) : 0 ≤ numOf l ∧ numOf l < b := by
  have := numOf_bd l h l.length (Nat.le_refl _)
  rw [List.take_of_length_le (Nat.le_refl _), hn, hb] at this
  exact this
theorem bset {w w1 : World} {B g : Nat} (j : Nat) (v : Value) (h : Below B w w1) (hg : B ≤ g) : Below B w (w1.setCell ⟨g, j, none⟩ v) := Below.setCell h (p := ⟨g, j, none⟩) hg v
theorem rd_ok {size n : Int} {left : Nat} (hz : sizeB size = true) (hn : 0 ≤ n) (h : size * n ≤ left) : rdE size n left 0 = 0 ∧ rdN size n left 0 = (size * n).toNat := by
  have hE : rdE size n left 0 = 0 := by
    unfold rdE
    rw [if_pos rfl, if_neg (by rw [hz]; simp; omega), if_neg (by omega)]
  exact ⟨hE, by rw [rdN, if_pos hE]⟩
theorem take_ok (w : World) (c : Nat) (a : Option Addr) (len cap at_ : Nat) (l : List Int) (size : Int) (sz : Nat) (h : CurAt w c a len cap l at_ 0) (hs : size = sz) (hz : sizeB size = true) (hle : at_ + sz ≤ len) :
    Calls Tryz.prog 103 #[.pointer (some ⟨c, 0, none⟩), .int .i64 size] w fun e w' => e = .returned (.int .i64 (numOf ((l.drop at_).take sz))) ∧
      CurAt w' c a len cap l (at_ + sz) 0 ∧ w.grownBy w' (some c) ∧ w'.heap.size = w.heap.size := by
  obtain ⟨h1, h2⟩ := rd_ok (size := size) (n := 1) (left := len - at_) hz (by omega) (by omega)
  have h3 : rdN size 1 (len - at_) 0 = sz := by rw [h2]; omega
  refine (take_any w c a len cap at_ l 0 size h).mono ?_
  rintro e w' ⟨rfl, hc, hg, hz'⟩
  rw [h1, h3] at hc
  exact ⟨by rw [takeV, h3], hc, hg, hz'⟩
theorem bytes_ok (w : World) (c : Nat) (a : Option Addr) (len cap at_ : Nat) (l : List Int) (n : Int) (m : Nat) (h : CurAt w c a len cap l at_ 0) (hn : n = m) (hle : at_ + m ≤ len) :
    Calls Tryz.prog 67 #[.pointer (some ⟨c, 0, none⟩), .int .i64 n] w fun e w' => ∃ v, e = .returned v ∧ w'.ownsRow w.heap.size 5 1 v m (u8s ((l.drop at_).take m)) ∧
      CurAt w' c a len cap l (at_ + m) 0 ∧ w.grownBy w' (some c) := by
  obtain ⟨h1, h2⟩ := rd_ok (size := 1) (n := n) (left := len - at_) (by decide) (by omega) (by omega)
  have h3 : rdN 1 n (len - at_) 0 = m := by rw [h2]; omega
  refine (bytes_any w c a len cap at_ l 0 n h).mono ?_
  rintro e w' ⟨v, rfl, ho, hc, hg⟩
  rw [h1, h3] at hc
  rw [h3] at ho
  exact ⟨v, rfl, ho, hc, hg⟩
theorem grown_then {w w1 w2 : World} {c : Option Nat} (h : w.grownBy w1 c) (hb : Below w.heap.size w1 w2) : w.grownBy w2 c :=
  ⟨hb.os.trans h.os, hb.tape.trans h.tape, hb.output.trans h.output, Nat.le_trans h.size hb.size, fun k hk hne => (hb.block k hk).trans (h.block k hk hne)⟩
theorem CurAt.own {w w1 w2 : World} {c : Nat} {a : Option Addr} {len cap : Nat} {l : List Int} {at0 at_ : Nat} {er0 er : Int} (h0 : CurAt w c a len cap l at0 er0) (h1 : CurAt w1 c a len cap l at_ er) (hg : w.grownBy w1 (some c)) (hb : Below w.heap.size w1 w2) :
    CurAt w2 c a len cap l at_ er := ⟨(hb.block c h0.lt).trans h1.block, h0.lies.grown h0.noU8 (grown_then hg hb), h1.oct, h1.le, h1.small⟩
theorem grownBy_setRow (w : World) (g : Nat) (cs : Array Value) : w.grownBy (w.setRow g cs) (some g) :=
  ⟨rfl, rfl, rfl, by rw [setRow_size]; exact Nat.le_refl _, fun k _ hne => setRow_other w g k cs (fun e => hne (by rw [e]))⟩
theorem own_mono {w : World} {b b' : Nat} {e : TypeId} {size : Nat} {v : Value} {n : Nat} {xs : List Value} (h : w.ownsRow b e size v n xs) (hb : b' ≤ b) : w.ownsRow b' e size v n xs := by
  obtain ⟨h1, h2 | ⟨g, cap, cur, h3, h4, h5⟩⟩ := h
  · exact ⟨h1, .inl h2⟩
  · exact ⟨h1, .inr ⟨g, cap, cur, h3, Nat.le_trans hb h4, h5⟩⟩
theorem own_row {w : World} {base g : Nat} {e t : TypeId} {size : Nat} {v : Value} {n : Nat} {xs : List Value} {c : Array Value} (h : w.ownsRow base e size v n xs) (hr : Row w g t c) (hne : e ≠ t) : v.ownBlock ≠ some g := by
  rcases h.2 with ⟨rfl, _⟩ | ⟨g', cap, cur, rfl, _, hg, _⟩
  · simp [Value.ownBlock]
  · simp only [Value.ownBlock]
    intro he
    obtain rfl := Option.some.inj he
    rw [hr] at hg
    simp at hg
    exact hne hg.2.symm
/-- Rows of different kinds lie apart. -/
theorem own_apart {w : World} {base base' : Nat} {e e' : TypeId} {size size' : Nat} {v v' : Value} {n n' : Nat} {xs xs' : List Value} (h : w.ownsRow base e size v n xs) (h' : w.ownsRow base' e' size' v' n' xs') (hne : e ≠ e') : v.ownBlock = none ∨ v.ownBlock ≠ v'.ownBlock := by
  rcases h.2 with ⟨rfl, _⟩ | ⟨g, cap, cur, rfl, _, hg, _⟩
  · exact .inl rfl
  · refine .inr ?_
    rcases h'.2 with ⟨rfl, _⟩ | ⟨g', cap', cur', rfl, _, hg', _⟩
    · simp [Value.ownBlock]
    · simp only [Value.ownBlock]
      intro he
      obtain rfl := Option.some.inj he
      rw [hg] at hg'
      simp at hg'
      exact hne hg'.2
theorem own_below {w w' : World} {b : Nat} {e : TypeId} {size : Nat} {v : Value} {n : Nat} {xs : List Value} (h : w.ownsRow b e size v n xs) (hb : Below w.heap.size w w') : w'.ownsRow b e size v n xs :=
  h.kept (row := none) ⟨hb.os, hb.tape, hb.output, hb.size, fun k hk _ => hb.block k hk⟩ (by cases hv : v.ownBlock <;> simp)
theorem own_setRow {w : World} {b g : Nat} {e : TypeId} {size : Nat} {v : Value} {n : Nat} {xs : List Value} {cs : Array Value} (h : w.ownsRow b e size v n xs) (hg : g < b) : (w.setRow g cs).ownsRow b e size v n xs :=
  h.kept (grownBy_setRow w g cs) (by
    rcases h.2 with ⟨rfl, _⟩ | ⟨g', cap, cur, rfl, hb, _⟩
    · exact .inl rfl
    · refine .inr ?_
      simp only [Value.ownBlock]
      intro e
      have := Option.some.inj e
      omega)
/-- An append onto a row of the call's own, from wherever: what it writes. -/
theorem wpList_append_own_by {P : Program} (w : World) {ops : Array Oper} {rest : List Oper} {o : Oper} {a : Act} {Q : Exit → Act → World → Prop} (hgd : o.guard = none) (s x : Operand) (t : TypeId)
    (ho : o.op = .call { callee := .builtin .append, args := #[s, x], argTypes := #[t, t] })
    (base : Nat) (e : TypeId) (i : TypeInfo) (z : Value) (size bytes : Nat) (ht : P.underlying t = some (.slice e)) (hi : P.info? e = some i) (hz : i.zero = some z)
    (hsize : i.size = size) (hby : i.bytes = bytes) (hzs : z.cells.size = size) (hsz : 0 < size)
    (v : Value) (n : Nat) (xs : List Value) (hs : a.eval s = v) (hown : w.ownsRow base e size v n xs)
    (ao : Option Addr) (m c : Nat) (news : List Value) (hx : a.eval x = .slice ao m c) (hl : news.length = m * size) (hnone : ao = none → m = 0 ∧ c = 0) (hnews : ∀ ad, ao = some ad → ∀ j u, news[j]? = some u → w.cell? (ad.add j) = some u) (h1 : ∀ u ∈ news, u.oneCell' = true)
    (h63 : n + m ≤ maxLen) (hbytes : (n + m) * bytes ≤ 140737488355328) (hbase : base ≤ w.heap.size)
    (h : ∀ v' w', w'.ownsRow base e size v' (n + m) (xs ++ news) → w.grownBy w' v.ownBlock → wpList P ops Q rest (a.put o.dst v') w') : wpList P ops Q (o :: rest) a w := by
  cases ao with
  | some ad =>
    refine wpList_append_own w hgd s x t ho base e i z size bytes ht hi hz hsize hby hzs hsz v n xs hs hown ad m c news hx hl (hnews ad rfl) h1 h63 hbytes hbase ?_
    intro v' w' h2 h3 _
    exact h v' w' h2 h3
  | none =>
    obtain ⟨rfl, rfl⟩ := hnone rfl
    have hn : news = [] := List.eq_nil_of_length_eq_zero (by simpa using hl)
    subst hn
    refine wpList_append_own_none hgd s x t ho base e i size ht hi v n xs hs hown hx ?_
    exact h v w (by simpa using hown) (World.grownBy.refl _ _)
/-- Numbers as cells. -/
def nArr (l : List Int) : Array Value := (l.map (Value.int .i64)).toArray
theorem nArr_at (l : List Int) (j : Nat) (h : j < l.length) : (nArr l)[j]? = some (.int .i64 (l.getD j 0)) := by simp [nArr, h]
theorem oct_take {l : List Int} (h : Oct l) (n : Nat) : Oct (l.take n) := fun x hx => h x (List.mem_of_mem_take hx)
theorem wf_u8 {n : Int} (h : (Lit.int .u8 n).wf = true) : 0 ≤ n ∧ n < 256 := by
  simp [Lit.wf, IntKind.min, IntKind.max, IntKind.bits, IntKind.signed] at h; omega
theorem IsRow.oct {w : World} {a : Option Addr} {len cap : Nat} {zs : List Int} (h : IsRow .u8 w a len cap zs) : Oct zs := fun x hx => wf_u8 (h.wf x hx)
theorem c5 : Tryz.prog.cellsOf 5 = 1 := by kernel_rfl
/-- A text in memory: a slice, and its bytes. -/
structure Txt where
  a : Option Addr
  n : Nat
  cap : Nat
  l : List Int
def Txt.v (t : Txt) : Value := .slice t.a t.n t.cap
def Txt.none : Txt := ⟨.none, 0, 0, []⟩
def Txt.ok (w : World) (t : Txt) : Prop := Lies .u8 w t.a t.n t.cap t.l ∧ Oct t.l
def bytes (L : List Txt) : List Int := L.flatMap (·.l)
/-- A slice of texts. -/
def Texts (w : World) (a : Option Addr) (n cap : Nat) (L : List Txt) : Prop :=
  L.length = n ∧ n ≤ cap ∧ cap ≤ maxLen ∧ (∀ k, k < n → ∃ b off, a = some ⟨b, off, .none⟩ ∧ w.cell? ⟨b, off + k, .none⟩ = some (L.getD k Txt.none).v) ∧ ∀ t ∈ L, t.ok w
theorem Txt.ok.below {w w' : World} {t : Txt} (h : t.ok w) (hb : Below w.heap.size w w') : t.ok w' := ⟨h.1.below hb, h.2⟩
theorem Texts.below {w w' : World} {a : Option Addr} {n cap : Nat} {L : List Txt} (h : Texts w a n cap L) (hb : Below w.heap.size w w') : Texts w' a n cap L := by
  refine ⟨h.1, h.2.1, h.2.2.1, fun k hk => ?_, fun t ht => (h.2.2.2.2 t ht).below hb⟩
  obtain ⟨b, off, he, hc⟩ := h.2.2.2.1 k hk
  exact ⟨b, off, he, (hb.cell (p := ⟨b, off + k, none⟩) (World.block_lt_of_cell? w _ hc)).trans hc⟩
theorem bytes_snoc (L : List Txt) (k : Nat) (h : k < L.length) : bytes (L.take (k + 1)) = bytes (L.take k) ++ (L.getD k Txt.none).l := by
  rw [bytes, bytes, List.take_succ_eq_append_getElem h, List.flatMap_append]; congr 1; simp [h]
theorem bytes_take_le (L : List Txt) (k : Nat) : (bytes (L.take k)).length ≤ (bytes L).length := by
  have : bytes L = bytes (L.take k) ++ bytes (L.drop k) := by rw [bytes, bytes, bytes, ← List.flatMap_append, List.take_append_drop]
  rw [this, List.length_append]; omega
theorem texts_nil (w : World) : Texts w none 0 0 [] := ⟨rfl, Nat.le_refl _, by decide, fun k hk => by omega, fun t ht => by cases ht⟩
theorem cellsBs : Tryz.prog.cellsOf 30 = 1 := by kernel_rfl
def TextsIn (w : World) (a : Option Addr) (len cap : Nat) : Prop := ∃ L, Texts w a len cap L
theorem open_texts {H : Type} {enc : TypeId × Value → H} {w : World} {held : Bool} {fuel : Nat} {a : Option Addr} {len cap : Nat} {x : DataW H × List MemPlace}
    (h : DataW.trod enc Tryz.prog w 0 (fun _ => true) held fuel 59 [.slice a len cap] = some x) : TextsIn w a len cap := by
  rcases open_slice Tryz.underlying59 h with ⟨hcs, _⟩ | ⟨ad, l, c, m, n, D, Pl, hcs, _, hl, hm, hmm, _, hx⟩
  · simp at hcs
    obtain ⟨rfl, rfl, rfl⟩ := hcs
    exact ⟨[], texts_nil w⟩
  · simp at hcs
    obtain ⟨rfl, rfl, rfl⟩ := hcs
    have hm' : m = cap := by simpa using hmm
    subst hm'
    have key : ∀ i, ∃ t : Txt, i < len → w.cell? (ad.add i) = some t.v ∧ t.ok w := by
      intro i
      by_cases hi : i < len
      · obtain ⟨cs', h1, h2⟩ := hx i (by omega)
        rw [cellsBs] at h1
        obtain ⟨_, hlen, hcell⟩ := World.cells?_some h1
        match cs', hlen with
        | [v0], _ =>
          have e0 := hcell 0 (by omega)
          rw [add_add] at e0
          simp at e0
          rcases open_ints Tryz.underlying30 Tryz.underlying5 c5 h2 with ⟨hcs, _⟩ | ⟨y, l', c', zs, hcs, _, hl', hm', hz', _, hc', hwz⟩
          · simp at hcs
            subst hcs
            exact ⟨Txt.none, fun _ => ⟨e0, Lies.nil _ _, fun x hx => by cases hx⟩⟩
          · simp at hcs
            subst hcs
            have hr : IsRow .u8 w (some y) l' c' zs := .inr ⟨y, rfl, hl', hm', by simpa using hz', hc', hwz⟩
            exact ⟨⟨some y, l', c', zs.take l'⟩, fun _ => ⟨e0, hr.lies, oct_take hr.oct _⟩⟩
      · exact ⟨Txt.none, fun h => absurd h hi⟩
    obtain ⟨f, hf⟩ := Classical.axiomOfChoice key
    refine ⟨(List.range len).map f, by simp, hl, hm, ?_, ?_⟩
    · intro k hk
      have hspot : ad.spot = none := by
        have := (hf 0 (by omega)).1
        exact World.cell?_spot (by simpa [Addr.add] using this)
      obtain ⟨b, off, spot⟩ := ad
      simp at hspot
      subst hspot
      refine ⟨b, off, rfl, ?_⟩
      have := (hf k hk).1
      rw [Addr.add_lit] at this
      rw [this]
      simp [hk]
    · intro t ht
      simp at ht
      obtain ⟨i, hi, rfl⟩ := ht
      exact (hf i hi).2
end Go.Proofs.YtbklpelikaapoaaGreatDoor

namespace Go.Proofs.YtbklpelikaapoaaGreatDoor
open Go.ChangeShapes Go.WideShapes Go.ChangeAt Go.RowKit Go.Deep
set_option linter.unusedVariables false
set_option linter.unusedSimpArgs false

/-- An option. -/
structure Po where
  k : Int
  n : List Int
  ad : List Int
  t : List Int
/-- An option as it lies. -/
structure Ov where
  k : Int
  n : Txt
  ad : List Int
  t : Txt
def Ov.p (o : Ov) : Po := ⟨o.k, o.n.l, o.ad, o.t.l⟩
/-- Its cells. -/
def Ov.cs (o : Ov) : Array Value := #[.int .i64 o.k, o.n.v] ++ (arr o.ad ++ #[o.t.v])
structure Ov.ok (w : World) (o : Ov) : Prop where
  n : Lies .i64 w o.n.a o.n.n o.n.cap o.n.l
  ad : Adr o.ad
  t : Lies .u8 w o.t.a o.t.n o.t.cap o.t.l
  oct : Oct o.t.l
def Ov.zero : Ov := ⟨0, Txt.none, zeros, Txt.none⟩
theorem Ov.zero_ok (w : World) : Ov.zero.ok w := ⟨Lies.nil _ _, adr_zeros, Lies.nil _ _, fun x hx => by cases hx⟩
theorem Ov.ok.below {w w' : World} {o : Ov} (h : o.ok w) (hb : Below w.heap.size w w') : o.ok w' := ⟨h.n.below hb, h.ad, h.t.below hb, h.oct⟩
theorem Ov.ok.drewN {w : World} {o : Ov} (h : o.ok w) (q : Nat) : o.ok (w.drewN q) := ⟨h.n, h.ad, h.t, h.oct⟩
theorem Ov.size {o : Ov} (h : Adr o.ad) : o.cs.size = 19 := by simp [Ov.cs, arr_size, h.1]
theorem Ov.one (o : Ov) : o.cs.all (·.oneCell') = true := by simp [Ov.cs, Array.all_append, arr, u8s, Value.oneCell', Txt.v]
theorem Ov.at0 (o : Ov) : o.cs[0]? = some (.int .i64 o.k) := by simp [Ov.cs, Array.getElem?_append]
theorem Ov.at1 (o : Ov) : o.cs[1]? = some (.slice o.n.a o.n.n o.n.cap) := by simp [Ov.cs, Array.getElem?_append, Txt.v]
theorem Ov.atA {o : Ov} (h : Adr o.ad) (j : Nat) (hj : j < 16) : o.cs[2 + j]? = some (.int .u8 (o.ad.getD j 0)) := by
  rw [Ov.cs, Array.getElem?_append_right (by simp), show 2 + j - Array.size #[Value.int .i64 o.k, o.n.v] = j by simp, Array.getElem?_append_left (by rw [arr_size, h.1]; exact hj), arr_at _ _ (by rw [h.1]; exact hj)]
theorem Ov.at18 {o : Ov} (h : Adr o.ad) : o.cs[18]? = some (.slice o.t.a o.t.n o.t.cap) := by
  rw [Ov.cs, Array.getElem?_append_right (by simp), Array.getElem?_append_right (by rw [arr_size, h.1]; simp), arr_size, h.1]; rfl
theorem Part.ovA {w : World} {b off : Nat} {o : Ov} (h : Adr o.ad) (r : Part w b off o.cs) : Part w b (off + 2) (arr o.ad) := fun j v hv => by
  have hj : j < 16 := by have := (Array.getElem?_eq_some_iff.1 hv).1; rw [arr_size, h.1] at this; exact this
  rw [Nat.add_assoc]
  refine r (2 + j) v ?_
  rw [Ov.atA h j hj, ← hv, arr_at _ _ (by rw [h.1]; exact hj)]
/-- A type of options. -/
structure OTo (t : TypeId) : Prop where
  desc : ∃ fs, Tryz.prog.underlying t = some (.struct fs)
  info : (Tryz.prog.info? t).map (·.size) = some 19
  full : ∀ (o : Ov), o.ad.length = 16 → Tryz.prog.built t [(0, .int .i64 o.k), (1, o.n.v), (2, .agg (arr o.ad)), (3, o.t.v)] = some o.cs
  two : ∀ (k : Int) (v : Txt), Tryz.prog.built t [(0, .int .i64 k), (1, v.v)] = some (Ov.cs ⟨k, v, zeros, Txt.none⟩)
  kind : ∀ (k : Int), Tryz.prog.built t [(0, .int .i64 k)] = some (Ov.cs ⟨k, Txt.none, zeros, Txt.none⟩)
  bare : Tryz.prog.built t [] = some Ov.zero.cs
  zero : (Tryz.prog.info? t).map (fun i => (i.zero, i.size, i.bytes)) = some (some (.agg Ov.zero.cs), 19, 72)
theorem built43 (k : Int) (na : Option Addr) (nl nc : Nat) (l : List Int) (a0 a1 a2 a3 a4 a5 a6 a7 a8 a9 a10 a11 a12 a13 a14 a15 : Int) (ta : Option Addr) (tl tc : Nat) (m : List Int) : Tryz.prog.built 140 [(0, .int .i64 k), (1, Txt.v ⟨na, nl, nc, l⟩), (2, .agg (arr [a0, a1, a2, a3, a4, a5, a6, a7, a8, a9, a10, a11, a12, a13, a14, a15])), (3, Txt.v ⟨ta, tl, tc, m⟩)] =
    some (Ov.cs ⟨k, ⟨na, nl, nc, l⟩, [a0, a1, a2, a3, a4, a5, a6, a7, a8, a9, a10, a11, a12, a13, a14, a15], ⟨ta, tl, tc, m⟩⟩) := by kernel_rfl
theorem full43 (o : Ov) (h : o.ad.length = 16) : Tryz.prog.built 140 [(0, .int .i64 o.k), (1, o.n.v), (2, .agg (arr o.ad)), (3, o.t.v)] = some o.cs := by
  obtain ⟨k, ⟨na, nl, nc, l⟩, ad, ⟨ta, tl, tc, m⟩⟩ := o
  simp only at h
  match ad, h with
  | [a0, a1, a2, a3, a4, a5, a6, a7, a8, a9, a10, a11, a12, a13, a14, a15], _ => exact built43 k na nl nc l a0 a1 a2 a3 a4 a5 a6 a7 a8 a9 a10 a11 a12 a13 a14 a15 ta tl tc m
theorem built38 (k : Int) (na : Option Addr) (nl nc : Nat) (l : List Int) (a0 a1 a2 a3 a4 a5 a6 a7 a8 a9 a10 a11 a12 a13 a14 a15 : Int) (ta : Option Addr) (tl tc : Nat) (m : List Int) : Tryz.prog.built 116 [(0, .int .i64 k), (1, Txt.v ⟨na, nl, nc, l⟩), (2, .agg (arr [a0, a1, a2, a3, a4, a5, a6, a7, a8, a9, a10, a11, a12, a13, a14, a15])), (3, Txt.v ⟨ta, tl, tc, m⟩)] =
    some (Ov.cs ⟨k, ⟨na, nl, nc, l⟩, [a0, a1, a2, a3, a4, a5, a6, a7, a8, a9, a10, a11, a12, a13, a14, a15], ⟨ta, tl, tc, m⟩⟩) := by kernel_rfl
theorem full38 (o : Ov) (h : o.ad.length = 16) : Tryz.prog.built 116 [(0, .int .i64 o.k), (1, o.n.v), (2, .agg (arr o.ad)), (3, o.t.v)] = some o.cs := by
  obtain ⟨k, ⟨na, nl, nc, l⟩, ad, ⟨ta, tl, tc, m⟩⟩ := o
  simp only at h
  match ad, h with
  | [a0, a1, a2, a3, a4, a5, a6, a7, a8, a9, a10, a11, a12, a13, a14, a15], _ => exact built38 k na nl nc l a0 a1 a2 a3 a4 a5 a6 a7 a8 a9 a10 a11 a12 a13 a14 a15 ta tl tc m
theorem two43 (k : Int) (a : Option Addr) (n c : Nat) : Tryz.prog.built 140 [(0, .int .i64 k), (1, .slice a n c)] = some (Ov.cs ⟨k, ⟨a, n, c, []⟩, zeros, Txt.none⟩) := by kernel_rfl
theorem two38 (k : Int) (a : Option Addr) (n c : Nat) : Tryz.prog.built 116 [(0, .int .i64 k), (1, .slice a n c)] = some (Ov.cs ⟨k, ⟨a, n, c, []⟩, zeros, Txt.none⟩) := by kernel_rfl
theorem kind43 (k : Int) : Tryz.prog.built 140 [(0, .int .i64 k)] = some (Ov.cs ⟨k, Txt.none, zeros, Txt.none⟩) := by kernel_rfl
theorem kind38 (k : Int) : Tryz.prog.built 116 [(0, .int .i64 k)] = some (Ov.cs ⟨k, Txt.none, zeros, Txt.none⟩) := by kernel_rfl
theorem o43 : OTo 140 := ⟨⟨_, Tryz.underlying140⟩, by kernel_rfl, full43, fun k v => two43 k v.a v.n v.cap, kind43, by kernel_rfl, by kernel_rfl⟩
theorem o38 : OTo 116 := ⟨⟨_, Tryz.underlying116⟩, by kernel_rfl, full38, fun k v => two38 k v.a v.n v.cap, kind38, by kernel_rfl, by kernel_rfl⟩
theorem zov : (#[Value.int .i64 0, .slice none 0 0, .int .u8 0, .int .u8 0, .int .u8 0, .int .u8 0, .int .u8 0, .int .u8 0, .int .u8 0, .int .u8 0, .int .u8 0, .int .u8 0, .int .u8 0, .int .u8 0, .int .u8 0, .int .u8 0, .int .u8 0, .int .u8 0, .slice none 0 0] : Array Value) = Ov.zero.cs := rfl
theorem ldOo {ops : Array Oper} {rest : List Oper} {o : Oper} {a : Act} {w : World} {Q : Exit → Act → World → Prop} {t : TypeId} (ht : OTo t) (x : Operand) (ho : o.op = .load t x) (hw : Region.wanted o (yielded ops a.tmps) = true) (g off : Nat) (hx : a.eval x = .pointer (some ⟨g, off, none⟩)) (h : Ov) (hl : Adr h.ad) (hg : Part w g off h.cs)
    (hn : wpList Tryz.prog ops Q rest (a.put o.dst (.agg h.cs)) w) : wpList Tryz.prog ops Q (o :: rest) a w := by
  obtain ⟨fs, h1⟩ := ht.desc
  exact wp_ld t x ho hw g off hx h.cs _ h1 rfl (by rw [Ov.size hl]; exact ht.info) hg hn
theorem stOo {ops : Array Oper} {rest : List Oper} {o : Oper} {a : Act} {w : World} {Q : Exit → Act → World → Prop} {t : TypeId} (ht : OTo t) (x y : Operand) (ho : o.op = .store t x y) (hgd : o.guard = none) (g : Nat) (h : Ov) (hl : Adr h.ad) (hx : a.eval x = .pointer (some ⟨g, 0, none⟩)) (hy : a.eval y = .agg h.cs) (t' : TypeId) (old : Ov) (hlo : Adr old.ad) (hg : Row w g t' old.cs)
    (hn : wpList Tryz.prog ops Q rest (a.put o.dst undef) (w.setRow g h.cs)) : wpList Tryz.prog ops Q (o :: rest) a w :=
  wp_st t x y ho hgd g h.cs hx hy (by rw [Ov.size hl]; exact ht.info) h.one t' old.cs (by rw [Ov.size hl, Ov.size hlo]) hg hn
theorem bdO1 {ops : Array Oper} {rest : List Oper} {o : Oper} {a : Act} {w : World} {Q : Exit → Act → World → Prop} {t : TypeId} (ht : OTo t) (x0 : Operand) (ho : o.op = .build t #[(0, x0)]) (hg : o.guard = none)
    (k : Int) (h0 : a.eval x0 = .int .i64 k)
    (hn : wpList Tryz.prog ops Q rest (a.put o.dst (.agg (Ov.cs ⟨k, Txt.none, zeros, Txt.none⟩))) w) : wpList Tryz.prog ops Q (o :: rest) a w :=
  wp_bd t _ ho hg _ (by simp only [List.map_toArray, List.map_cons, List.map_nil, h0]; exact ht.kind k) hn
/-- A slice of options. -/
structure Opts (w : World) (a : Option Addr) (n cap : Nat) (L : List Ov) : Prop where
  len : L.length = n
  le : n ≤ cap
  max : cap ≤ maxLen
  isNil : a = none → cap = 0
  cell : ∀ k, k < n → ∃ b off, a = some ⟨b, off, none⟩ ∧ Part w b (off + k * 19) (L.getD k Ov.zero).cs
  ok : ∀ o ∈ L, o.ok w
theorem Part.below {w w' : World} {b off : Nat} {c : Array Value} (h : Part w b off c) (hb : Below w.heap.size w w') : Part w' b off c := fun j v hv => by
  have := h j v hv
  exact (hb.cell (p := ⟨b, off + j, none⟩) (World.block_lt_of_cell? w _ this)).trans this
theorem Opts.below {w w' : World} {a : Option Addr} {n cap : Nat} {L : List Ov} (h : Opts w a n cap L) (hb : Below w.heap.size w w') : Opts w' a n cap L := by
  refine ⟨h.len, h.le, h.max, h.isNil, fun k hk => ?_, fun o ho => (h.ok o ho).below hb⟩
  obtain ⟨b, off, he, hc⟩ := h.cell k hk
  exact ⟨b, off, he, hc.below hb⟩
theorem Opts.none (w : World) : Opts w none 0 0 [] := ⟨rfl, Nat.le_refl _, by decide, fun _ => rfl, fun k hk => by omega, fun o ho => by cases ho⟩
theorem Opts.at {w : World} {a : Option Addr} {n cap : Nat} {L : List Ov} (h : Opts w a n cap L) (k : Nat) (hk : k < n) : (L.getD k Ov.zero).ok w := by
  refine h.ok _ ?_
  rw [List.getD_eq_getElem?_getD, List.getElem?_eq_getElem (by rw [h.len]; exact hk)]
  exact List.getElem_mem _
/-- The cells of options, one behind the other. -/
def ocs (L : List Ov) : List Value := L.flatMap (·.cs.toList)
theorem ocs_length {L : List Ov} (h : ∀ o ∈ L, Adr o.ad) : (ocs L).length = L.length * 19 := by
  induction L with
  | nil => rfl
  | cons o L ih =>
    have := Ov.size (h o (by simp))
    simp only [ocs, List.flatMap_cons, List.length_append, Array.length_toList, List.length_cons] at ih ⊢
    rw [ih (fun x hx => h x (by simp [hx])), this]; omega
theorem ocs_one (L : List Ov) : ∀ u ∈ ocs L, u.oneCell' = true := by
  intro u hu
  simp only [ocs, List.mem_flatMap, Array.mem_toList_iff] at hu
  obtain ⟨o, _, hu⟩ := hu
  have := o.one
  rw [Array.all_eq_true_iff_forall_mem] at this
  exact this u hu
theorem ocs_at {L : List Ov} (h : ∀ o ∈ L, Adr o.ad) (k : Nat) (hk : k < L.length) (j : Nat) (hj : j < 19) : (ocs L)[k * 19 + j]? = (L.getD k Ov.zero).cs[j]? := by
  induction L generalizing k with
  | nil => simp at hk
  | cons o L ih =>
    have hs := Ov.size (h o (by simp))
    have e : ocs (o :: L) = o.cs.toList ++ ocs L := by simp [ocs]
    rw [e]
    cases k with
    | zero =>
      rw [List.getElem?_append_left (by rw [Array.length_toList, hs]; omega)]
      simp
    | succ k =>
      rw [List.getElem?_append_right (by rw [Array.length_toList, hs]; omega), Array.length_toList, hs, show (k + 1) * 19 + j - 19 = k * 19 + j by omega, ih (fun x hx => h x (by simp [hx])) k (by simpa using hk)]
      simp
/-- A row of options of the call's own. -/
theorem owns_opts {w : World} {base : Nat} {e : TypeId} {v : Value} {L : List Ov} (h : w.ownsRow base e 19 v L.length (ocs L)) (hok : ∀ o ∈ L, o.ok w) : ∃ a cap, v = .slice a L.length cap ∧ Opts w a L.length cap L := by
  have had : ∀ o ∈ L, Adr o.ad := fun o ho => (hok o ho).ad
  rcases h.2 with ⟨rfl, hn⟩ | ⟨g, cap, cur, rfl, hb, hg, hnc, hcm, hcs, hx⟩
  · exact ⟨Option.none, 0, by rw [hn], rfl, by omega, by decide, fun _ => rfl, fun k hk => by omega, hok⟩
  · refine ⟨_, cap, rfl, rfl, hnc, hcm, (fun h => by cases h), fun k hk => ⟨g, 0, rfl, ?_⟩, hok⟩
    intro j u hu
    have hadk : Adr (L.getD k Ov.zero).ad := had _ (by rw [List.getD_eq_getElem?_getD, List.getElem?_eq_getElem hk]; exact List.getElem_mem _)
    have hj : j < 19 := by have := (Array.getElem?_eq_some_iff.1 hu).1; rw [Ov.size hadk] at this; exact this
    rw [Nat.zero_add, cell_of_row w g _ cur e (0, 0) hg]
    have h1 : (cur.toList.take (L.length * 19))[k * 19 + j]? = (ocs L)[k * 19 + j]? := by rw [hx]
    rw [ocs_at had k hk j hj, hu, List.getElem?_take, if_pos (by omega)] at h1
    simpa using h1
end Go.Proofs.YtbklpelikaapoaaGreatDoor

namespace Go.Proofs.YtbklpelikaapoaaGreatDoor
open Go.ChangeShapes Go.WideShapes Go.ChangeAt Go.RowKit Go.Deep
set_option linter.unusedVariables false
set_option linter.unusedSimpArgs false

def wrds : List ByteArray := [⟨#[112, 97, 100]⟩, ⟨#[112, 97, 100, 115]⟩, ⟨#[109, 101, 116, 114, 105, 99]⟩, ⟨#[114, 111, 117, 116, 101]⟩, ⟨#[99, 111, 110, 102, 105, 103]⟩, ⟨#[116, 97, 114, 103, 101, 116]⟩, ⟨#[116, 114, 97, 110, 115, 105, 116]⟩, ⟨#[115, 111, 108, 105, 99, 105, 116, 101, 100]⟩, ⟨#[112, 114, 101, 102, 105, 120]⟩, ⟨#[100, 101, 115, 99, 114, 105, 112, 116, 111, 114]⟩]
def prts : List (List (Int × Int)) := [[], [(1, 255)], [], [(1, 128), (1, 255), (4, 4294967295), (16, 0)], [(1, 255), (1, 255), (1, 255), (1, 255), (2, 65535), (2, 65535), (2, 65535), (1, 0), (1, 255), (2, 65535)], [(1, 255), (1, 128), (16, 0)], [(1, 255), (1, 255), (1, 255), (1, 255)], [(1, 255), (1, 255), (16, 0), (1, 255)], [(1, 128), (1, 255), (4, 4294967295), (4, 4294967295), (4, 0), (16, 0)], [(4, 4294967295)]]
/-- A kind's word. -/
def wrd (k : Nat) : ByteArray := wrds.getD k ByteArray.empty
/-- A kind's parts. -/
def prt (k : Nat) : List (Int × Int) := prts.getD k []
def zer (k : Nat) : Bool := k == 1
def txb (k : Nat) : Bool := k == 2
/-- Parts in memory, below a bound. -/
structure PLies (B : Nat) (w : World) (a : Option Addr) (n cap : Nat) (l : List (Int × Int)) : Prop where
  len : l.length = n
  le : n ≤ cap
  max : cap ≤ maxLen
  cell : ∀ i, i < n → ∃ b off, a = some ⟨b, off, none⟩ ∧ b < B ∧ w.cell? ⟨b, off + i * 2, none⟩ = some (.int .i64 (l.getD i (0, 0)).1) ∧ w.cell? ⟨b, off + i * 2 + 1, none⟩ = some (.int .i64 (l.getD i (0, 0)).2)
/-- The table of kinds in memory. -/
structure Vars (B : Nat) (w : World) : Prop where
  pos : 1 < B
  le : B ≤ w.heap.size
  word : ∀ k, k < 10 → w.cell? ⟨1, k * 4, none⟩ = some (.string (wrd k))
  parts : ∀ k, k < 10 → ∃ a n cap, w.cell? ⟨1, k * 4 + 1, none⟩ = some (.slice a n cap) ∧ PLies B w a n cap (prt k)
  zeros : ∀ k, k < 10 → w.cell? ⟨1, k * 4 + 2, none⟩ = some (.bool (zer k))
  text : ∀ k, k < 10 → w.cell? ⟨1, k * 4 + 3, none⟩ = some (.bool (txb k))
theorem PLies.same {B : Nat} {w w' : World} {a : Option Addr} {n cap : Nat} {l : List (Int × Int)} (h : PLies B w a n cap l) (hc : ∀ b o, b < B → w'.cell? ⟨b, o, none⟩ = w.cell? ⟨b, o, none⟩) : PLies B w' a n cap l :=
  ⟨h.len, h.le, h.max, fun i hi => by
    obtain ⟨b, off, h1, h2, h3, h4⟩ := h.cell i hi
    exact ⟨b, off, h1, h2, (hc _ _ h2).trans h3, (hc _ _ h2).trans h4⟩⟩
theorem Vars.same {B : Nat} {w w' : World} (h : Vars B w) (hs : w.heap.size ≤ w'.heap.size) (hc : ∀ b o, b < B → w'.cell? ⟨b, o, none⟩ = w.cell? ⟨b, o, none⟩) : Vars B w' :=
  ⟨h.pos, Nat.le_trans h.le hs, fun k hk => (hc _ _ h.pos).trans (h.word k hk), fun k hk => by
    obtain ⟨a, n, cap, h1, h2⟩ := h.parts k hk
    exact ⟨a, n, cap, (hc _ _ h.pos).trans h1, h2.same hc⟩, fun k hk => (hc _ _ h.pos).trans (h.zeros k hk), fun k hk => (hc _ _ h.pos).trans (h.text k hk)⟩
theorem Vars.below {B : Nat} {w w' : World} (h : Vars B w) (hb : Below w.heap.size w w') : Vars B w' :=
  h.same hb.size (fun b o hlt => hb.cell (p := ⟨b, o, none⟩) (Nat.lt_of_lt_of_le hlt h.le))
theorem Vars.grown {B : Nat} {w w' : World} {c : Nat} (h : Vars B w) (hg : w.grownBy w' (some c)) (hc : B ≤ c) : Vars B w' :=
  h.same hg.size (fun b o hlt => by
    have := hg.block b (Nat.lt_of_lt_of_le hlt h.le) (fun e => by have := Option.some.inj e; omega)
    simp only [World.cell?, this])
theorem Vars.drewN {B : Nat} {w : World} (h : Vars B w) (q : Nat) : Vars B (w.drewN q) := h.same (Nat.le_refl _) (fun _ _ _ => rfl)

/-- Is a number a kind? -/
def kndB (n : Int) : Bool := decide (0 ≤ n ∧ n < 10)
theorem isKind_any (n : Int) (w : World) : Calls Tryz.prog 153 #[.int .i64 n] w fun e w' => e = .returned (.bool (kndB n)) ∧ w' = w := by
  have HV : Hid (kndB n = decide (0 ≤ n ∧ n < 10)) := rfl
  generalize kndB n = b at *
  by_cases h0 : 0 ≤ n
  · have e0 : decide (0 ≤ n) = true := decide_eq_true h0
    by_cases h1 : n < 10
    · have e1 : decide (n < 10) = true := decide_eq_true h1
      go_enter Tryz.func153, Tryz.ntmps153
      go_wp2
      go_ret
      exact ⟨ret_bool (by rw [HV.out]; simp; omega), rfl⟩
    · have e1 : decide (n < 10) = false := decide_eq_false h1
      go_enter Tryz.func153, Tryz.ntmps153
      go_wp2
      go_ret
      exact ⟨ret_bool (by rw [HV.out]; simp; omega), rfl⟩
  · have e0 : decide (0 ≤ n) = false := decide_eq_false h0
    go_enter Tryz.func153, Tryz.ntmps153
    go_wp2
    go_ret
    exact ⟨ret_bool (by rw [HV.out]; simp; omega), rfl⟩
def sumP (l : List (Int × Int)) : Int := (l.map (·.1)).sum
theorem sumP_succ (l : List (Int × Int)) (i : Nat) (h : i < l.length) : sumP (l.take (i + 1)) = sumP (l.take i) + (l.getD i (0, 0)).1 := by
  unfold sumP
  rw [List.take_succ_eq_append_getElem h, List.map_append, List.sum_append]; simp [h]
theorem prt_small : ∀ k, k < 10 → (prt k).length ≤ 10 ∧ ∀ i, i ≤ 10 → 0 ≤ sumP ((prt k).take i) ∧ sumP ((prt k).take i) ≤ 100 := by decide
theorem prt_size : ∀ k, k < 10 → ∀ i, i < (prt k).length → 0 ≤ ((prt k).getD i (0, 0)).1 ∧ ((prt k).getD i (0, 0)).1 ≤ 16 := by decide
set_option maxHeartbeats 400000 in
theorem partsSize_any {B : Nat} (k : Nat) (hk : k < 10) (w : World) (hV : Vars B w) : Calls Tryz.prog 168 #[.int .i64 k] w fun e w' => e = .returned (.int .i64 (sumP (prt k))) ∧ Below w.heap.size w w' := by
  obtain ⟨a, n, cap, c1, hP⟩ := hV.parts k hk
  have hsm := (prt_small k hk).1
  have HS := hid (prt_small k hk).2
  have HZ := hid (prt_size k hk)
  have hn10 : n ≤ 10 := by rw [← hP.len]; exact hsm
  have HV := hid hV
  have HP := hid hP
  generalize prt k = l at *
  clear hV hP hsm
  go_enter Tryz.func168, Tryz.ntmps168
  go_wp2
  go_loopw [3, 11] (fun v i wr => ∃ j : Nat, j ≤ n ∧ i = .int .i64 j ∧ v = .int .i64 (sumP (l.take j)) ∧ Hid (Below w.heap.size w wr)) (fun _ i _ => n - (intOf i).toNat)
  case atStart => exact ⟨0, Nat.zero_le _, rfl, rfl, Below.refl _ _⟩
  case round =>
    obtain ⟨j, hj, rfl, rfl, hb⟩ := hrel
    by_cases hlt : j < n
    · obtain ⟨b, off, rfl, hbB, hc0, hc1⟩ := (HP.out.same (fun b o hlt => hb.out.cell (p := ⟨b, o, none⟩) (Nat.lt_of_lt_of_le hlt HV.out.le))).cell j hlt
      have hs := HS.out j (by omega)
      have hs2 := HS.out (j + 1) (by omega)
      have HA := hid (sumP_succ l j (by rw [HP.out.len]; exact hlt))
      have hz := HZ.out j (by rw [HP.out.len]; exact hlt)
      rw [HA.out] at hs2
      generalize (l.getD j (0, 0)).1 = x at *
      generalize (l.getD j (0, 0)).2 = y at *
      generalize sumP (l.take j) = s at *
      go_wp2
      go_roundw
      case rel => exact ⟨j + 1, by omega, by go_num, by rw [HA.out], balloc hb.out _⟩
      case measure => simp [intOf]; omega
    · obtain rfl : j = n := by omega
      go_wp2
      go_ret
      exact ⟨ret_int (by rw [List.take_of_length_le (by rw [HP.out.len]; omega)]), hb.out⟩
end Go.Proofs.YtbklpelikaapoaaGreatDoor

namespace Go.Proofs.YtbklpelikaapoaaGreatDoor
open Go.ChangeShapes Go.WideShapes Go.ChangeAt Go.RowKit Go.Deep
set_option linter.unusedVariables false
set_option linter.unusedSimpArgs false

/-- An append of what was just laid down onto a row of the call's own, elements of any size. -/
theorem wpList_pushE {ops : Array Oper} {rest : List Oper} {o : Oper} {a : Act} {Q : Exit → Act → World → Prop} {w : World} {cs : Array Value} {base m : Nat} {v : Value} {xs : List Value} (hgd : o.guard = none) (s x : Operand)
    (t e : TypeId) (z : Value) (size bytes n : Nat) (ho : o.op = .call { callee := .builtin .append, args := #[s, x], argTypes := #[t, t] }) (hs : a.eval s = v) (hx : a.eval x = .slice (some ⟨w.heap.size, 0, none⟩) n n)
    (ht : Tryz.prog.underlying t = some (.slice e)) (hinf : (Tryz.prog.info? e).map (fun i => (i.zero, i.size, i.bytes)) = some (some z, size, bytes)) (hzs : z.cells.size = size) (hsz : 0 < size) (hby : bytes ≤ 100) (hcs : cs.size = n * size)
    (hown : w.ownsRow base e size v m xs) (h1 : ∀ u ∈ cs.toList, u.oneCell' = true) (hb : base ≤ w.heap.size) (hm : m + n ≤ 200000)
    (h : ∀ v' w', w'.ownsRow base e size v' (m + n) (xs ++ cs.toList) → Below base w w' → wpList Tryz.prog ops Q rest (a.put o.dst v') w') :
    wpList Tryz.prog ops Q (o :: rest) a (w.alloc (.cells cs e)) := by
  obtain ⟨i0, hi, hz0, hz1, hz2⟩ := info_parts hinf
  refine wpList_append_own _ hgd s x t ho base e i0 z size bytes ht hi hz0 hz1 hz2 hzs hsz v m xs hs (hown.alloc _) ⟨w.heap.size, 0, none⟩ n n cs.toList hx (by simpa using hcs) ?_ h1 (by unfold maxLen; omega) ?_ (by simp; omega) ?_
  · intro j u hj
    exact World.news_of_block (heap_alloc_new w _) j u hj
  · have : (m + n) * bytes ≤ 200000 * 100 := Nat.mul_le_mul hm hby
    omega
  · intro v' w' h2 h3 _
    refine h v' w' h2 (Below.grown ((Below.refl _ _).alloc hb _) h3 (by simp; omega) ?_)
    intro k hk
    exact (hown.lt k hk).1

theorem isAddress_any (x y : Int) (w : World) : Calls Tryz.prog 162 #[.agg #[.int .i64 x, .int .i64 y]] w fun e w' => e = .returned (.bool (x == 16)) ∧ Below w.heap.size w w' := by
  have B := hid (balloc (Below.refl w.heap.size w) (.cells #[.int .i64 x, .int .i64 y] 240))
  go_enter Tryz.func162, Tryz.ntmps162
  go_wp2
  go_ret
  exact ⟨rfl, B.out⟩

/-- The parts of a kind that are numbers. -/
def nmb (l : List (Int × Int)) : List (Int × Int) := l.filter (fun p => !(p.1 == 16))
def pcs (l : List (Int × Int)) : List Value := l.flatMap (fun p => [.int .i64 p.1, .int .i64 p.2])
theorem nmb_yes (l : List (Int × Int)) (i : Nat) (h : i < l.length) (hx : ((l.getD i (0, 0)).1 == 16) = false) : nmb (l.take (i + 1)) = nmb (l.take i) ++ [l.getD i (0, 0)] := by
  unfold nmb
  rw [List.take_succ_eq_append_getElem h, List.filter_append]
  simp [h] at hx ⊢
  simp [hx]
theorem nmb_no (l : List (Int × Int)) (i : Nat) (h : i < l.length) (hx : ((l.getD i (0, 0)).1 == 16) = true) : nmb (l.take (i + 1)) = nmb (l.take i) := by
  unfold nmb
  rw [List.take_succ_eq_append_getElem h, List.filter_append]
  simp [h] at hx ⊢
  simp [hx]
theorem nmb_le (l : List (Int × Int)) : (nmb l).length ≤ l.length := List.length_filter_le _ _
theorem info87 : (Tryz.prog.info? 240).map (fun i => (i.zero, i.size, i.bytes)) = some (some (.agg #[.int .i64 0, .int .i64 0]), 2, 16) := by kernel_rfl
theorem pcs_snoc (l : List (Int × Int)) (p : Int × Int) : pcs (l ++ [p]) = pcs l ++ [.int .i64 p.1, .int .i64 p.2] := by simp [pcs]
set_option maxHeartbeats 800000 in
theorem numbers_any {B : Nat} (k : Nat) (hk : k < 10) (w : World) (hV : Vars B w) : Calls Tryz.prog 161 #[.int .i64 k] w fun e w' => ∃ v, e = .returned v ∧ w'.ownsRow w.heap.size 240 2 v (nmb (prt k)).length (pcs (nmb (prt k))) ∧ Below w.heap.size w w' := by
  obtain ⟨a, n, cap, c1, hP⟩ := hV.parts k hk
  have hsm := (prt_small k hk).1
  have hn10 : n ≤ 10 := by rw [← hP.len]; exact hsm
  have HV := hid hV
  have HP := hid hP
  generalize prt k = l at *
  clear hV hP hsm
  go_enter Tryz.func161, Tryz.ntmps161
  go_wp2
  go_loopw [3, 11] (fun v i wr => ∃ j : Nat, j ≤ n ∧ i = .int .i64 j ∧ Hid (wr.ownsRow w.heap.size 240 2 v (nmb (l.take j)).length (pcs (nmb (l.take j)))) ∧ Hid (Below w.heap.size w wr)) (fun _ i _ => n - (intOf i).toNat)
  case atStart => exact ⟨0, Nat.zero_le _, rfl, World.ownsRow_nil _ _ _ _, Below.refl _ _⟩
  case round =>
    obtain ⟨j, hj, rfl, ho, hb⟩ := hrel
    by_cases hlt : j < n
    · obtain ⟨b, off, rfl, hbB, hc0, hc1⟩ := (HP.out.same (fun b o hlt => hb.out.cell (p := ⟨b, o, none⟩) (Nat.lt_of_lt_of_le hlt HV.out.le))).cell j hlt
      have HY := hid (nmb_yes l j (by rw [HP.out.len]; exact hlt))
      have HN := hid (nmb_no l j (by rw [HP.out.len]; exact hlt))
      have HL := hid (nmb_le (l.take j))
      have HE : Hid (pcs (nmb (l.take j) ++ [l.getD j (0, 0)]) = _) := pcs_snoc _ _
      generalize hp : l.getD j (0, 0) = p at *
      generalize hx : p.1 = x at *
      generalize hy : p.2 = y at *
      have hm : (nmb (l.take j)).length ≤ 10 := by have := HL.out; simp at this; omega
      have R0 := hid (Row.new wr 240 #[.int .i64 x, .int .i64 y])
      have B0 := hid (balloc hb.out (.cells #[.int .i64 x, .int .i64 y] 240))
      have O0 := hid (ho.out.alloc (.cells #[.int .i64 x, .int .i64 y] 240))
      cases h16 : (x == 16)
      · go_wp2_with fail
        refine (isAddress_any _ _ _).mono ?_
        rintro e w1 ⟨rfl, hb1⟩
        have hc0 := (R0.out.below hb1).cell 0
        have hc1 := (R0.out.below hb1).cell 1
        simp only [List.getElem?_toArray, List.getElem?_cons_zero, List.getElem?_cons_succ] at hc0 hc1
        have O1 := hid (own_below O0.out hb1)
        have B1 := hid (bthen B0.out hb1)
        clear hb1
        rw [h16]
        go_wp2_with (at_builtin; refine wpList_pushE rfl _ _ 234 240 (.agg #[.int .i64 0, .int .i64 0]) 2 16 1 rfl rfl rfl Tryz.underlying234 info87 rfl (by decide) (by decide) rfl O1.out ?c1 ?c2 ?c3o ?_)
        case c1 => first | rfl | exact ⟨rfl, rfl⟩
        case c2 => exact B1.out.size
        case c3o => omega
        intro v1 w2 ho1 hb2
        have HB := hid (B1.out.trans hb2)
        have HO := hid ho1
        clear ho1 hb2
        go_wp2
        go_roundw
        case rel =>
          refine ⟨j + 1, by omega, by go_num, ?_, HB.out⟩
          rw [Hid, HY.out h16, List.length_append, HE.out]
          exact HO.out
        case measure => simp [intOf]; omega
      · go_wp2_with fail
        refine (isAddress_any _ _ _).mono ?_
        rintro e w1 ⟨rfl, hb1⟩
        have O1 := hid (own_below O0.out hb1)
        have B1 := hid (bthen B0.out hb1)
        clear hb1
        rw [h16]
        go_wp2
        go_roundw
        case rel => exact ⟨j + 1, by omega, by go_num, by rw [Hid, HN.out h16]; exact O1.out, B1.out⟩
        case measure => simp [intOf]; omega
    · obtain rfl : j = n := by omega
      go_wp2
      go_ret
      refine ⟨_, rfl, ?_, hb.out⟩
      have := ho.out
      rwa [List.take_of_length_le (by rw [HP.out.len]; omega)] at this
end Go.Proofs.YtbklpelikaapoaaGreatDoor

namespace Go.Proofs.YtbklpelikaapoaaGreatDoor
open Go.ChangeShapes Go.WideShapes Go.ChangeAt Go.RowKit Go.Deep
set_option linter.unusedVariables false
set_option linter.unusedSimpArgs false

/-! How two addresses are compared. -/
theorem info5o : (Tryz.prog.info? 5).isSome = true := by kernel_rfl
theorem eqItems_u8 (w : World) (l m : List Int) (h : l.length = m.length) : ∀ (is : List Nat), (∀ i ∈ is, i < l.length) →
    (Op.eqItems 9999 5 (Tryz.prog.cellsOf 5) (arr l) (arr m) is).run Tryz.prog w = .ok (is.all fun i => l.getD i 0 == m.getD i 0) w
  | [], _ => by simp [Op.eqItems]
  | i :: is, hi => by
    have h1 : Tryz.prog.cellsOf 5 = 1 := by kernel_rfl
    have hil : i < l.length := hi i (by simp)
    have ih := eqItems_u8 w l m h is (fun j hj => hi j (by simp [hj]))
    have hp : ∀ l' : List Int, i < l'.length → (part 5 (arr l') (i * 1)).run Tryz.prog w = .ok (.int .u8 (l'.getD i 0)) w := by
      intro l' hl'
      have hagg : (isAgg 5).run Tryz.prog w = .ok false w := by unfold isAgg; rw [Sem.run_bind, run_underlying Tryz.underlying5 w]; rfl
      simp only [part, Sem.run_bind, hagg, Result.andThen_ok, Bool.false_eq_true, if_false, Nat.mul_one, arr_at l' i hl', Sem.run_pure]
    simp only [Op.eqItems, Sem.run_bind, h1, hp l hil, hp m (by omega), Result.andThen_ok, run_equalIn_int (P := Tryz.prog) w 9998 5 .u8 .u8 (l.getD i 0) (m.getD i 0) Tryz.underlying5]
    rw [h1] at ih
    cases hb : (l.getD i 0 == m.getD i 0)
    · simp only [List.all_cons, hb, Bool.false_and, Bool.not_false, if_true, Sem.run_pure]
    · simp only [List.all_cons, hb, Bool.true_and, Bool.not_true, Bool.false_eq_true, if_false]; exact ih
theorem all_eq (l m : List Int) (n : Nat) (hl : l.length = n) (hm : m.length = n) : ((List.range n).all fun i => l.getD i 0 == m.getD i 0) = (l == m) := by
  rw [Bool.eq_iff_iff]
  simp only [List.all_eq_true, List.mem_range, beq_iff_eq]
  constructor
  · intro h
    apply List.ext_getElem (by omega)
    intro i h1 h2
    have := h i (by omega)
    simpa [h1, h2] using this
  · rintro rfl i _; rfl
theorem eq41 (l m : List Int) (hl : l.length = 16) (hm : m.length = 16) : ∀ w : World, (Op.equalIn 10000 33 (.agg (arr l)) (.agg (arr m))).run Tryz.prog w = .ok (l == m) w := fun w => by
  obtain ⟨i, hi⟩ := Option.isSome_iff_exists.1 info5o
  rw [run_equalIn_array w 9999 (arr l) (arr m) Tryz.underlying33 hi, eqItems_u8 w l m (by omega) _ (by intro i hi; simp at hi; omega), all_eq l m 16 hl hm]
theorem size41 : (Tryz.prog.info? 33).map (·.size) = some 16 := by kernel_rfl
theorem size36 : (Tryz.prog.info? 22).map (·.size) = some 16 := by kernel_rfl
theorem built41 : Tryz.prog.built 33 [] = some (arr zeros) := by kernel_rfl
theorem ld41 {ops : Array Oper} {rest : List Oper} {o : Oper} {a : Act} {w : World} {Q : Exit → Act → World → Prop} (x : Operand) (ho : o.op = .load 33 x) (hw : Region.wanted o (yielded ops a.tmps) = true) (g off : Nat) (hx : a.eval x = .pointer (some ⟨g, off, none⟩)) (l : List Int) (hl : Adr l) (hg : Part w g off (arr l))
    (h : wpList Tryz.prog ops Q rest (a.put o.dst (.agg (arr l))) w) : wpList Tryz.prog ops Q (o :: rest) a w :=
  wp_ld 33 x ho hw g off hx (arr l) _ Tryz.underlying33 rfl (by rw [arr_size, hl.1]; exact size41) hg h
theorem bd41 {ops : Array Oper} {rest : List Oper} {o : Oper} {a : Act} {w : World} {Q : Exit → Act → World → Prop} (ho : o.op = .build 33 #[]) (hg : o.guard = none)
    (hn : wpList Tryz.prog ops Q rest (a.put o.dst (.agg (arr zeros))) w) : wpList Tryz.prog ops Q (o :: rest) a w :=
  wp_bd 33 _ ho hg (arr zeros) (by simp only [List.map_toArray, List.map_nil]; exact built41) hn

/-- A row of the call's own is a slice. -/
theorem owns_len {w : World} {base : Nat} {e : TypeId} {size : Nat} {v : Value} {n : Nat} {xs : List Value} (h : w.ownsRow base e size v n xs) : ∃ a cap, v = .slice a n cap := by
  rcases h.2 with ⟨rfl, hn⟩ | ⟨g, cap, cur, rfl, _⟩
  · exact ⟨none, 0, by rw [hn]⟩
  · exact ⟨_, cap, rfl⟩

def hasA (k : Nat) : Bool := decide ((nmb (prt k)).length < (prt k).length)
/-- Has an option what its kind has? -/
def frmB (k : Nat) (o : Po) : Bool := (o.n.length == (nmb (prt k)).length) && ((o.ad == zeros || hasA k) && (o.t.length == 0 || txb k))

set_option maxHeartbeats 800000 in
theorem formed_any {B : Nat} (o : Ov) (k : Nat) (hk : k < 10) (hok : o.k = k) (w : World) (ho : o.ok w) (hV : Vars B w) :
    Calls Tryz.prog 154 #[.agg o.cs] w fun e w' => e = .returned (.bool (frmB k o.p)) ∧ Below w.heap.size w w' := by
  have hq := eq41 o.ad zeros ho.ad.1 rfl
  have HR0 := hid (Row.new w 140 o.cs)
  have B0 := hid (balloc (Below.refl w.heap.size w) (.cells o.cs 140))
  have V0 := hid (hV.below B0.out)
  have HF : Hid (frmB k o.p = ((o.n.n == (nmb (prt k)).length) && ((o.ad == zeros || hasA k) && (o.t.n == 0 || txb k)))) := by rw [Hid, frmB, Ov.p, ho.n.1, ho.t.1]
  have hA : hasA k = decide ((nmb (prt k)).length < (prt k).length) := rfl
  have HA := hid ho.ad
  have hnle := (prt_small k hk).1
  have hmle := nmb_le (prt k)
  have hnl : o.n.n ≤ maxLen := Nat.le_trans ho.n.2.1 ho.n.2.2.1
  have htl : o.t.n ≤ maxLen := Nat.le_trans ho.t.2.1 ho.t.2.2.1
  unfold maxLen at hnl htl
  clear hV
  generalize frmB k o.p = fb at *
  generalize (o.ad == zeros) = zb at *
  go_enter Tryz.func154, Tryz.ntmps154
  go_upto_region 1 with fail
  generalize hw1 : w.alloc (.cells o.cs 140) = w1 at *
  have c0 := (HR0.out.cell 0).trans o.at0
  rw [hok] at c0
  clear hw1
  go_wp2_with fail
  refine (numbers_any k hk _ V0.out).mono ?_
  rintro e w2 ⟨v, rfl, hown, hb⟩
  obtain ⟨va, vc, rfl⟩ := owns_len hown
  have V1 := V0.out.below hb
  have R1 := hid (HR0.out.below hb)
  have B1 := hid (bthen B0.out hb)
  obtain ⟨sa, sn, sc, s1, hP⟩ := V1.parts k hk
  have s3 := V1.text k hk
  have hsn := hP.len
  clear hown hb c0 V1 hP HR0 B0 V0
  have c0 := (R1.out.cell 0).trans o.at0
  rw [hok] at c0
  have c1 := (R1.out.cell 1).trans o.at1
  have c18 := (R1.out.cell 18).trans (Ov.at18 HA.out)
  have PA := hid (R1.out.part.ovA HA.out)
  have HO := hid hok
  generalize (nmb (prt k)).length = m at *
  generalize (prt k).length = pn at *
  subst hsn
  clear hok
  generalize hasA k = ha at *
  generalize txb k = tb at *
  generalize o.n.n = nl at *
  generalize o.t.n = tl at *
  by_cases hlen : nl = m
  · have e1 : ((nl : Int) != (m : Int)) = false := by simp [hlen]
    have HL := hid hlen
    by_cases hlt : m < pn
    · have e2 : decide (m < pn) = true := decide_eq_true hlt
      have e2' : decide ((m : Int) < (pn : Int)) = true := decide_eq_true (by omega)
      rw [e2] at hA
      subst hA
      by_cases htl0 : tl = 0
      · have HT := hid htl0
        have e3 : ((tl : Int) == 0) = true := by simp [htl0]
        clear htl0 hlen
        cases zb <;>
        ( go_wp2_with (first | (refine ld41 _ rfl rfl w.heap.size (0 + 2) rfl o.ad HA.out PA.out ?_) | (refine bd41 rfl rfl ?_))
          go_ret
          exact ⟨ret_bool (by rw [HF.out, HL.out, HT.out]; simp), B1.out⟩)
      · have HT := hid htl0
        have e3 : ((tl : Int) == 0) = false := by simp [htl0]
        clear htl0 hlen
        cases zb <;> cases tb <;>
        ( go_wp2_with (first | (refine ld41 _ rfl rfl w.heap.size (0 + 2) rfl o.ad HA.out PA.out ?_) | (refine bd41 rfl rfl ?_))
          go_ret
          exact ⟨ret_bool (by rw [HF.out, HL.out]; simp [HT.out]), B1.out⟩)
    · have e2 : decide (m < pn) = false := decide_eq_false hlt
      have e2' : decide ((m : Int) < (pn : Int)) = false := decide_eq_false (by omega)
      rw [e2] at hA
      subst hA
      cases zb
      · clear hlen
        go_wp2_with (first | (refine ld41 _ rfl rfl w.heap.size (0 + 2) rfl o.ad HA.out PA.out ?_) | (refine bd41 rfl rfl ?_))
        go_ret
        exact ⟨ret_bool (by rw [HF.out]; simp), B1.out⟩
      · by_cases htl0 : tl = 0
        · have HT := hid htl0
          have e3 : ((tl : Int) == 0) = true := by simp [htl0]
          clear htl0 hlen
          go_wp2_with (first | (refine ld41 _ rfl rfl w.heap.size (0 + 2) rfl o.ad HA.out PA.out ?_) | (refine bd41 rfl rfl ?_))
          go_ret
          exact ⟨ret_bool (by rw [HF.out, HL.out, HT.out]; simp), B1.out⟩
        · have HT := hid htl0
          have e3 : ((tl : Int) == 0) = false := by simp [htl0]
          clear htl0 hlen
          cases tb <;>
          ( go_wp2_with (first | (refine ld41 _ rfl rfl w.heap.size (0 + 2) rfl o.ad HA.out PA.out ?_) | (refine bd41 rfl rfl ?_))
            go_ret
            exact ⟨ret_bool (by rw [HF.out, HL.out]; simp [HT.out]), B1.out⟩)
  · have e1 : ((nl : Int) != (m : Int)) = true := by rw [bne_iff_ne]; omega
    have HL := hid hlen
    clear hlen
    by_cases hlt : m < pn
    · have e2' : decide ((m : Int) < (pn : Int)) = true := decide_eq_true (by omega)
      go_wp2_with fail
      go_ret
      exact ⟨ret_bool (by rw [HF.out]; simp [HL.out]), B1.out⟩
    · have e2' : decide ((m : Int) < (pn : Int)) = false := decide_eq_false (by omega)
      go_wp2_with fail
      go_ret
      exact ⟨ret_bool (by rw [HF.out]; simp [HL.out]), B1.out⟩
end Go.Proofs.YtbklpelikaapoaaGreatDoor

namespace Go.Proofs.YtbklpelikaapoaaGreatDoor
open Go.ChangeShapes Go.WideShapes Go.ChangeAt Go.RowKit Go.Deep
set_option linter.unusedVariables false
set_option linter.unusedSimpArgs false

theorem pcs_at (l : List (Int × Int)) (k : Nat) (hk : k < l.length) : (pcs l)[k * 2]? = some (.int .i64 (l.getD k (0, 0)).1) ∧ (pcs l)[k * 2 + 1]? = some (.int .i64 (l.getD k (0, 0)).2) := by
  induction l generalizing k with
  | nil => simp at hk
  | cons p l ih =>
    have e : pcs (p :: l) = .int .i64 p.1 :: .int .i64 p.2 :: pcs l := by simp [pcs]
    rw [e]
    cases k with
    | zero => simp
    | succ k =>
      obtain ⟨h1, h2⟩ := ih k (by simpa using hk)
      rw [show (k + 1) * 2 = k * 2 + 1 + 1 by omega]
      simpa using ⟨h1, h2⟩
/-- A row of parts of the call's own. -/
theorem owns_parts {w : World} {base : Nat} {v : Value} {l : List (Int × Int)} (h : w.ownsRow base 240 2 v l.length (pcs l)) : ∃ a cap, v = .slice a l.length cap ∧ PLies w.heap.size w a l.length cap l := by
  rcases h.2 with ⟨rfl, hn⟩ | ⟨g, cap, cur, rfl, hb, hg, hnc, hcm, hcs, hx⟩
  · exact ⟨none, 0, by rw [hn], rfl, by omega, by decide, fun k hk => by omega⟩
  · refine ⟨_, cap, rfl, rfl, hnc, hcm, fun k hk => ⟨g, 0, rfl, (Array.getElem?_eq_some_iff.1 hg).1, ?_, ?_⟩⟩
    · have h1 : (cur.toList.take (l.length * 2))[k * 2]? = (pcs l)[k * 2]? := by rw [hx]
      rw [(pcs_at l k hk).1, List.getElem?_take, if_pos (by omega)] at h1
      rw [Nat.zero_add, cell_of_row w g _ cur 240 (0, 0) hg]
      simpa using h1
    · have h1 : (cur.toList.take (l.length * 2))[k * 2 + 1]? = (pcs l)[k * 2 + 1]? := by rw [hx]
      rw [(pcs_at l k hk).2, List.getElem?_take, if_pos (by omega)] at h1
      rw [Nat.zero_add, cell_of_row w g _ cur 240 (0, 0) hg]
      simpa using h1
theorem PLies.below {w w' : World} {a : Option Addr} {n cap : Nat} {l : List (Int × Int)} (h : PLies w.heap.size w a n cap l) (hb : Below w.heap.size w w') : PLies w.heap.size w' a n cap l :=
  h.same (fun b o hlt => hb.cell (p := ⟨b, o, none⟩) hlt)

/-- Is each number one that may be there? -/
def inB (p : Int × Int) (n : Int) : Bool := decide (0 ≤ n ∧ n ≤ p.2)
def widB (l : List (Int × Int)) (n : List Int) : Bool := (List.range l.length).all fun i => inB (l.getD i (0, 0)) (n.getD i 0)
def widTo (l : List (Int × Int)) (n : List Int) (j : Nat) : Bool := (List.range j).all fun i => inB (l.getD i (0, 0)) (n.getD i 0)
theorem widTo_succ (l : List (Int × Int)) (n : List Int) (j : Nat) : widTo l n (j + 1) = (widTo l n j && inB (l.getD j (0, 0)) (n.getD j 0)) := by
  unfold widTo; rw [List.range_succ, List.all_append]; simp
theorem widTo_no (l : List (Int × Int)) (n : List Int) (j : Nat) (h : j < l.length) (hn : inB (l.getD j (0, 0)) (n.getD j 0) = false) : widB l n = false := by
  unfold widB; rw [List.all_eq_false]; exact ⟨j, by simpa using h, by simpa using hn⟩

set_option maxHeartbeats 800000 in
theorem oWithin_any {B : Nat} (o : Ov) (k : Nat) (hk : k < 10) (hok : o.k = k) (w : World) (ho : o.ok w) (hV : Vars B w) (hlen : o.n.n = (nmb (prt k)).length) :
    Calls Tryz.prog 155 #[.agg o.cs] w fun e w' => e = .returned (.bool (widB (nmb (prt k)) o.n.l)) ∧ Below w.heap.size w w' := by
  have HR0 := hid (Row.new w 140 o.cs)
  have B0 := hid (balloc (Below.refl w.heap.size w) (.cells o.cs 140))
  have V0 := hid (hV.below B0.out)
  have L0 := hid (ho.n.below B0.out)
  have hm10 : (nmb (prt k)).length ≤ 10 := Nat.le_trans (nmb_le (prt k)) (prt_small k hk).1
  clear hV
  go_enter Tryz.func155, Tryz.ntmps155
  go_upto_region 1 with fail
  generalize hw1 : w.alloc (.cells o.cs 140) = w1 at *
  have c0 := (HR0.out.cell 0).trans o.at0
  rw [hok] at c0
  clear hw1
  go_wp2_with fail
  refine (numbers_any k hk _ V0.out).mono ?_
  rintro e w2 ⟨v, rfl, hown, hb⟩
  obtain ⟨va, vc, rfl, hPL⟩ := owns_parts hown
  have HP := hid hPL
  have R1 := hid (HR0.out.below hb)
  have B1 := hid (bthen B0.out hb)
  have L1 := hid (L0.out.below hb)
  clear hown hb c0 hPL HR0 B0 V0 L0
  generalize hnl : nmb (prt k) = l at *
  have HNL := hid hnl
  clear hnl
  have HL := hid hlen
  generalize hn : l.length = n at *
  have HN := hid hn
  clear hlen hn
  go_wp2_with fail
  go_loopw [9] (fun i wr => ∃ j : Nat, j ≤ n ∧ i = .int .i64 j ∧ Hid (widTo l o.n.l j = true) ∧ Hid (Below w2.heap.size w2 wr)) (fun i _ => n - (intOf i).toNat)
  case atStart => exact ⟨0, Nat.zero_le _, rfl, rfl, Below.refl _ _⟩
  case round =>
    obtain ⟨j, hj, rfl, hw, hb⟩ := hrel
    by_cases hlt : j < n
    · have hlt' : (j : Int) < (n : Int) := by omega
      obtain ⟨b, off, rfl, hbB, hc0, hc1⟩ := (HP.out.below hb.out).cell j hlt
      obtain ⟨b2, off2, hna, hc2⟩ := (L1.out.below hb.out).2.2.2.2 j (by rw [HL.out]; exact hlt)
      have HS := hid (widTo_succ l o.n.l j)
      have HF := hid (widTo_no l o.n.l j (by rw [HN.out]; exact hlt))
      generalize hp : l.getD j (0, 0) = p at *
      have HI : Hid (inB p (o.n.l.getD j 0) = decide (0 ≤ o.n.l.getD j 0 ∧ o.n.l.getD j 0 ≤ p.2)) := rfl
      generalize p.1 = x at *
      generalize p.2 = y at *
      generalize o.n.l.getD j 0 = z at *
      have B3 := hid (balloc (Below.refl wr.heap.size wr) (.cells #[.int .i64 x, .int .i64 y] 240))
      have B4 := hid (bthen hb.out B3.out)
      have R3 := hid (Row.new wr 240 #[.int .i64 x, .int .i64 y])
      go_upto_region 4 with fail
      generalize wr.alloc (.cells #[.int .i64 x, .int .i64 y] 240) = w3 at *
      have d1 := ((R1.out.below B4.out).cell 1).trans o.at1
      rw [hna, HL.out] at d1
      have d2 := (B3.out.cell (p := ⟨b2, off2 + j, none⟩) (World.block_lt_of_cell? wr _ hc2)).trans hc2
      have d3 := R3.out.cell 1
      simp only [List.getElem?_toArray, List.getElem?_cons_zero, List.getElem?_cons_succ] at d3
      clear hc0 hc1 hc2
      generalize wr.heap.size = g3 at *
      by_cases h0 : z < 0
      · have f0 : decide (z < 0) = true := decide_eq_true h0
        go_quiet (fail)
        go_wp2_with fail
        go_ret
        exact ⟨ret_bool (by rw [HNL.out]; exact (HF.out (by rw [HI.out]; simp; omega)).symm), bdrew (bthen B1.out B4.out) _⟩
      · have f0 : decide (z < 0) = false := decide_eq_false h0
        by_cases h1 : y < z
        · have f1 : decide (y < z) = true := decide_eq_true h1
          go_quiet (fail)
          go_wp2_with fail
          go_ret
          exact ⟨ret_bool (by rw [HNL.out]; exact (HF.out (by rw [HI.out]; simp; omega)).symm), bdrew (bthen B1.out B4.out) _⟩
        · have f1 : decide (y < z) = false := decide_eq_false h1
          go_quiet (fail)
          go_wp2_with fail
          go_roundw
          case rel => exact ⟨j + 1, by omega, by go_num, by rw [Hid, HS.out, hw.out, HI.out]; simp; omega, bdrew B4.out _⟩
          case measure => simp [intOf]; omega
    · obtain rfl : j = n := by omega
      go_wp2_with fail
      go_ret
      exact ⟨ret_bool (by rw [HNL.out, widB, HN.out]; exact hw.out.symm), bthen B1.out hb.out⟩

/-- What is wrong with an option. -/
def chkP (o : Po) : Int := if kndB o.k = false then 6 else if frmB o.k.toNat o = false then 3 else if widB (nmb (prt o.k.toNat)) o.n = false then 1 else if 64 < o.t.length then 2 else 0
theorem frm_len {k : Nat} {o : Po} (h : frmB k o = true) : o.n.length = (nmb (prt k)).length := by
  simp [frmB] at h; exact h.1
set_option maxHeartbeats 800000 in
theorem optCheck_any {B : Nat} (o : Ov) (w : World) (ho : o.ok w) (hV : Vars B w) :
    Calls Tryz.prog 139 #[.agg o.cs] w fun e w' => e = .returned (.int .i64 (chkP o.p)) ∧ Below w.heap.size w w' := by
  have HR0 := hid (Row.new w 140 o.cs)
  have B0 := hid (balloc (Below.refl w.heap.size w) (.cells o.cs 140))
  have V0 := hid (hV.below B0.out)
  have O0 := hid (ho.below B0.out)
  have HA := hid ho.ad
  have HT := hid ho.t.1
  have HN := hid ho.n.1
  have htl : o.t.n ≤ maxLen := Nat.le_trans ho.t.2.1 ho.t.2.2.1
  unfold maxLen at htl
  clear hV ho
  cases hkd : kndB o.k
  · have HC : Hid (chkP o.p = 6) := by rw [Hid, chkP, if_pos (by exact hkd)]
    go_enter Tryz.func139, Tryz.ntmps139
    go_upto_region 2 with fail
    generalize hw1 : w.alloc (.cells o.cs 140) = w1 at *
    have c0 := (HR0.out.cell 0).trans o.at0
    clear hw1
    go_wp2_with fail
    refine (isKind_any _ _).mono ?_
    rintro e w1 ⟨rfl, rfl⟩
    rw [hkd]
    go_wp2_with fail
    go_ret
    exact ⟨ret_int HC.out.symm, B0.out⟩
  · have hn : 0 ≤ o.k ∧ o.k < 10 := by simpa [kndB] using hkd
    obtain ⟨k, hok⟩ : ∃ k : Nat, o.k = k := ⟨o.k.toNat, by omega⟩
    have hk : k < 10 := by omega
    have HC : Hid (chkP o.p = if frmB k o.p = false then 3 else if widB (nmb (prt k)) o.n.l = false then 1 else if 64 < o.t.l.length then 2 else 0) := by
      rw [Hid, chkP, if_neg (by rw [show o.p.k = o.k from rfl, hkd]; simp), show o.p.k = o.k from rfl, hok]; rfl
    have HFL : Hid (frmB k o.p = true → o.n.n = (nmb (prt k)).length) := fun h => by rw [← HN.out]; exact frm_len h
    have HK := hid hok
    rw [hok] at hkd
    clear hn hok
    go_enter Tryz.func139, Tryz.ntmps139
    go_upto_region 2 with fail
    generalize hw1 : w.alloc (.cells o.cs 140) = w1 at *
    have c0 := (HR0.out.cell 0).trans o.at0
    rw [HK.out] at c0
    clear hw1
    go_wp2_with fail
    refine (isKind_any _ _).mono ?_
    rintro e w1 ⟨rfl, rfl⟩
    rw [hkd]
    go_wp2_with (refine ldOo o43 _ rfl rfl w.heap.size 0 rfl o HA.out HR0.out.part ?_)
    refine (formed_any o k hk HK.out _ O0.out V0.out).mono ?_
    rintro e w2 ⟨rfl, hb2⟩
    have R2 := hid (HR0.out.below hb2)
    have B2 := hid (bthen B0.out hb2)
    have V2 := hid (V0.out.below hb2)
    have O2 := hid (O0.out.below hb2)
    clear hb2 B0 O0 V0 HR0 c0
    cases hf : frmB k o.p
    · rw [hf] at HC
      go_wp2_with fail
      go_ret
      exact ⟨ret_int (by rw [HC.out]; rfl), B2.out⟩
    · rw [hf] at HC HFL
      have HL := hid (HFL.out rfl)
      go_wp2_with (refine ldOo o43 _ rfl rfl w.heap.size 0 rfl o HA.out R2.out.part ?_)
      refine (oWithin_any o k hk HK.out _ O2.out V2.out HL.out).mono ?_
      rintro e w3 ⟨rfl, hb3⟩
      have R3 := hid (R2.out.below hb3)
      have B3 := hid (bthen B2.out hb3)
      clear hb3 R2 V2 O2
      cases hwd : widB (nmb (prt k)) o.n.l
      · rw [hwd] at HC
        go_wp2_with fail
        go_ret
        exact ⟨ret_int (by rw [HC.out]; rfl), B3.out⟩
      · rw [hwd] at HC
        have c18 := (R3.out.cell 18).trans (Ov.at18 HA.out)
        have HT' : Hid (o.t.l.length = o.t.n) := HT
        generalize o.t.n = tl at *
        by_cases h64 : 64 < tl
        · have h64' : (64 : Int) < (tl : Int) := by omega
          go_wp2_with fail
          go_ret
          exact ⟨ret_int (by rw [HC.out, HT'.out, if_neg (by simp), if_neg (by simp), if_pos h64]), B3.out⟩
        · have h64' : ¬ (64 : Int) < (tl : Int) := by omega
          go_wp2_with fail
          go_ret
          exact ⟨ret_int (by rw [HC.out, HT'.out, if_neg (by simp), if_neg (by simp), if_neg h64]), B3.out⟩
end Go.Proofs.YtbklpelikaapoaaGreatDoor

namespace Go.Proofs.YtbklpelikaapoaaGreatDoor
open Go.ChangeShapes Go.WideShapes Go.ChangeAt Go.RowKit Go.Deep
set_option linter.unusedVariables false
set_option linter.unusedSimpArgs false

/-- An append of bytes that lie somewhere onto a row of the call's own. -/
theorem wpList_appB {ops : Array Oper} {rest : List Oper} {o : Oper} {a : Act} {Q : Exit → Act → World → Prop} {w : World} {base n m cap : Nat} {v : Value} {xs l : List Int} {ao : Option Addr} (hgd : o.guard = none) (s x : Operand)
    (ho : o.op = .call { callee := .builtin .append, args := #[s, x], argTypes := #[30, 30] }) (hs : a.eval s = v) (hx : a.eval x = .slice ao m cap)
    (hown : w.ownsRow base 5 1 v n (u8s xs)) (hl : Lies .u8 w ao m cap l) (hb : base ≤ w.heap.size) (hm : n + m ≤ 200000)
    (h : ∀ v' w', w'.ownsRow base 5 1 v' (n + m) (u8s (xs ++ l)) → Below base w w' → wpList Tryz.prog ops Q rest (a.put o.dst v') w') :
    wpList Tryz.prog ops Q (o :: rest) a w := by
  obtain ⟨i0, hi, hz0, hz1, hz2⟩ := info_parts info5
  refine wpList_append_own_any w hgd s x 30 ho base 5 i0 (.int .u8 0) 1 1 Tryz.underlying30 hi hz0 hz1 hz2 rfl (by decide) v n _ hs hown ao m cap (u8s l) hx (by rw [u8s_len, hl.1]; omega) hl.isNil (fun ad had => hl.cells ad had) (ints_oneCell8 l .u8) (by unfold maxLen; omega) (by omega) hb ?_
  intro v' w' h2 h3
  exact h v' w' (by rw [u8s, List.map_append]; exact h2) h3

/-- The bytes of parts. -/
def partsB : List (Int × Int) → List Int → List Int → List Int
  | [], _, _ => []
  | p :: l, n, ad => if (p.1 == 16) = true then ad ++ partsB l n ad else digs p.1 (n.headD 0) ++ partsB l n.tail ad
theorem partsB_snoc (l : List (Int × Int)) (p : Int × Int) (n ad : List Int) : partsB (l ++ [p]) n ad = partsB l n ad ++ (if (p.1 == 16) = true then ad else digs p.1 (n.getD (nmb l).length 0)) := by
  induction l generalizing n with
  | nil => simp [partsB, nmb]; split <;> cases n <;> simp
  | cons q l ih =>
    simp only [List.cons_append, partsB]
    split
    · rename_i h
      rw [ih, List.append_assoc]
      simp [nmb, h]
    · rename_i h
      rw [ih, List.append_assoc]
      simp only [nmb, List.filter_cons, h]
      simp only [Bool.not_eq_true] at h
      cases n <;> simp
theorem partsB_succ (l : List (Int × Int)) (n ad : List Int) (j : Nat) (h : j < l.length) : partsB (l.take (j + 1)) n ad = partsB (l.take j) n ad ++ (if ((l.getD j (0, 0)).1 == 16) = true then ad else digs (l.getD j (0, 0)).1 (n.getD (nmb (l.take j)).length 0)) := by
  rw [List.take_succ_eq_append_getElem h, partsB_snoc]; simp [h]
theorem prt_sizes : ∀ k, k < 10 → ∀ p ∈ prt k, (p.1 == 16) = true ∨ (sizeB p.1 = true ∧ p.2 < top p.1) := by decide
theorem partsB_length (l : List (Int × Int)) (h : ∀ p ∈ l, (p.1 == 16) = true ∨ sizeB p.1 = true) (n ad : List Int) (ha : ad.length = 16) : ((partsB l n ad).length : Int) = sumP l := by
  induction l generalizing n with
  | nil => rfl
  | cons p l ih =>
    have hs : sumP (p :: l) = p.1 + sumP l := by simp [sumP]
    rw [hs, partsB]
    split
    · rename_i h16
      rw [List.length_append, ha, Int.natCast_add, ih (fun q hq => h q (by simp [hq]))]
      have : p.1 = 16 := by simpa using h16
      omega
    · rename_i h16
      rcases h p (by simp) with hp | hp
      · exact absurd hp h16
      · rw [List.length_append, digs_length _ _ hp, Int.natCast_add, ih (fun q hq => h q (by simp [hq]))]
        rcases sizeB_cases hp with e | e | e <;> rw [e] <;> rfl
/-- What is behind the length. -/
def conP (k : Nat) (o : Po) : List Int := if zer k = true then List.replicate (o.n.getD 0 0).toNat 0 else partsB (prt k) o.n o.ad ++ o.t
/-- The number of a part. -/
theorem nmb_get (l : List (Int × Int)) (j : Nat) (h : j < l.length) (h16 : ((l.getD j (0, 0)).1 == 16) = false) : (nmb (l.take j)).length < (nmb l).length ∧ (nmb l).getD (nmb (l.take j)).length (0, 0) = l.getD j (0, 0) := by
  have e : nmb l = nmb (l.take j) ++ ([l.getD j (0, 0)] ++ nmb (l.drop (j + 1))) := by
    rw [← List.append_assoc, ← nmb_yes l j h h16, nmb, nmb, nmb, ← List.filter_append, List.take_append_drop]
  rw [e]
  simp

theorem made_u8 (n : Nat) : (madeCells #[Value.int .u8 0] n).toList = u8s (List.replicate n 0) := by
  apply List.ext_getElem?
  intro i
  by_cases h : i < n
  · simp [madeCells, u8s, h, Nat.mod_one]
  · simp [madeCells, u8s, h]
/-- The pads. -/
theorem content_zeros {B : Nat} (o : Ov) (hok : o.k = 1) (w : World) (ho : o.ok w) (hV : Vars B w) (m : Nat) (hm : o.n.l = [(m : Int)]) (hm255 : m ≤ 255) :
    Calls Tryz.prog 156 #[.agg o.cs] w fun e w' => ∃ v, e = .returned v ∧ w'.ownsRow w.heap.size 5 1 v m (u8s (List.replicate m 0)) ∧ Below w.heap.size w w' := by
  obtain ⟨i0, hi, hz0, hz1, hz2⟩ := info_parts info5
  have HR0 := hid (Row.new w 140 o.cs)
  have B0 := hid (balloc (Below.refl w.heap.size w) (.cells o.cs 140))
  have V0 := hid (hV.below B0.out)
  have hnn : o.n.n = 1 := by rw [← ho.n.1, hm]; rfl
  obtain ⟨b, off, hna, hcn⟩ := (ho.n.below B0.out).2.2.2.2 0 (by omega)
  rw [hm] at hcn
  simp only [List.getD_cons_zero, Nat.add_zero] at hcn
  clear hV ho
  go_enter Tryz.func156, Tryz.ntmps156
  go_upto_region 1 with fail
  generalize hw1 : w.alloc (.cells o.cs 140) = w1 at *
  have c0 := (HR0.out.cell 0).trans o.at0
  rw [hok] at c0
  have c1 := (HR0.out.cell 1).trans o.at1
  rw [hna, hnn] at c1
  have s2 := V0.out.zeros 1 (by decide)
  simp only [Nat.one_mul] at s2
  rw [show zer 1 = true from rfl] at s2
  have HI := hid hi
  clear hw1 hok hm hnn hna
  go_wp2_with (at_make; refine wpList_make_full _ rfl _ _ 30 rfl w.heap.size 5 i0 (.int .u8 0) 1 Tryz.underlying30 HI.out hz0 hz1 .i64 .i64 _ _ m rfl rfl rfl rfl ?b1 ?b2 ?b3 ?_)
  case b1 => rw [hz2]; omega
  case b2 => unfold maxLen; omega
  case b3 => exact B0.out.size
  intro w2 hown hg
  have B2 := hid (Below.grown B0.out hg B0.out.size (fun k hk => by cases hk))
  rw [made_u8] at hown
  have HO := hid hown
  clear hown hg
  go_wp2_with fail
  go_ret
  exact ⟨_, rfl, HO.out, B2.out⟩
/-- One number more. -/
theorem putOne (v : Value) (base : Nat) (bs : List Int) (size z : Int) (al : Option Addr) (cl : Nat) (w : World) (hown : w.ownsRow base 5 1 v bs.length (u8s bs)) (hl : Lies .i64 w al 1 cl [z]) (hz : sizeB size = true) (hn : okB size z = true) (hlb : bs.length ≤ 1200) :
    Calls Tryz.prog 53 #[v, .int .i64 size, .slice al 1 cl] w fun e w' => ∃ v', e = .returned (.tuple #[v', .int .i64 0]) ∧ w'.ownsRow w.heap.size 5 1 v' (bs ++ digs size z).length (u8s (bs ++ digs size z)) ∧ Below w.heap.size w w' := by
  obtain ⟨a, cap, rfl, hL, _⟩ := owns_lies hown
  have hsz : size.toNat ≤ 4 := by rcases sizeB_cases hz with rfl | rfl | rfl <;> decide
  refine (put_ok a al bs.length cap 1 cl size bs [z] w hL hl (by simp [fitsB, hz, hn]) (by omega)).mono ?_
  rintro e w' ⟨v', rfl, h1, h2⟩
  have e1 : bytesOf size [z] = digs size z := by simp [bytesOf]
  rw [e1] at h1
  exact ⟨v', rfl, h1, h2⟩

theorem slice_eq {a a' : Option Addr} {n n' c c' : Nat} (h : a = a') (hn : n = n') (hc : c = c') : Value.slice a n c = .slice a' n' c' := by rw [h, hn, hc]
theorem part_len {k : Nat} (hk : k < 10) (j : Nat) (hj : j ≤ (prt k).length) (n ad : List Int) (ha : ad.length = 16) : (partsB ((prt k).take j) n ad).length ≤ 100 := by
  have h1 := partsB_length ((prt k).take j) (fun p hp => by rcases prt_sizes k hk p (List.mem_of_mem_take hp) with h | h; exact .inl h; exact .inr h.1) n ad ha
  have h2 := ((prt_small k hk).2 j (by have := (prt_small k hk).1; omega)).2
  omega
set_option maxHeartbeats 1600000 in
theorem content_parts {B : Nat} (o : Ov) (k : Nat) (hk : k < 10) (hok : o.k = k) (hk1 : zer k = false) (w : World) (ho : o.ok w) (hV : Vars B w) (hlen : o.n.n = (nmb (prt k)).length) (hwd : widB (nmb (prt k)) o.n.l = true) (ht64 : o.t.n ≤ 64) :
    Calls Tryz.prog 156 #[.agg o.cs] w fun e w' => ∃ v, e = .returned v ∧ w'.ownsRow w.heap.size 5 1 v (partsB (prt k) o.n.l o.ad ++ o.t.l).length (u8s (partsB (prt k) o.n.l o.ad ++ o.t.l)) ∧ Below w.heap.size w w' := by
  have HR0 := hid (Row.new w 140 o.cs)
  have B0 := hid (balloc (Below.refl w.heap.size w) (.cells o.cs 140))
  have V0 := hid (hV.below B0.out)
  have O0 := hid (ho.below B0.out)
  have HA := hid ho.ad
  have HW := hid hwd
  have HL := hid hlen
  have HK := hid hok
  have HKK := hid hk
  obtain ⟨a, n, cap, c1, hP⟩ := V0.out.parts k hk
  have s2 := V0.out.zeros k hk
  rw [hk1] at s2
  have hn10 : n ≤ 10 := by rw [← hP.len]; exact (prt_small k hk).1
  have HP := hid hP
  have HQ := hid (fun j hj => part_len hk j hj o.n.l o.ad ho.ad.1)
  have HZ := hid (prt_sizes k hk)
  have HN0 := hid ho.n.1
  have HNl : o.n.n ≤ 10 := by rw [hlen]; exact Nat.le_trans (nmb_le _) (prt_small k hk).1
  clear hV ho hP hwd hlen hk1
  go_enter Tryz.func156, Tryz.ntmps156
  go_upto_region 1 with fail
  generalize hw1 : w.alloc (.cells o.cs 140) = w1 at *
  have d0 := (HR0.out.cell 0).trans o.at0
  rw [HK.out] at d0
  have d1 := (HR0.out.cell 1).trans o.at1
  clear hw1 hok
  go_wp2_with fail
  go_loopw [3, 4, 25] (fun v lv i wr => ∃ j la ll lc, j ≤ n ∧ i = .int .i64 (j : Nat) ∧ lv = .slice la ll lc ∧ Hid (Lies .i64 w1 la ll lc (o.n.l.drop (nmb ((prt k).take j)).length)) ∧ Hid (wr.ownsRow w1.heap.size 5 1 v (partsB ((prt k).take j) o.n.l o.ad).length (u8s (partsB ((prt k).take j) o.n.l o.ad))) ∧ Hid (Below w1.heap.size w1 wr)) (fun _ _ i _ => n - (intOf i).toNat)
  case atStart => exact ⟨0, _, _, _, Nat.zero_le _, rfl, rfl, O0.out.n, World.ownsRow_nil _ _ _ _, Below.refl _ _⟩
  case round =>
    obtain ⟨j, la, ll, lc, hj, rfl, rfl, hla, hown, hb⟩ := hrel
    by_cases hlt : j < n
    · obtain ⟨b, off, rfl, hbB, hc0, hc1⟩ := (HP.out.same (fun b o hlt => hb.out.cell (p := ⟨b, o, none⟩) (Nat.lt_of_lt_of_le hlt V0.out.le))).cell j hlt
      have hjl : j < (prt k).length := by rw [HP.out.len]; exact hlt
      have HS := hid (partsB_succ (prt k) o.n.l o.ad j hjl)
      have HY := hid (nmb_yes (prt k) j hjl)
      have HNo := hid (nmb_no (prt k) j hjl)
      have HG := hid (nmb_get (prt k) j hjl)
      have hq := HQ.out j (by omega)
      have HZp := hid (HZ.out ((prt k).getD j (0, 0)) (by simp [hjl]))
      generalize hp : (prt k).getD j (0, 0) = p at *
      generalize hout : partsB ((prt k).take j) o.n.l o.ad = out at *
      generalize hcn : (nmb ((prt k).take j)).length = cn at *
      have HCN := hid hcn
      clear hp hout hcn hjl
      have HPP : Hid (p.1 = p.1 ∧ p.2 = p.2) := ⟨rfl, rfl⟩
      generalize hx : p.1 = x at *
      generalize hy : p.2 = y at *
      have R0 := hid (Row.new wr 240 #[.int .i64 x, .int .i64 y])
      have B1 := hid (balloc (Below.refl wr.heap.size wr) (.cells #[.int .i64 x, .int .i64 y] 240))
      cases h16 : (x == 16)
      · obtain ⟨hcl, hcg⟩ := HG.out h16
        have hll : ll = o.n.n - cn := by rw [← hla.out.1, List.length_drop, HN0.out]
        have hcl' : cn < o.n.n := by rw [HL.out]; exact hcl
        obtain ⟨b2, off2, rfl, hz⟩ := (hla.out.below hb.out).2.2.2.2 0 (by omega)
        have hzg : (o.n.l.drop cn).getD 0 0 = o.n.l.getD cn 0 := by simp [List.getD]
        have hin : inB ((nmb (prt k)).getD cn (0, 0)) (o.n.l.getD cn 0) = true := by
          have := HW.out
          rw [widB, List.all_eq_true] at this
          exact this cn (by simpa using hcl)
        rw [hzg] at hz
        rw [hcg] at hin
        have hin' : 0 ≤ o.n.l.getD cn 0 ∧ o.n.l.getD cn 0 ≤ p.2 := by simpa [inB] using hin
        rw [hy] at hin'
        have hsz : sizeB x = true ∧ y < top x := by
          rcases HZp.out with h | h
          · rw [h16] at h; cases h
          · exact h
        have hokz : okB x (o.n.l.getD cn 0) = true := by simp only [okB, decide_eq_true_eq]; omega
        generalize hzz : o.n.l.getD cn 0 = z at *
        have HOK := hid hokz
        have HSZ := hid hsz.1
        have hl1 : 1 ≤ ll := by omega
        have hl0 : 0 < ll := by omega
        have hl0' : (0 : Int) < (ll : Int) := by omega
        have hlc1 : ll ≤ lc := hla.out.2.1
        have hcut := hla.out.cut 1 (ll - 1) lc (by omega) (by omega) (Nat.le_refl _) (a' := if lc = 1 then some ⟨b2, off2, none⟩ else some ⟨b2, off2 + 1, none⟩) (fun h => by rw [if_neg (by omega)]; simp [Addr.add_lit]) (fun h => by rw [if_pos (by omega)])
        have HCut := hid hcut
        have hlcm : lc ≤ maxLen := hla.out.2.2.1
        unfold maxLen at hlcm
        clear hcut hokz hsz hin hin' hzg hcg hcl hcl' hll hzz
        rw [Nat.add_zero] at hz
        go_wp2_with fail
        refine (isAddress_any _ _ _).mono ?_
        rintro e w3 ⟨rfl, hb3⟩
        have B3 := hid (bthen B1.out hb3)
        have B4 := hid (bthen hb.out B3.out)
        have O3 := hid (own_below hown.out B3.out)
        have e0 := (R0.out.below hb3).cell 0
        simp only [List.getElem?_toArray, List.getElem?_cons_zero] at e0
        have hz3 := (B3.out.cell (p := ⟨b2, off2, none⟩) (World.block_lt_of_cell? wr _ hz)).trans hz
        clear hb3 hz
        rw [h16]
        generalize wr.heap.size = g6 at *
        have L5 := hid (lies_new .i64 w3 #[.int .i64 z] 3 [z] rfl (by simp))
        have O5 := hid (O3.out.alloc (.cells #[.int .i64 z] 3))
        have B5 := hid (balloc (Below.refl w3.heap.size w3) (.cells #[.int .i64 z] 3))
        have f0 := hid ((B5.out.cell (p := ⟨g6, 0, none⟩) (World.block_lt_of_cell? w3 _ e0)).trans e0)
        have f1 := hid ((B5.out.cell (p := ⟨b2, off2, none⟩) (World.block_lt_of_cell? w3 _ hz3)).trans hz3)
        go_wp2_with fail
        go_region_held3 (fun w' => w'.cell? ⟨g6, 0, none⟩ = some (.int .i64 x) ∧ w'.cell? ⟨b2, off2, none⟩ = some (.int .i64 z)) (go_keep) (first | (go_at_call 53; refine (putOne _ _ _ x z _ _ _ (by exact O5.out) (by exact L5.out) HSZ.out HOK.out (by omega)).mono ?_; rintro e w5 ⟨v5, rfl, hown5, hb5⟩; have f2 := (hb5.cell (p := ⟨g6, 0, none⟩) (World.block_lt_of_cell? _ _ f0.out)).trans f0.out; have f3 := (hb5.cell (p := ⟨b2, off2, none⟩) (World.block_lt_of_cell? _ _ f1.out)).trans f1.out))
        have B6 := hid (bthen (bthen B4.out B5.out).drew hb5)
        have O6 := hid (own_mono hown5 (b' := w1.heap.size) (Nat.le_trans B4.out.size B5.out.size))
        clear hown5 hb5 f2 f3
        have HEnd : Hid (nmb ((prt k).take (j + 1)) = nmb ((prt k).take j) ++ [p]) := HY.out h16
        by_cases hlc : lc = 1
        · rw [if_pos hlc] at HCut
          go_wp2_with fail
          go_roundw
          case rel =>
            refine ⟨j + 1, some ⟨b2, off2, none⟩, ll - 1, lc - 1, by omega, by go_num, slice_eq rfl (by omega) (by omega), ?_, ?_, B6.out⟩
            · rw [Hid, HEnd.out, List.length_append, HCN.out]
              have e := HCut.out
              rw [List.drop_drop, List.take_of_length_le (by have := hla.out.1; simp at this ⊢; omega)] at e
              exact e
            · rw [Hid, HS.out, if_neg (by rw [h16]; simp)]; exact O6.out
          case measure => simp [intOf]; omega
        · rw [if_neg hlc] at HCut
          go_wp2_with fail
          go_roundw
          case rel =>
            refine ⟨j + 1, some ⟨b2, off2 + 1, none⟩, ll - 1, lc - 1, by omega, by go_num, slice_eq rfl (by omega) (by omega), ?_, ?_, B6.out⟩
            · rw [Hid, HEnd.out, List.length_append, HCN.out]
              have e := HCut.out
              rw [List.drop_drop, List.take_of_length_le (by have := hla.out.1; simp at this ⊢; omega)] at e
              exact e
            · rw [Hid, HS.out, if_neg (by rw [h16]; simp)]; exact O6.out
          case measure => simp [intOf]; omega
      · go_wp2_with fail
        refine (isAddress_any _ _ _).mono ?_
        rintro e w3 ⟨rfl, hb3⟩
        have B3 := hid (bthen B1.out hb3)
        have B4 := hid (bthen hb.out B3.out)
        have O3 := hid (own_below hown.out B3.out)
        have L3 := hid (part_lies HA.out ((HR0.out.below B4.out).part.ovA HA.out))
        clear hb3
        rw [h16]
        go_wp2_with (at_builtin; refine wpList_appB rfl _ _ rfl rfl rfl O3.out L3.out ?c1 ?c2 ?_)
        case c1 => exact B4.out.size
        case c2 => omega
        intro v4 w4 ho4 hb4
        have B5 := hid (B4.out.trans hb4)
        have O4 := hid ho4
        clear ho4 hb4
        go_wp2_with fail
        go_roundw
        case rel =>
          refine ⟨j + 1, la, ll, lc, by omega, by go_num, rfl, ?_, ?_, B5.out⟩
          · rw [Hid, HNo.out h16, HCN.out]; exact hla.out
          · rw [Hid, HS.out, if_pos h16, List.length_append, HA.out.1]; exact O4.out
        case measure => simp [intOf]; omega
    · obtain rfl : j = n := by omega
      have hq := HQ.out j (by rw [HP.out.len]; exact Nat.le_refl _)
      rw [List.take_of_length_le (by rw [HP.out.len]; omega)] at hown hq
      have R9 := hid (HR0.out.below hb.out)
      have L9 := hid (O0.out.t.below hb.out)
      have c18 := (R9.out.cell 18).trans (Ov.at18 HA.out)
      have HT := hid O0.out.t.1
      go_wp2_with (at_builtin; refine wpList_appB rfl _ _ rfl rfl rfl hown.out L9.out ?c1 ?c2 ?_)
      case c1 => exact hb.out.size
      case c2 => omega
      intro v4 w4 ho4 hb4
      have B5 := hid (hb.out.trans hb4)
      have O4 := hid ho4
      clear ho4 hb4
      go_wp2_with fail
      go_ret
      refine ⟨_, rfl, ?_, bthen B0.out B5.out⟩
      rw [List.length_append, HT.out]
      exact own_mono O4.out B0.out.size
end Go.Proofs.YtbklpelikaapoaaGreatDoor
