/- Control messages in memory. · The table of codes in memory; isCode, Word, May, flag. -/
import Derived.Test.YtbfjkhafdkhhmaaDoorM5
import Derived.Test.YtbfjkhafdkhhmaaDoorM4
import Derived.Test.YtbfjkhafdkhhmaaDoorM6
namespace Go.Proofs.YtbfjkhafdkhhmaaDoor
open Go.ChangeShapes Go.WideShapes Go.ChangeAt Go.RowKit Go.Deep
set_option linter.unusedVariables false
set_option linter.unusedSimpArgs false

/-- A message as it lies. -/
structure Mv where
  c : Int
  i : Int
  v : Int
  r : Int
  mo : Int
  pf : Int
  d : Int
  sq : Int
  st : Int
  g : Bool
  a : Bool
  ro : List Int
  oa : Option Addr
  on : Nat
  oc : Nat
  L : List Ov
def Mv.p (m : Mv) : Pm := ⟨m.c, m.i, m.v, m.r, m.mo, m.pf, m.d, m.sq, m.st, m.g, m.a, m.ro, pos m.L⟩
def Mv.hd (m : Mv) : Array Value := #[.int .i64 m.c, .int .i64 m.i, .int .i64 m.v, .int .i64 m.r, .int .i64 m.mo, .int .i64 m.pf, .int .i64 m.d, .int .i64 m.sq, .int .i64 m.st, .bool m.g, .bool m.a]
/-- Its cells. -/
def Mv.cs (m : Mv) : Array Value := m.hd ++ (arr m.ro ++ #[.slice m.oa m.on m.oc])
structure Mv.ok (w : World) (m : Mv) : Prop where
  ro : Adr m.ro
  o : Opts w m.oa m.on m.oc m.L
def Mv.zero : Mv := ⟨0, 0, 0, 0, 0, 0, 0, 0, 0, false, false, zeros, none, 0, 0, []⟩
theorem Mv.zero_ok (w : World) : Mv.zero.ok w := ⟨adr_zeros, Opts.none w⟩
theorem Mv.ok.below {w w' : World} {m : Mv} (h : m.ok w) (hb : Below w.heap.size w w') : m.ok w' := ⟨h.ro, h.o.below hb⟩
theorem Mv.hsize (m : Mv) : m.hd.size = 11 := rfl
theorem Mv.size {m : Mv} (h : Adr m.ro) : m.cs.size = 28 := by simp [Mv.cs, arr_size, h.1, Mv.hsize]
theorem Mv.one (m : Mv) : m.cs.all (·.oneCell') = true := by simp [Mv.cs, Mv.hd, Array.all_append, arr, u8s, Value.oneCell']
theorem Mv.atH (m : Mv) (j : Nat) (hj : j < 11) : m.cs[j]? = m.hd[j]? := by rw [Mv.cs, Array.getElem?_append_left (by rw [Mv.hsize]; exact hj)]
theorem Mv.at0 (m : Mv) : m.cs[0]? = some (.int .i64 m.c) := m.atH 0 (by decide)
theorem Mv.at1 (m : Mv) : m.cs[1]? = some (.int .i64 m.i) := m.atH 1 (by decide)
theorem Mv.at2 (m : Mv) : m.cs[2]? = some (.int .i64 m.v) := m.atH 2 (by decide)
theorem Mv.at3 (m : Mv) : m.cs[3]? = some (.int .i64 m.r) := m.atH 3 (by decide)
theorem Mv.at4 (m : Mv) : m.cs[4]? = some (.int .i64 m.mo) := m.atH 4 (by decide)
theorem Mv.at5 (m : Mv) : m.cs[5]? = some (.int .i64 m.pf) := m.atH 5 (by decide)
theorem Mv.at6 (m : Mv) : m.cs[6]? = some (.int .i64 m.d) := m.atH 6 (by decide)
theorem Mv.at7 (m : Mv) : m.cs[7]? = some (.int .i64 m.sq) := m.atH 7 (by decide)
theorem Mv.at8 (m : Mv) : m.cs[8]? = some (.int .i64 m.st) := m.atH 8 (by decide)
theorem Mv.at9 (m : Mv) : m.cs[9]? = some (.bool m.g) := m.atH 9 (by decide)
theorem Mv.at10 (m : Mv) : m.cs[10]? = some (.bool m.a) := m.atH 10 (by decide)
theorem Mv.atA {m : Mv} (h : Adr m.ro) (j : Nat) (hj : j < 16) : m.cs[11 + j]? = some (.int .u8 (m.ro.getD j 0)) := by
  rw [Mv.cs, Array.getElem?_append_right (by rw [Mv.hsize]; omega), show 11 + j - m.hd.size = j by rw [Mv.hsize]; omega, Array.getElem?_append_left (by rw [arr_size, h.1]; exact hj), arr_at _ _ (by rw [h.1]; exact hj)]
theorem Mv.at27 {m : Mv} (h : Adr m.ro) : m.cs[27]? = some (.slice m.oa m.on m.oc) := by
  rw [Mv.cs, Array.getElem?_append_right (by rw [Mv.hsize]; omega), Array.getElem?_append_right (by rw [arr_size, h.1, Mv.hsize]; omega), arr_size, h.1, Mv.hsize]; rfl
theorem Part.mvA {w : World} {b off : Nat} {m : Mv} (h : Adr m.ro) (r : Part w b off m.cs) : Part w b (off + 11) (arr m.ro) := fun j v hv => by
  have hj : j < 16 := by have := (Array.getElem?_eq_some_iff.1 hv).1; rw [arr_size, h.1] at this; exact this
  rw [Nat.add_assoc]
  refine r (11 + j) v ?_
  rw [Mv.atA h j hj, ← hv, arr_at _ _ (by rw [h.1]; exact hj)]
theorem zmv : (#[.int .i64 0, .int .i64 0, .int .i64 0, .int .i64 0, .int .i64 0, .int .i64 0, .int .i64 0, .int .i64 0, .int .i64 0, .bool false, .bool false, .int .u8 0, .int .u8 0, .int .u8 0, .int .u8 0, .int .u8 0, .int .u8 0, .int .u8 0, .int .u8 0, .int .u8 0, .int .u8 0, .int .u8 0, .int .u8 0, .int .u8 0, .int .u8 0, .int .u8 0, .int .u8 0, .slice none 0 0] : Array Value) = Mv.zero.cs := rfl
/-- A type of messages. -/
structure MT (t : TypeId) : Prop where
  desc : ∃ fs, Tryd.prog.underlying t = some (.struct fs)
  info : (Tryd.prog.info? t).map (·.size) = some 28
  full : ∀ (m : Mv), m.ro.length = 16 → Tryd.prog.built t [(0, .int .i64 m.c), (1, .int .i64 m.i), (2, .int .i64 m.v), (3, .int .i64 m.r), (4, .int .i64 m.mo), (5, .int .i64 m.pf), (6, .int .i64 m.d), (7, .int .i64 m.sq), (8, .int .i64 m.st), (9, .bool m.g), (10, .bool m.a), (11, .agg (arr m.ro)), (12, .slice m.oa m.on m.oc)] = some m.cs
  part : ∀ (c i v r mo pf d sq st : Int) (g a : Bool), Tryd.prog.built t [(0, .int .i64 c), (1, .int .i64 i), (2, .int .i64 v), (3, .int .i64 r), (4, .int .i64 mo), (5, .int .i64 pf), (6, .int .i64 d), (7, .int .i64 sq), (8, .int .i64 st), (9, .bool g), (10, .bool a)] = some (Mv.cs ⟨c, i, v, r, mo, pf, d, sq, st, g, a, zeros, none, 0, 0, []⟩)
  code : ∀ (c : Int), Tryd.prog.built t [(0, .int .i64 c)] = some (Mv.cs ⟨c, 0, 0, 0, 0, 0, 0, 0, 0, false, false, zeros, none, 0, 0, []⟩)
  bare : Tryd.prog.built t [] = some Mv.zero.cs
theorem builtM29 (c i v r mo pf d sq st : Int) (g a : Bool) (a0 a1 a2 a3 a4 a5 a6 a7 a8 a9 a10 a11 a12 a13 a14 a15 : Int) (oa : Option Addr) (on oc : Nat) (L : List Ov) : Tryd.prog.built 29 [(0, .int .i64 c), (1, .int .i64 i), (2, .int .i64 v), (3, .int .i64 r), (4, .int .i64 mo), (5, .int .i64 pf), (6, .int .i64 d), (7, .int .i64 sq), (8, .int .i64 st), (9, .bool g), (10, .bool a), (11, .agg (arr [a0, a1, a2, a3, a4, a5, a6, a7, a8, a9, a10, a11, a12, a13, a14, a15])), (12, .slice oa on oc)] =
    some (Mv.cs ⟨c, i, v, r, mo, pf, d, sq, st, g, a, [a0, a1, a2, a3, a4, a5, a6, a7, a8, a9, a10, a11, a12, a13, a14, a15], oa, on, oc, L⟩) := by kernel_rfl
theorem fullM29 (m : Mv) (h : m.ro.length = 16) : Tryd.prog.built 29 [(0, .int .i64 m.c), (1, .int .i64 m.i), (2, .int .i64 m.v), (3, .int .i64 m.r), (4, .int .i64 m.mo), (5, .int .i64 m.pf), (6, .int .i64 m.d), (7, .int .i64 m.sq), (8, .int .i64 m.st), (9, .bool m.g), (10, .bool m.a), (11, .agg (arr m.ro)), (12, .slice m.oa m.on m.oc)] = some m.cs := by
  obtain ⟨c, i, v, r, mo, pf, d, sq, st, g, a, ro, oa, on, oc, L⟩ := m
  simp only at h
  match ro, h with
  | [a0, a1, a2, a3, a4, a5, a6, a7, a8, a9, a10, a11, a12, a13, a14, a15], _ => exact builtM29 c i v r mo pf d sq st g a a0 a1 a2 a3 a4 a5 a6 a7 a8 a9 a10 a11 a12 a13 a14 a15 oa on oc L
theorem partM29 (c i v r mo pf d sq st : Int) (g a : Bool) : Tryd.prog.built 29 [(0, .int .i64 c), (1, .int .i64 i), (2, .int .i64 v), (3, .int .i64 r), (4, .int .i64 mo), (5, .int .i64 pf), (6, .int .i64 d), (7, .int .i64 sq), (8, .int .i64 st), (9, .bool g), (10, .bool a)] = some (Mv.cs ⟨c, i, v, r, mo, pf, d, sq, st, g, a, zeros, none, 0, 0, []⟩) := by kernel_rfl
theorem codeM29 (c : Int) : Tryd.prog.built 29 [(0, .int .i64 c)] = some (Mv.cs ⟨c, 0, 0, 0, 0, 0, 0, 0, 0, false, false, zeros, none, 0, 0, []⟩) := by kernel_rfl
theorem m29 : MT 29 := ⟨⟨_, Tryd.underlying29⟩, by kernel_rfl, fullM29, partM29, codeM29, by kernel_rfl⟩
theorem builtM25 (c i v r mo pf d sq st : Int) (g a : Bool) (a0 a1 a2 a3 a4 a5 a6 a7 a8 a9 a10 a11 a12 a13 a14 a15 : Int) (oa : Option Addr) (on oc : Nat) (L : List Ov) : Tryd.prog.built 25 [(0, .int .i64 c), (1, .int .i64 i), (2, .int .i64 v), (3, .int .i64 r), (4, .int .i64 mo), (5, .int .i64 pf), (6, .int .i64 d), (7, .int .i64 sq), (8, .int .i64 st), (9, .bool g), (10, .bool a), (11, .agg (arr [a0, a1, a2, a3, a4, a5, a6, a7, a8, a9, a10, a11, a12, a13, a14, a15])), (12, .slice oa on oc)] =
    some (Mv.cs ⟨c, i, v, r, mo, pf, d, sq, st, g, a, [a0, a1, a2, a3, a4, a5, a6, a7, a8, a9, a10, a11, a12, a13, a14, a15], oa, on, oc, L⟩) := by kernel_rfl
theorem fullM25 (m : Mv) (h : m.ro.length = 16) : Tryd.prog.built 25 [(0, .int .i64 m.c), (1, .int .i64 m.i), (2, .int .i64 m.v), (3, .int .i64 m.r), (4, .int .i64 m.mo), (5, .int .i64 m.pf), (6, .int .i64 m.d), (7, .int .i64 m.sq), (8, .int .i64 m.st), (9, .bool m.g), (10, .bool m.a), (11, .agg (arr m.ro)), (12, .slice m.oa m.on m.oc)] = some m.cs := by
  obtain ⟨c, i, v, r, mo, pf, d, sq, st, g, a, ro, oa, on, oc, L⟩ := m
  simp only at h
  match ro, h with
  | [a0, a1, a2, a3, a4, a5, a6, a7, a8, a9, a10, a11, a12, a13, a14, a15], _ => exact builtM25 c i v r mo pf d sq st g a a0 a1 a2 a3 a4 a5 a6 a7 a8 a9 a10 a11 a12 a13 a14 a15 oa on oc L
theorem partM25 (c i v r mo pf d sq st : Int) (g a : Bool) : Tryd.prog.built 25 [(0, .int .i64 c), (1, .int .i64 i), (2, .int .i64 v), (3, .int .i64 r), (4, .int .i64 mo), (5, .int .i64 pf), (6, .int .i64 d), (7, .int .i64 sq), (8, .int .i64 st), (9, .bool g), (10, .bool a)] = some (Mv.cs ⟨c, i, v, r, mo, pf, d, sq, st, g, a, zeros, none, 0, 0, []⟩) := by kernel_rfl
theorem codeM25 (c : Int) : Tryd.prog.built 25 [(0, .int .i64 c)] = some (Mv.cs ⟨c, 0, 0, 0, 0, 0, 0, 0, 0, false, false, zeros, none, 0, 0, []⟩) := by kernel_rfl
theorem m25 : MT 25 := ⟨⟨_, Tryd.underlying25⟩, by kernel_rfl, fullM25, partM25, codeM25, by kernel_rfl⟩
theorem ldM {ops : Array Oper} {rest : List Oper} {o : Oper} {a : Act} {w : World} {Q : Exit → Act → World → Prop} {t : TypeId} (ht : MT t) (x : Operand) (ho : o.op = .load t x) (hw : Region.wanted o (yielded ops a.tmps) = true) (g off : Nat) (hx : a.eval x = .pointer (some ⟨g, off, none⟩)) (m : Mv) (hl : Adr m.ro) (hg : Part w g off m.cs)
    (hn : wpList Tryd.prog ops Q rest (a.put o.dst (.agg m.cs)) w) : wpList Tryd.prog ops Q (o :: rest) a w := by
  obtain ⟨fs, h1⟩ := ht.desc
  exact wp_ld t x ho hw g off hx m.cs _ h1 rfl (by rw [Mv.size hl]; exact ht.info) hg hn
theorem stM {ops : Array Oper} {rest : List Oper} {o : Oper} {a : Act} {w : World} {Q : Exit → Act → World → Prop} {t : TypeId} (ht : MT t) (x y : Operand) (ho : o.op = .store t x y) (hgd : o.guard = none) (g : Nat) (m : Mv) (hl : Adr m.ro) (hx : a.eval x = .pointer (some ⟨g, 0, none⟩)) (hy : a.eval y = .agg m.cs) (t' : TypeId) (old : Mv) (hlo : Adr old.ro) (hg : Row w g t' old.cs)
    (hn : wpList Tryd.prog ops Q rest (a.put o.dst undef) (w.setRow g m.cs)) : wpList Tryd.prog ops Q (o :: rest) a w :=
  wp_st t x y ho hgd g m.cs hx hy (by rw [Mv.size hl]; exact ht.info) m.one t' old.cs (by rw [Mv.size hl, Mv.size hlo]) hg hn
theorem bdM {ops : Array Oper} {rest : List Oper} {o : Oper} {a : Act} {w : World} {Q : Exit → Act → World → Prop} {t : TypeId} (ht : MT t) (x0 x1 x2 x3 x4 x5 x6 x7 x8 x9 x10 x11 x12 : Operand) (ho : o.op = .build t #[(0, x0), (1, x1), (2, x2), (3, x3), (4, x4), (5, x5), (6, x6), (7, x7), (8, x8), (9, x9), (10, x10), (11, x11), (12, x12)]) (hg : o.guard = none)
    (m : Mv) (hl : Adr m.ro) (h0 : a.eval x0 = .int .i64 m.c) (h1 : a.eval x1 = .int .i64 m.i) (h2 : a.eval x2 = .int .i64 m.v) (h3 : a.eval x3 = .int .i64 m.r) (h4 : a.eval x4 = .int .i64 m.mo) (h5 : a.eval x5 = .int .i64 m.pf) (h6 : a.eval x6 = .int .i64 m.d) (h7 : a.eval x7 = .int .i64 m.sq) (h8 : a.eval x8 = .int .i64 m.st) (h9 : a.eval x9 = .bool m.g) (h10 : a.eval x10 = .bool m.a) (h11 : a.eval x11 = .agg (arr m.ro)) (h12 : a.eval x12 = .slice m.oa m.on m.oc)
    (hn : wpList Tryd.prog ops Q rest (a.put o.dst (.agg m.cs)) w) : wpList Tryd.prog ops Q (o :: rest) a w :=
  wp_bd t _ ho hg m.cs (by simp only [List.map_toArray, List.map_cons, List.map_nil, h0, h1, h2, h3, h4, h5, h6, h7, h8, h9, h10, h11, h12]; exact ht.full m hl.1) hn
theorem bdMp {ops : Array Oper} {rest : List Oper} {o : Oper} {a : Act} {w : World} {Q : Exit → Act → World → Prop} {t : TypeId} (ht : MT t) (x0 x1 x2 x3 x4 x5 x6 x7 x8 x9 x10 : Operand) (ho : o.op = .build t #[(0, x0), (1, x1), (2, x2), (3, x3), (4, x4), (5, x5), (6, x6), (7, x7), (8, x8), (9, x9), (10, x10)]) (hg : o.guard = none)
    (m : Mv) (h0 : a.eval x0 = .int .i64 m.c) (h1 : a.eval x1 = .int .i64 m.i) (h2 : a.eval x2 = .int .i64 m.v) (h3 : a.eval x3 = .int .i64 m.r) (h4 : a.eval x4 = .int .i64 m.mo) (h5 : a.eval x5 = .int .i64 m.pf) (h6 : a.eval x6 = .int .i64 m.d) (h7 : a.eval x7 = .int .i64 m.sq) (h8 : a.eval x8 = .int .i64 m.st) (h9 : a.eval x9 = .bool m.g) (h10 : a.eval x10 = .bool m.a) (hr : m.ro = zeros) (hoa : m.oa = none) (hon : m.on = 0) (hoc : m.oc = 0)
    (hn : wpList Tryd.prog ops Q rest (a.put o.dst (.agg m.cs)) w) : wpList Tryd.prog ops Q (o :: rest) a w :=
  wp_bd t _ ho hg m.cs (by
    simp only [List.map_toArray, List.map_cons, List.map_nil, h0, h1, h2, h3, h4, h5, h6, h7, h8, h9, h10]
    obtain ⟨c, i, v, r, mo, pf, d, sq, st, g, a, ro, oa, on, oc, L⟩ := m
    simp only at hr hoa hon hoc
    subst hr; subst hoa; subst hon; subst hoc
    exact ht.part c i v r mo pf d sq st g a) hn
theorem bdMz {ops : Array Oper} {rest : List Oper} {o : Oper} {a : Act} {w : World} {Q : Exit → Act → World → Prop} {t : TypeId} (ht : MT t) (ho : o.op = .build t #[]) (hg : o.guard = none)
    (hn : wpList Tryd.prog ops Q rest (a.put o.dst (.agg Mv.zero.cs)) w) : wpList Tryd.prog ops Q (o :: rest) a w :=
  wp_bd t _ ho hg Mv.zero.cs (by simp only [List.map_toArray, List.map_nil]; exact ht.bare) hn
theorem bdM1 {ops : Array Oper} {rest : List Oper} {o : Oper} {a : Act} {w : World} {Q : Exit → Act → World → Prop} {t : TypeId} (ht : MT t) (x0 : Operand) (ho : o.op = .build t #[(0, x0)]) (hg : o.guard = none)
    (c : Int) (h0 : a.eval x0 = .int .i64 c)
    (hn : wpList Tryd.prog ops Q rest (a.put o.dst (.agg (Mv.cs ⟨c, 0, 0, 0, 0, 0, 0, 0, 0, false, false, zeros, none, 0, 0, []⟩))) w) : wpList Tryd.prog ops Q (o :: rest) a w :=
  wp_bd t _ ho hg _ (by simp only [List.map_toArray, List.map_cons, List.map_nil, h0]; exact ht.code c) hn
theorem yldM {ops : Array Oper} {S : World → Prop} {op : Oper} {a : Act} {t : TypeId} (ht : MT t) (hw : Region.wanted op (yielded ops a.tmps) = true) (x : Operand) (ho : op.op = .load t x)
    (g off : Nat) (hx : a.eval x = .pointer (some ⟨g, off, none⟩)) (m : Mv) (hl : Adr m.ro) (hS : ∀ w, S w → Part w g off m.cs) : YieldsIf Tryd.prog ops S op (.agg m.cs) a := by
  obtain ⟨fs, h1⟩ := ht.desc
  exact yields_ldo hw t x ho g off hx m.cs _ hS h1 rfl (by rw [Mv.size hl]; exact ht.info)
theorem ybdM {ops : Array Oper} {S : World → Prop} {op : Oper} {a : Act} {t : TypeId} (ht : MT t) (hw : Region.wanted op (yielded ops a.tmps) = true) (x0 x1 x2 x3 x4 x5 x6 x7 x8 x9 x10 x11 x12 : Operand) (ho : op.op = .build t #[(0, x0), (1, x1), (2, x2), (3, x3), (4, x4), (5, x5), (6, x6), (7, x7), (8, x8), (9, x9), (10, x10), (11, x11), (12, x12)])
    (m : Mv) (hl : Adr m.ro) (h0 : a.eval x0 = .int .i64 m.c) (h1 : a.eval x1 = .int .i64 m.i) (h2 : a.eval x2 = .int .i64 m.v) (h3 : a.eval x3 = .int .i64 m.r) (h4 : a.eval x4 = .int .i64 m.mo) (h5 : a.eval x5 = .int .i64 m.pf) (h6 : a.eval x6 = .int .i64 m.d) (h7 : a.eval x7 = .int .i64 m.sq) (h8 : a.eval x8 = .int .i64 m.st) (h9 : a.eval x9 = .bool m.g) (h10 : a.eval x10 = .bool m.a) (h11 : a.eval x11 = .agg (arr m.ro)) (h12 : a.eval x12 = .slice m.oa m.on m.oc) : YieldsIf Tryd.prog ops S op (.agg m.cs) a :=
  .inl ⟨hw, fun w _ => by
    have hf : Tryd.prog.built t ((#[(0, x0), (1, x1), (2, x2), (3, x3), (4, x4), (5, x5), (6, x6), (7, x7), (8, x8), (9, x9), (10, x10), (11, x11), (12, x12)] : Array (Nat × Operand)).map fun (i, x) => (i, a.eval x)).toList = some m.cs := by
      simp only [List.map_toArray, List.map_cons, List.map_nil, h0, h1, h2, h3, h4, h5, h6, h7, h8, h9, h10, h11, h12]; exact ht.full m hl.1
    unfold execOp
    simp only [ho, Sem.run_bind, run_build w t _ m.cs hf, Result.andThen_ok]
    rfl⟩
theorem resM {fn : Func} {p : Tmp} {t : TypeId} (ht : MT t) (hf : fn.results = #[.cell p t]) (tmps : Array Value) (w : World) (g : Nat) (t' : TypeId) (m : Mv) (hl : Adr m.ro)
    (hp : tmps.getD p undef = .pointer (some ⟨g, 0, none⟩)) (hg : Row w g t' m.cs) : (results fn tmps).run Tryd.prog w = .ok (.agg m.cs) w := by
  obtain ⟨fs, h1⟩ := ht.desc
  exact results_cell_row hf tmps w g t' m.cs (0, 0) _ hp hg h1 rfl (by rw [Mv.size hl]; exact ht.info)
theorem ldRunM {t : TypeId} (ht : MT t) (w : World) (g : Nat) (t' : TypeId) (m : Mv) (hl : Adr m.ro) (hg : Row w g t' m.cs) : (loadVar t ⟨g, 0, none⟩).run Tryd.prog w = .ok (.agg m.cs) w := by
  obtain ⟨fs, h1⟩ := ht.desc
  exact run_loadVar_row w g t' t m.cs (0, 0) _ hg h1 rfl (by rw [Mv.size hl]; exact ht.info)
theorem resMe {fn : Func} {p u : Tmp} {t : TypeId} (ht : MT t) (hf : fn.results = #[.cell p t, .tmp u]) (tmps : Array Value) (w : World) (g : Nat) (t' : TypeId) (m : Mv) (hl : Adr m.ro) (v : Value)
    (hp : tmps.getD p undef = .pointer (some ⟨g, 0, none⟩)) (hu : tmps.getD u undef = v) (hg : Row w g t' m.cs) : (results fn tmps).run Tryd.prog w = .ok (.tuple #[.agg m.cs, v]) w := by
  rw [results_cell_tmp hf]
  have hp' : tmps[p]?.getD undef = .pointer (some ⟨g, 0, none⟩) := by simpa using hp
  have hu' : tmps[u]?.getD undef = v := by simpa using hu
  simp [hp', hu', asAddr, ldRunM ht w g t' m hl hg]
theorem layM_new (w : World) (t : TypeId) (m : Mv) : Row ((w.alloc (.cells Mv.zero.cs t)).setRow w.heap.size m.cs) w.heap.size t m.cs := (Row.new w t _).setRow _
theorem layM_below (w : World) (t : TypeId) (m : Mv) : Below w.heap.size w ((w.alloc (.cells Mv.zero.cs t)).setRow w.heap.size m.cs) := below_setRow' (balloc (Below.refl w.heap.size w) _) (Nat.le_refl _) _
end Go.Proofs.YtbfjkhafdkhhmaaDoor

namespace Go.Proofs.YtbfjkhafdkhhmaaDoor
open Go.ChangeShapes Go.WideShapes Go.ChangeAt Go.RowKit Go.Deep
set_option linter.unusedVariables false
set_option linter.unusedSimpArgs false

/-- Numbers in memory, below a bound. -/
structure NLies (B : Nat) (w : World) (a : Option Addr) (n cap : Nat) (l : List Int) : Prop where
  len : l.length = n
  le : n ≤ cap
  max : cap ≤ maxLen
  isNil : a = none → cap = 0
  cell : ∀ i, i < n → ∃ b off, a = some ⟨b, off, none⟩ ∧ b < B ∧ w.cell? ⟨b, off + i, none⟩ = some (.int .i64 (l.getD i 0))
theorem NLies.lies {B : Nat} {w : World} {a : Option Addr} {n cap : Nat} {l : List Int} (h : NLies B w a n cap l) : Lies .i64 w a n cap l :=
  ⟨h.len, h.le, h.max, h.isNil, fun k hk => by obtain ⟨b, off, h1, _, h2⟩ := h.cell k hk; exact ⟨b, off, h1, h2⟩⟩
/-- Fields in memory. -/
structure FLies (B : Nat) (w : World) (a : Option Addr) (n cap : Nat) (l : List Fl) : Prop where
  len : l.length = n
  le : n ≤ cap
  max : cap ≤ maxLen
  cell : ∀ i, i < n → ∃ b off, a = some ⟨b, off, none⟩ ∧ b < B ∧ w.cell? ⟨b, off + i * 3, none⟩ = some (.int .i64 ((l.getD i Fl.none).p : Int)) ∧ w.cell? ⟨b, off + i * 3 + 1, none⟩ = some (.int .i64 ((l.getD i Fl.none).s : Int)) ∧ w.cell? ⟨b, off + i * 3 + 2, none⟩ = some (.int .i64 ((l.getD i Fl.none).l : Int))
/-- Parts in memory. -/
structure PaLies (B : Nat) (w : World) (a : Option Addr) (n cap : Nat) (l : List Pa) : Prop where
  len : l.length = n
  le : n ≤ cap
  max : cap ≤ maxLen
  cell : ∀ i, i < n → ∃ b off, a = some ⟨b, off, none⟩ ∧ b < B ∧ w.cell? ⟨b, off + i * 2, none⟩ = some (.int .i64 ((l.getD i Pa.none).z : Int)) ∧ ∃ fa fn fc, w.cell? ⟨b, off + i * 2 + 1, none⟩ = some (.slice fa fn fc) ∧ FLies B w fa fn fc (l.getD i Pa.none).f
/-- The table of codes in memory. -/
structure CVars (B : Nat) (w : World) : Prop where
  pos : 0 < B
  le : B ≤ w.heap.size
  word : ∀ k, k < 4 → w.cell? ⟨0, k * 4, none⟩ = some (.string (cwd k))
  parts : ∀ k, k < 4 → ∃ a n cap, w.cell? ⟨0, k * 4 + 1, none⟩ = some (.slice a n cap) ∧ PaLies B w a n cap (cpa k)
  root : ∀ k, k < 4 → w.cell? ⟨0, k * 4 + 2, none⟩ = some (.bool (crt k))
  kinds : ∀ k, k < 4 → ∃ a n cap, w.cell? ⟨0, k * 4 + 3, none⟩ = some (.slice a n cap) ∧ NLies B w a n cap (cki k)
section
variable {B : Nat} {w w' : World}
theorem NLies.same {a : Option Addr} {n cap : Nat} {l : List Int} (h : NLies B w a n cap l) (hc : ∀ b o, b < B → w'.cell? ⟨b, o, none⟩ = w.cell? ⟨b, o, none⟩) : NLies B w' a n cap l :=
  ⟨h.len, h.le, h.max, h.isNil, fun i hi => by
    obtain ⟨b, off, h1, h2, h3⟩ := h.cell i hi
    exact ⟨b, off, h1, h2, (hc _ _ h2).trans h3⟩⟩
theorem FLies.same {a : Option Addr} {n cap : Nat} {l : List Fl} (h : FLies B w a n cap l) (hc : ∀ b o, b < B → w'.cell? ⟨b, o, none⟩ = w.cell? ⟨b, o, none⟩) : FLies B w' a n cap l :=
  ⟨h.len, h.le, h.max, fun i hi => by
    obtain ⟨b, off, h1, h2, h3, h4, h5⟩ := h.cell i hi
    exact ⟨b, off, h1, h2, (hc _ _ h2).trans h3, (hc _ _ h2).trans h4, (hc _ _ h2).trans h5⟩⟩
theorem PaLies.same {a : Option Addr} {n cap : Nat} {l : List Pa} (h : PaLies B w a n cap l) (hc : ∀ b o, b < B → w'.cell? ⟨b, o, none⟩ = w.cell? ⟨b, o, none⟩) : PaLies B w' a n cap l :=
  ⟨h.len, h.le, h.max, fun i hi => by
    obtain ⟨b, off, h1, h2, h3, fa, fn, fc, h4, h5⟩ := h.cell i hi
    exact ⟨b, off, h1, h2, (hc _ _ h2).trans h3, fa, fn, fc, (hc _ _ h2).trans h4, h5.same hc⟩⟩
theorem CVars.same (h : CVars B w) (hs : w.heap.size ≤ w'.heap.size) (hc : ∀ b o, b < B → w'.cell? ⟨b, o, none⟩ = w.cell? ⟨b, o, none⟩) : CVars B w' :=
  ⟨h.pos, Nat.le_trans h.le hs, fun k hk => (hc _ _ h.pos).trans (h.word k hk), fun k hk => by
    obtain ⟨a, n, cap, h1, h2⟩ := h.parts k hk
    exact ⟨a, n, cap, (hc _ _ h.pos).trans h1, h2.same hc⟩, fun k hk => (hc _ _ h.pos).trans (h.root k hk), fun k hk => by
    obtain ⟨a, n, cap, h1, h2⟩ := h.kinds k hk
    exact ⟨a, n, cap, (hc _ _ h.pos).trans h1, h2.same hc⟩⟩
/-- Both tables. -/
structure CV (B : Nat) (w : World) : Prop where
  c : CVars B w
  o : Vars B w
theorem CV.le (h : CV B w) : B ≤ w.heap.size := h.c.le
theorem cells_below {B0 : Nat} (hb : Below B0 w w') (hB : B ≤ B0) : ∀ b o, b < B → w'.cell? ⟨b, o, none⟩ = w.cell? ⟨b, o, none⟩ := fun b o h => hb.cell (p := ⟨b, o, none⟩) (Nat.lt_of_lt_of_le h hB)
theorem cells_grown {c : Nat} (hg : w.grownBy w' (some c)) (hc : B ≤ c) (hl : B ≤ w.heap.size) : ∀ b o, b < B → w'.cell? ⟨b, o, none⟩ = w.cell? ⟨b, o, none⟩ := fun b o hlt => by
  have := hg.block b (Nat.lt_of_lt_of_le hlt hl) (fun e => by have := Option.some.inj e; omega)
  simp only [World.cell?, this]
theorem CV.same (h : CV B w) (hs : w.heap.size ≤ w'.heap.size) (hc : ∀ b o, b < B → w'.cell? ⟨b, o, none⟩ = w.cell? ⟨b, o, none⟩) : CV B w' := ⟨h.c.same hs hc, h.o.same hs hc⟩
theorem CV.below (h : CV B w) (hb : Below w.heap.size w w') : CV B w' := h.same hb.size (cells_below hb h.le)
theorem CV.rd {B0 : Nat} (h : CV B w) (hb : Below B0 w w') (hB : B ≤ B0) : CV B w' := h.same hb.size (cells_below hb hB)
theorem CV.grown {c : Nat} (h : CV B w) (hg : w.grownBy w' (some c)) (hc : B ≤ c) : CV B w' := h.same hg.size (cells_grown hg hc h.le)
theorem CV.drewN (h : CV B w) (q : Nat) : CV B (w.drewN q) := h.same (Nat.le_refl _) (fun _ _ _ => rfl)
end

theorem isCode_any (n : Int) (w : World) : Calls Tryd.prog 36 #[.int .i64 n] w fun e w' => e = .returned (.bool (codB n)) ∧ w' = w := by
  have HV : Hid (codB n = decide (0 ≤ n ∧ n < 4)) := rfl
  generalize codB n = b at *
  by_cases h0 : 0 ≤ n
  · have e0 : decide (0 ≤ n) = true := decide_eq_true h0
    by_cases h1 : n < 4
    · have e1 : decide (n < 4) = true := decide_eq_true h1
      go_enter Tryd.func36, Tryd.ntmps36
      go_wp2
      go_ret
      exact ⟨ret_bool (by rw [HV.out]; simp; omega), rfl⟩
    · have e1 : decide (n < 4) = false := decide_eq_false h1
      go_enter Tryd.func36, Tryd.ntmps36
      go_wp2
      go_ret
      exact ⟨ret_bool (by rw [HV.out]; simp; omega), rfl⟩
  · have e0 : decide (0 ≤ n) = false := decide_eq_false h0
    go_enter Tryd.func36, Tryd.ntmps36
    go_wp2
    go_ret
    exact ⟨ret_bool (by rw [HV.out]; simp; omega), rfl⟩
def cwOf (n : Int) : ByteArray := if codB n = true then cwd n.toNat else ByteArray.empty
theorem ret_strc {a b : ByteArray} (h : a = b) : Ending.returned (.string a) = .returned (.string b) := by rw [h]
theorem cword_any {B : Nat} (n : Int) (w : World) (hV : CV B w) : Calls Tryd.prog 21 #[.int .i64 n] w fun e w' => e = .returned (.string (cwOf n)) ∧ w' = w := by
  cases hk : codB n
  · have HV : Hid (cwOf n = ByteArray.empty) := by simp [Hid, cwOf, hk]
    go_enter Tryd.func21, Tryd.ntmps21
    go_wp2_with (go_at_call 36; refine (isCode_any _ _).mono ?_; rintro e w ⟨rfl, rfl⟩)
    go_ret
    exact ⟨ret_strc HV.out.symm, rfl⟩
  · obtain ⟨k, rfl, hk4⟩ := cod_nat hk
    have HV : Hid (cwOf k = cwd k) := by simp [Hid, cwOf, hk]
    have c0 := hV.c.word k hk4
    have HK := hid hk
    clear hV hk
    go_enter Tryd.func21, Tryd.ntmps21
    go_wp2_with (go_at_call 36; refine (isCode_any _ _).mono ?_; rintro e w ⟨rfl, rfl⟩; rw [HK.out])
    go_ret
    exact ⟨ret_strc HV.out.symm, rfl⟩
theorem may_any {B : Nat} (c k : Int) (w : World) (hV : CV B w) : Calls Tryd.prog 22 #[.int .i64 c, .int .i64 k] w fun e w' => e = .returned (.bool (mayB c k)) ∧ w' = w := by
  cases hk : codB c
  · have HV : Hid (mayB c k = false) := by simp [Hid, mayB, hk]
    go_enter Tryd.func22, Tryd.ntmps22
    go_wp2_with fail
    refine (isCode_any _ _).mono ?_
    rintro e w1 ⟨rfl, rfl⟩
    rw [hk]
    go_wp2_with fail
    go_ret
    exact ⟨ret_bool HV.out.symm, rfl⟩
  · obtain ⟨j, rfl, hk4⟩ := cod_nat hk
    have HV : Hid (mayB j k = decide (k ∈ cki j)) := by simp [Hid, mayB, hk]
    obtain ⟨a, n, cap, c0, hN⟩ := hV.c.kinds j hk4
    have HN := hid hN.lies
    have HK := hid hk
    clear hV hk hN
    go_enter Tryd.func22, Tryd.ntmps22
    go_wp2_with fail
    refine (isCode_any _ _).mono ?_
    rintro e w1 ⟨rfl, rfl⟩
    rw [HK.out]
    go_wp2_with fail
    refine (contains_any a n cap _ k _ HN.out).mono ?_
    rintro e w1 ⟨rfl, rfl⟩
    go_wp2_with fail
    go_ret
    exact ⟨ret_bool HV.out.symm, rfl⟩
theorem flag_any (b : Bool) (w : World) : Calls Tryd.prog 57 #[.bool b] w fun e w' => e = .returned (.int .i64 (bitI b)) ∧ w' = w := by
  cases b
  all_goals
    go_enter Tryd.func57, Tryd.ntmps57
    go_wp2
    go_ret
    exact ⟨rfl, rfl⟩
end Go.Proofs.YtbfjkhafdkhhmaaDoor
