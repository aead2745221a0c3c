/- Options in memory, and the table of kinds. -/
import Derived.Test.YtbgogeojdibmkaaDoorRow
namespace Go.Proofs.YtbgogeojdibmkaaDoor
open Go.ChangeShapes Go.WideShapes Go.ChangeAt Go.RowKit Go.Deep
set_option linter.unusedVariables false
set_option linter.unusedSimpArgs false

/-- An option. -/
structure Po where
  k : Int
  n : List Int
  ad : List Int
  t : List Int
/-- An option as it lies. -/
structure Ov where
  k : Int
  n : Txt
  ad : List Int
  t : Txt
def Ov.p (o : Ov) : Po := ⟨o.k, o.n.l, o.ad, o.t.l⟩
/-- Its cells. -/
def Ov.cs (o : Ov) : Array Value := #[.int .i64 o.k, o.n.v] ++ (arr o.ad ++ #[o.t.v])
structure Ov.ok (w : World) (o : Ov) : Prop where
  n : Lies .i64 w o.n.a o.n.n o.n.cap o.n.l
  ad : Adr o.ad
  t : Lies .u8 w o.t.a o.t.n o.t.cap o.t.l
  oct : Oct o.t.l
def Ov.zero : Ov := ⟨0, Txt.none, zeros, Txt.none⟩
theorem Ov.zero_ok (w : World) : Ov.zero.ok w := ⟨Lies.nil _ _, adr_zeros, Lies.nil _ _, fun x hx => by cases hx⟩
theorem Ov.ok.below {w w' : World} {o : Ov} (h : o.ok w) (hb : Below w.heap.size w w') : o.ok w' := ⟨h.n.below hb, h.ad, h.t.below hb, h.oct⟩
theorem Ov.ok.drewN {w : World} {o : Ov} (h : o.ok w) (q : Nat) : o.ok (w.drewN q) := ⟨h.n, h.ad, h.t, h.oct⟩
theorem Ov.size {o : Ov} (h : Adr o.ad) : o.cs.size = 19 := by simp [Ov.cs, arr_size, h.1]
theorem Txt.v_one (t : Txt) : t.v.oneCell' = true := rfl
theorem Ov.one (o : Ov) : o.cs.all (·.oneCell') = true := by simp [Ov.cs, Array.all_append, arr, u8s, Value.oneCell', Txt.v]
theorem Ov.at0 (o : Ov) : o.cs[0]? = some (.int .i64 o.k) := by simp [Ov.cs, Array.getElem?_append]
theorem Ov.at1 (o : Ov) : o.cs[1]? = some (.slice o.n.a o.n.n o.n.cap) := by simp [Ov.cs, Array.getElem?_append, Txt.v]
theorem Ov.atA {o : Ov} (h : Adr o.ad) (j : Nat) (hj : j < 16) : o.cs[2 + j]? = some (.int .u8 (o.ad.getD j 0)) := by
  rw [Ov.cs, Array.getElem?_append_right (by simp), show 2 + j - Array.size #[Value.int .i64 o.k, o.n.v] = j by simp, Array.getElem?_append_left (by rw [arr_size, h.1]; exact hj), arr_at _ _ (by rw [h.1]; exact hj)]
theorem Ov.at18 {o : Ov} (h : Adr o.ad) : o.cs[18]? = some (.slice o.t.a o.t.n o.t.cap) := by
  rw [Ov.cs, Array.getElem?_append_right (by simp), Array.getElem?_append_right (by rw [arr_size, h.1]; simp), arr_size, h.1]; rfl
theorem Part.ovA {w : World} {b off : Nat} {o : Ov} (h : Adr o.ad) (r : Part w b off o.cs) : Part w b (off + 2) (arr o.ad) := fun j v hv => by
  have hj : j < 16 := by have := (Array.getElem?_eq_some_iff.1 hv).1; rw [arr_size, h.1] at this; exact this
  rw [Nat.add_assoc]
  refine r (2 + j) v ?_
  rw [Ov.atA h j hj, ← hv, arr_at _ _ (by rw [h.1]; exact hj)]
/-- A type of options. -/
structure OT (t : TypeId) : Prop where
  desc : ∃ fs, Tryd.prog.underlying t = some (.struct fs)
  info : (Tryd.prog.info? t).map (·.size) = some 19
  full : ∀ (o : Ov), o.ad.length = 16 → Tryd.prog.built t [(0, .int .i64 o.k), (1, o.n.v), (2, .agg (arr o.ad)), (3, o.t.v)] = some o.cs
  two : ∀ (k : Int) (v : Txt), Tryd.prog.built t [(0, .int .i64 k), (1, v.v)] = some (Ov.cs ⟨k, v, zeros, Txt.none⟩)
  kind : ∀ (k : Int), Tryd.prog.built t [(0, .int .i64 k)] = some (Ov.cs ⟨k, Txt.none, zeros, Txt.none⟩)
  bare : Tryd.prog.built t [] = some Ov.zero.cs
  zero : (Tryd.prog.info? t).map (fun i => (i.zero, i.size, i.bytes)) = some (some (.agg Ov.zero.cs), 19, 72)
theorem built43 (k : Int) (na : Option Addr) (nl nc : Nat) (l : List Int) (a0 a1 a2 a3 a4 a5 a6 a7 a8 a9 a10 a11 a12 a13 a14 a15 : Int) (ta : Option Addr) (tl tc : Nat) (m : List Int) : Tryd.prog.built 43 [(0, .int .i64 k), (1, Txt.v ⟨na, nl, nc, l⟩), (2, .agg (arr [a0, a1, a2, a3, a4, a5, a6, a7, a8, a9, a10, a11, a12, a13, a14, a15])), (3, Txt.v ⟨ta, tl, tc, m⟩)] =
    some (Ov.cs ⟨k, ⟨na, nl, nc, l⟩, [a0, a1, a2, a3, a4, a5, a6, a7, a8, a9, a10, a11, a12, a13, a14, a15], ⟨ta, tl, tc, m⟩⟩) := by kernel_rfl
theorem full43 (o : Ov) (h : o.ad.length = 16) : Tryd.prog.built 43 [(0, .int .i64 o.k), (1, o.n.v), (2, .agg (arr o.ad)), (3, o.t.v)] = some o.cs := by
  obtain ⟨k, ⟨na, nl, nc, l⟩, ad, ⟨ta, tl, tc, m⟩⟩ := o
  simp only at h
  match ad, h with
  | [a0, a1, a2, a3, a4, a5, a6, a7, a8, a9, a10, a11, a12, a13, a14, a15], _ => exact built43 k na nl nc l a0 a1 a2 a3 a4 a5 a6 a7 a8 a9 a10 a11 a12 a13 a14 a15 ta tl tc m
theorem built38 (k : Int) (na : Option Addr) (nl nc : Nat) (l : List Int) (a0 a1 a2 a3 a4 a5 a6 a7 a8 a9 a10 a11 a12 a13 a14 a15 : Int) (ta : Option Addr) (tl tc : Nat) (m : List Int) : Tryd.prog.built 38 [(0, .int .i64 k), (1, Txt.v ⟨na, nl, nc, l⟩), (2, .agg (arr [a0, a1, a2, a3, a4, a5, a6, a7, a8, a9, a10, a11, a12, a13, a14, a15])), (3, Txt.v ⟨ta, tl, tc, m⟩)] =
    some (Ov.cs ⟨k, ⟨na, nl, nc, l⟩, [a0, a1, a2, a3, a4, a5, a6, a7, a8, a9, a10, a11, a12, a13, a14, a15], ⟨ta, tl, tc, m⟩⟩) := by kernel_rfl
theorem full38 (o : Ov) (h : o.ad.length = 16) : Tryd.prog.built 38 [(0, .int .i64 o.k), (1, o.n.v), (2, .agg (arr o.ad)), (3, o.t.v)] = some o.cs := by
  obtain ⟨k, ⟨na, nl, nc, l⟩, ad, ⟨ta, tl, tc, m⟩⟩ := o
  simp only at h
  match ad, h with
  | [a0, a1, a2, a3, a4, a5, a6, a7, a8, a9, a10, a11, a12, a13, a14, a15], _ => exact built38 k na nl nc l a0 a1 a2 a3 a4 a5 a6 a7 a8 a9 a10 a11 a12 a13 a14 a15 ta tl tc m
theorem two43 (k : Int) (a : Option Addr) (n c : Nat) : Tryd.prog.built 43 [(0, .int .i64 k), (1, .slice a n c)] = some (Ov.cs ⟨k, ⟨a, n, c, []⟩, zeros, Txt.none⟩) := by kernel_rfl
theorem two38 (k : Int) (a : Option Addr) (n c : Nat) : Tryd.prog.built 38 [(0, .int .i64 k), (1, .slice a n c)] = some (Ov.cs ⟨k, ⟨a, n, c, []⟩, zeros, Txt.none⟩) := by kernel_rfl
theorem kind43 (k : Int) : Tryd.prog.built 43 [(0, .int .i64 k)] = some (Ov.cs ⟨k, Txt.none, zeros, Txt.none⟩) := by kernel_rfl
theorem kind38 (k : Int) : Tryd.prog.built 38 [(0, .int .i64 k)] = some (Ov.cs ⟨k, Txt.none, zeros, Txt.none⟩) := by kernel_rfl
theorem o43 : OT 43 := ⟨⟨_, Tryd.underlying43⟩, by kernel_rfl, full43, fun k v => two43 k v.a v.n v.cap, kind43, by kernel_rfl, by kernel_rfl⟩
theorem o38 : OT 38 := ⟨⟨_, Tryd.underlying38⟩, by kernel_rfl, full38, fun k v => two38 k v.a v.n v.cap, kind38, by kernel_rfl, by kernel_rfl⟩
theorem zov : (#[Value.int .i64 0, .slice none 0 0, .int .u8 0, .int .u8 0, .int .u8 0, .int .u8 0, .int .u8 0, .int .u8 0, .int .u8 0, .int .u8 0, .int .u8 0, .int .u8 0, .int .u8 0, .int .u8 0, .int .u8 0, .int .u8 0, .int .u8 0, .int .u8 0, .slice none 0 0] : Array Value) = Ov.zero.cs := rfl
theorem ldO {ops : Array Oper} {rest : List Oper} {o : Oper} {a : Act} {w : World} {Q : Exit → Act → World → Prop} {t : TypeId} (ht : OT t) (x : Operand) (ho : o.op = .load t x) (hw : Region.wanted o (yielded ops a.tmps) = true) (g off : Nat) (hx : a.eval x = .pointer (some ⟨g, off, none⟩)) (h : Ov) (hl : Adr h.ad) (hg : Part w g off h.cs)
    (hn : wpList Tryd.prog ops Q rest (a.put o.dst (.agg h.cs)) w) : wpList Tryd.prog ops Q (o :: rest) a w := by
  obtain ⟨fs, h1⟩ := ht.desc
  exact wp_ld t x ho hw g off hx h.cs _ h1 rfl (by rw [Ov.size hl]; exact ht.info) hg hn
theorem stO {ops : Array Oper} {rest : List Oper} {o : Oper} {a : Act} {w : World} {Q : Exit → Act → World → Prop} {t : TypeId} (ht : OT t) (x y : Operand) (ho : o.op = .store t x y) (hgd : o.guard = none) (g : Nat) (h : Ov) (hl : Adr h.ad) (hx : a.eval x = .pointer (some ⟨g, 0, none⟩)) (hy : a.eval y = .agg h.cs) (t' : TypeId) (old : Ov) (hlo : Adr old.ad) (hg : Row w g t' old.cs)
    (hn : wpList Tryd.prog ops Q rest (a.put o.dst undef) (w.setRow g h.cs)) : wpList Tryd.prog ops Q (o :: rest) a w :=
  wp_st t x y ho hgd g h.cs hx hy (by rw [Ov.size hl]; exact ht.info) h.one t' old.cs (by rw [Ov.size hl, Ov.size hlo]) hg hn
theorem bdO {ops : Array Oper} {rest : List Oper} {o : Oper} {a : Act} {w : World} {Q : Exit → Act → World → Prop} {t : TypeId} (ht : OT t) (x0 x1 x2 x3 : Operand) (ho : o.op = .build t #[(0, x0), (1, x1), (2, x2), (3, x3)]) (hg : o.guard = none)
    (h : Ov) (hl : Adr h.ad) (h0 : a.eval x0 = .int .i64 h.k) (h1 : a.eval x1 = h.n.v) (h2 : a.eval x2 = .agg (arr h.ad)) (h3 : a.eval x3 = h.t.v)
    (hn : wpList Tryd.prog ops Q rest (a.put o.dst (.agg h.cs)) w) : wpList Tryd.prog ops Q (o :: rest) a w :=
  wp_bd t _ ho hg h.cs (by simp only [List.map_toArray, List.map_cons, List.map_nil, h0, h1, h2, h3]; exact ht.full h hl.1) hn
theorem bdO2 {ops : Array Oper} {rest : List Oper} {o : Oper} {a : Act} {w : World} {Q : Exit → Act → World → Prop} {t : TypeId} (ht : OT t) (x0 x1 : Operand) (ho : o.op = .build t #[(0, x0), (1, x1)]) (hg : o.guard = none)
    (k : Int) (v : Txt) (h0 : a.eval x0 = .int .i64 k) (h1 : a.eval x1 = v.v)
    (hn : wpList Tryd.prog ops Q rest (a.put o.dst (.agg (Ov.cs ⟨k, v, zeros, Txt.none⟩))) w) : wpList Tryd.prog ops Q (o :: rest) a w :=
  wp_bd t _ ho hg _ (by simp only [List.map_toArray, List.map_cons, List.map_nil, h0, h1]; exact ht.two k v) hn
theorem bdO1 {ops : Array Oper} {rest : List Oper} {o : Oper} {a : Act} {w : World} {Q : Exit → Act → World → Prop} {t : TypeId} (ht : OT t) (x0 : Operand) (ho : o.op = .build t #[(0, x0)]) (hg : o.guard = none)
    (k : Int) (h0 : a.eval x0 = .int .i64 k)
    (hn : wpList Tryd.prog ops Q rest (a.put o.dst (.agg (Ov.cs ⟨k, Txt.none, zeros, Txt.none⟩))) w) : wpList Tryd.prog ops Q (o :: rest) a w :=
  wp_bd t _ ho hg _ (by simp only [List.map_toArray, List.map_cons, List.map_nil, h0]; exact ht.kind k) hn
theorem bdOz {ops : Array Oper} {rest : List Oper} {o : Oper} {a : Act} {w : World} {Q : Exit → Act → World → Prop} {t : TypeId} (ht : OT t) (ho : o.op = .build t #[]) (hg : o.guard = none)
    (hn : wpList Tryd.prog ops Q rest (a.put o.dst (.agg Ov.zero.cs)) w) : wpList Tryd.prog ops Q (o :: rest) a w :=
  wp_bd t _ ho hg Ov.zero.cs (by simp only [List.map_toArray, List.map_nil]; exact ht.bare) hn
/-- A slice of options. -/
structure Opts (w : World) (a : Option Addr) (n cap : Nat) (L : List Ov) : Prop where
  len : L.length = n
  le : n ≤ cap
  max : cap ≤ maxLen
  isNil : a = none → cap = 0
  cell : ∀ k, k < n → ∃ b off, a = some ⟨b, off, none⟩ ∧ Part w b (off + k * 19) (L.getD k Ov.zero).cs
  ok : ∀ o ∈ L, o.ok w
theorem Part.below {w w' : World} {b off : Nat} {c : Array Value} (h : Part w b off c) (hb : Below w.heap.size w w') : Part w' b off c := fun j v hv => by
  have := h j v hv
  exact (hb.cell (p := ⟨b, off + j, none⟩) (World.block_lt_of_cell? w _ this)).trans this
theorem Opts.below {w w' : World} {a : Option Addr} {n cap : Nat} {L : List Ov} (h : Opts w a n cap L) (hb : Below w.heap.size w w') : Opts w' a n cap L := by
  refine ⟨h.len, h.le, h.max, h.isNil, fun k hk => ?_, fun o ho => (h.ok o ho).below hb⟩
  obtain ⟨b, off, he, hc⟩ := h.cell k hk
  exact ⟨b, off, he, hc.below hb⟩
theorem Opts.none (w : World) : Opts w none 0 0 [] := ⟨rfl, Nat.le_refl _, by decide, fun _ => rfl, fun k hk => by omega, fun o ho => by cases ho⟩
theorem Opts.at {w : World} {a : Option Addr} {n cap : Nat} {L : List Ov} (h : Opts w a n cap L) (k : Nat) (hk : k < n) : (L.getD k Ov.zero).ok w := by
  refine h.ok _ ?_
  rw [List.getD_eq_getElem?_getD, List.getElem?_eq_getElem (by rw [h.len]; exact hk)]
  exact List.getElem_mem _
/-- The cells of options, one behind the other. -/
def ocs (L : List Ov) : List Value := L.flatMap (·.cs.toList)
theorem ocs_length {L : List Ov} (h : ∀ o ∈ L, Adr o.ad) : (ocs L).length = L.length * 19 := by
  induction L with
  | nil => rfl
  | cons o L ih =>
    have := Ov.size (h o (by simp))
    simp only [ocs, List.flatMap_cons, List.length_append, Array.length_toList, List.length_cons] at ih ⊢
    rw [ih (fun x hx => h x (by simp [hx])), this]; omega
theorem ocs_app (L M : List Ov) : ocs (L ++ M) = ocs L ++ ocs M := List.flatMap_append
theorem ocs_one (L : List Ov) : ∀ u ∈ ocs L, u.oneCell' = true := by
  intro u hu
  simp only [ocs, List.mem_flatMap, Array.mem_toList_iff] at hu
  obtain ⟨o, _, hu⟩ := hu
  have := o.one
  rw [Array.all_eq_true_iff_forall_mem] at this
  exact this u hu
theorem ocs_at {L : List Ov} (h : ∀ o ∈ L, Adr o.ad) (k : Nat) (hk : k < L.length) (j : Nat) (hj : j < 19) : (ocs L)[k * 19 + j]? = (L.getD k Ov.zero).cs[j]? := by
  induction L generalizing k with
  | nil => simp at hk
  | cons o L ih =>
    have hs := Ov.size (h o (by simp))
    have e : ocs (o :: L) = o.cs.toList ++ ocs L := by simp [ocs]
    rw [e]
    cases k with
    | zero =>
      rw [List.getElem?_append_left (by rw [Array.length_toList, hs]; omega)]
      simp
    | succ k =>
      rw [List.getElem?_append_right (by rw [Array.length_toList, hs]; omega), Array.length_toList, hs, show (k + 1) * 19 + j - 19 = k * 19 + j by omega, ih (fun x hx => h x (by simp [hx])) k (by simpa using hk)]
      simp
/-- A row of options of the call's own. -/
theorem owns_opts {w : World} {base : Nat} {e : TypeId} {v : Value} {L : List Ov} (h : w.ownsRow base e 19 v L.length (ocs L)) (hok : ∀ o ∈ L, o.ok w) : ∃ a cap, v = .slice a L.length cap ∧ Opts w a L.length cap L := by
  have had : ∀ o ∈ L, Adr o.ad := fun o ho => (hok o ho).ad
  rcases h.2 with ⟨rfl, hn⟩ | ⟨g, cap, cur, rfl, hb, hg, hnc, hcm, hcs, hx⟩
  · exact ⟨Option.none, 0, by rw [hn], rfl, by omega, by decide, fun _ => rfl, fun k hk => by omega, hok⟩
  · refine ⟨_, cap, rfl, rfl, hnc, hcm, (fun h => by cases h), fun k hk => ⟨g, 0, rfl, ?_⟩, hok⟩
    intro j u hu
    have hadk : Adr (L.getD k Ov.zero).ad := had _ (by rw [List.getD_eq_getElem?_getD, List.getElem?_eq_getElem hk]; exact List.getElem_mem _)
    have hj : j < 19 := by have := (Array.getElem?_eq_some_iff.1 hu).1; rw [Ov.size hadk] at this; exact this
    rw [Nat.zero_add, cell_of_row w g _ cur e (0, 0) hg]
    have h1 : (cur.toList.take (L.length * 19))[k * 19 + j]? = (ocs L)[k * 19 + j]? := by rw [hx]
    rw [ocs_at had k hk j hj, hu, List.getElem?_take, if_pos (by omega)] at h1
    simpa using h1
end Go.Proofs.YtbgogeojdibmkaaDoor
