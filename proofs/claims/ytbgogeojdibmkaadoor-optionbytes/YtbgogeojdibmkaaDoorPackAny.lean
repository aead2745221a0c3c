/- Slices that came in, appends from wherever, and what pack.Put answers in one sentence. -/
import Derived.Test.YtbgogeojdibmkaaDoorPackMany
import Derived.Laws.AppendOwnNone
namespace Go.Proofs.YtbgogeojdibmkaaDoor
open Go.ChangeShapes Go.WideShapes Go.ChangeAt Go.RowKit
set_option linter.unusedVariables false
set_option linter.unusedSimpArgs false

theorem bthen {w w1 w2 : World} (h : Below w.heap.size w w1) (k : Below w1.heap.size w1 w2) : Below w.heap.size w w2 := h.trans (k.mono h.size)
theorem bgrown {w w1 w2 : World} {c : Nat} (h : Below w.heap.size w w1) (k : w1.grownBy w2 (some c)) (hc : w.heap.size ≤ c) : Below w.heap.size w w2 := Below.grown h k h.size (fun j hj => by cases hj; exact hc)
theorem bdrew {w w1 : World} (h : Below w.heap.size w w1) (q : Nat) : Below w.heap.size w (w1.drewN q) := h.trans ⟨rfl, rfl, rfl, Nat.le_refl _, fun _ _ => rfl⟩
theorem balloc {w w1 : World} (h : Below w.heap.size w w1) (o : Obj) : Below w.heap.size w (w1.alloc o) := h.alloc h.size o

/-- Numbers that were just laid down. -/
theorem lies_new (kd : IntKind) (w : World) (cs : Array Value) (t : TypeId) (l : List Int) (h : cs.toList = l.map (Value.int kd)) (hs : l.length ≤ 100) : Lies kd (w.alloc (.cells cs t)) (some ⟨w.heap.size, 0, none⟩) l.length l.length l := by
  refine ⟨rfl, Nat.le_refl _, by unfold maxLen; omega, fun h => (by cases h), fun k hk => ⟨w.heap.size, 0, rfl, ?_⟩⟩
  have := World.news_of_block (heap_alloc_new w (.cells cs t)) k (.int kd (l.getD k 0)) (by rw [h]; simp [hk])
  rwa [Addr.add_lit] at this

/-- What is known of a slice of numbers that came in: it is nil, or it leads to a row of 'cap' cells that hold the numbers 'zs'. -/
def IsRow (k : IntKind) (w : World) (a : Option Addr) (len cap : Nat) (zs : List Int) : Prop :=
  (a = none ∧ len = 0 ∧ cap = 0 ∧ zs = []) ∨
  ∃ x, a = some x ∧ len ≤ cap ∧ cap ≤ maxLen ∧ zs.length = cap ∧ (∀ i, i < zs.length → w.cell? (x.add i) = some (.int k (zs.getD i 0))) ∧ ∀ n ∈ zs, (Lit.int k n).wf = true

theorem IsRow.lies {kd : IntKind} {w : World} {a : Option Addr} {len cap : Nat} {zs : List Int} (h : IsRow kd w a len cap zs) : Lies kd w a len cap (zs.take len) := by
  rcases h with ⟨rfl, rfl, rfl, rfl⟩ | ⟨x, rfl, hlc, hcm, hz, hcell, hwf⟩
  · exact Lies.nil kd w
  · refine ⟨by simp; omega, hlc, hcm, fun h => (by cases h), fun k hk => ?_⟩
    obtain ⟨b, off, rfl, hc⟩ := ints_at hcell (by omega)
    refine ⟨b, off, rfl, ?_⟩
    rw [hc k (by omega)]
    simp [List.getD, List.getElem?_take, hk]

theorem Lies.pre {kd : IntKind} {w : World} {a : Option Addr} {len cap : Nat} {l : List Int} (h : Lies kd w a len cap l) (n : Nat) (hn : n ≤ len) : Lies kd w a n cap (l.take n) := by
  refine ⟨by rw [List.length_take, h.1]; omega, Nat.le_trans hn h.2.1, h.2.2.1, h.2.2.2.1, fun k hk => ?_⟩
  obtain ⟨b, off, he, hc⟩ := h.2.2.2.2 k (by omega)
  refine ⟨b, off, he, ?_⟩
  rw [hc]; simp [List.getD, List.getElem?_take, hk]

theorem IsRow.wf {kd : IntKind} {w : World} {a : Option Addr} {len cap : Nat} {zs : List Int} (h : IsRow kd w a len cap zs) : ∀ n ∈ zs, (Lit.int kd n).wf = true := by
  rcases h with ⟨rfl, rfl, rfl, rfl⟩ | ⟨x, rfl, hlc, hcm, hz, hcell, hwf⟩
  · intro n hn; cases hn
  · exact hwf

/-- An append onto a row of the call's own, from wherever. -/
theorem wpList_append_own_any {P : Program} (w : World) {ops : Array Oper} {rest : List Oper} {o : Oper} {a : Act} {Q : Exit → Act → World → Prop} (hgd : o.guard = none) (s x : Operand) (t : TypeId)
    (ho : o.op = .call { callee := .builtin .append, args := #[s, x], argTypes := #[t, t] })
    (base : Nat) (e : TypeId) (i : TypeInfo) (z : Value) (size bytes : Nat) (ht : P.underlying t = some (.slice e)) (hi : P.info? e = some i) (hz : i.zero = some z)
    (hsize : i.size = size) (hby : i.bytes = bytes) (hzs : z.cells.size = size) (hsz : 0 < size)
    (v : Value) (n : Nat) (xs : List Value) (hs : a.eval s = v) (hown : w.ownsRow base e size v n xs)
    (ao : Option Addr) (m c : Nat) (news : List Value) (hx : a.eval x = .slice ao m c) (hl : news.length = m * size) (hnone : ao = none → m = 0 ∧ c = 0) (hnews : ∀ ad, ao = some ad → ∀ j u, news[j]? = some u → w.cell? (ad.add j) = some u) (h1 : ∀ u ∈ news, u.oneCell' = true)
    (h63 : n + m ≤ maxLen) (hbytes : (n + m) * bytes ≤ 140737488355328) (hbase : base ≤ w.heap.size)
    (h : ∀ v' w', w'.ownsRow base e size v' (n + m) (xs ++ news) → Below base w w' → wpList P ops Q rest (a.put o.dst v') w') : wpList P ops Q (o :: rest) a w := by
  cases ao with
  | some ad =>
    refine wpList_append_own w hgd s x t ho base e i z size bytes ht hi hz hsize hby hzs hsz v n xs hs hown ad m c news hx hl (hnews ad rfl) h1 h63 hbytes hbase ?_
    intro v' w' h2 h3 _
    exact h v' w' h2 (Below.grown (Below.refl _ _) h3 hbase (fun k hk => (hown.lt k hk).1))
  | none =>
    obtain ⟨rfl, rfl⟩ := hnone rfl
    have hn : news = [] := List.eq_nil_of_length_eq_zero (by simpa using hl)
    subst hn
    refine wpList_append_own_none hgd s x t ho base e i size ht hi v n xs hs hown hx ?_
    exact h v w (by simpa using hown) (Below.refl _ _)

/-- What is wrong, if these numbers are put behind so many bytes. -/
def putE (size : Int) (lb : Nat) (l : List Int) : Int := if fitsB size l = true then (if 1280 < lb + size.toNat * l.length then 2 else 0) else 1
/-- What is put then. -/
def putL (size : Int) (bs l : List Int) : List Int := if putE size bs.length l = 0 then bs ++ bytesOf size l else []

theorem put_any (ab al : Option Addr) (lb cb ll cl : Nat) (size : Int) (bs l : List Int) (w : World) (hb : Lies .u8 w ab lb cb bs) (hl : Lies .i64 w al ll cl l) (hlb : lb ≤ 1000000) (hll : ll ≤ 1000000) :
    Calls Tryd.prog 46 #[.slice ab lb cb, .int .i64 size, .slice al ll cl] w fun e w' => ∃ v, e = .returned (.tuple #[v, .int .i64 (putE size bs.length l)]) ∧
      w'.ownsRow w.heap.size 5 1 v (putL size bs l).length (u8s (putL size bs l)) ∧ Below w.heap.size w w' := by
  have h1 := hb.1
  have h2 := hl.1
  cases hf : fitsB size l
  · have hE : putE size bs.length l = 1 := by simp [putE, hf]
    have hL : putL size bs l = [] := by simp [putL, hE]
    rw [hE, hL]
    refine (put_no ab al lb cb ll cl size l w hl hf).mono ?_
    rintro e w' ⟨rfl, rfl⟩
    exact ⟨_, rfl, World.ownsRow_nil _ _ _ _, Below.refl _ _⟩
  · by_cases hlong : 1280 < lb + size.toNat * ll
    · have hE : putE size bs.length l = 2 := by simp [putE, hf, h1, h2, hlong]
      have hL : putL size bs l = [] := by simp [putL, hE]
      rw [hE, hL]
      refine (put_long ab al lb cb ll cl size l w hl hf hlb hll hlong).mono ?_
      rintro e w' ⟨rfl, rfl⟩
      exact ⟨_, rfl, World.ownsRow_nil _ _ _ _, Below.refl _ _⟩
    · have hE : putE size bs.length l = 0 := by simp [putE, hf, h1, h2]; omega
      have hL : putL size bs l = bs ++ bytesOf size l := by simp [putL, hE]
      rw [hE, hL]
      refine (put_ok ab al lb cb ll cl size bs l w hb hl hf (by omega)).mono ?_
      rintro e w' ⟨v, rfl, h1, h2⟩
      exact ⟨v, rfl, h1, h2⟩

theorem putL_le (size : Int) (bs l : List Int) : (putL size bs l).length ≤ 1280 := by
  unfold putL
  split
  · rename_i h
    unfold putE at h
    split at h
    · rename_i hf
      split at h
      · omega
      · have hz : sizeB size = true := by simp [fitsB] at hf; exact hf.1
        rw [List.length_append, bytesOf_length size l hz]; omega
    · omega
  · simp

/-- A row of the call's own, as a slice of numbers. -/
theorem owns_liesk {kd : IntKind} {e : TypeId} {w : World} {base : Nat} {v : Value} {l : List Int} (h : w.ownsRow base e 1 v l.length (l.map (Value.int kd))) : ∃ a cap, v = .slice a l.length cap ∧ Lies kd w a l.length cap l := by
  rcases h.2 with ⟨rfl, hn⟩ | ⟨g, cap, cur, rfl, hb, hg, hnc, hcm, hcs, hx⟩
  · exact ⟨none, 0, by rw [hn], ⟨rfl, by omega, by decide, fun _ => rfl, fun k hk => by omega⟩⟩
  · refine ⟨_, cap, rfl, ⟨rfl, hnc, hcm, (fun h => by cases h), fun k hk => ⟨g, 0, rfl, ?_⟩⟩⟩
    rw [Nat.zero_add, cell_of_row w g k cur e (0, 0) hg]
    have h1 : (cur.toList.take (l.length * 1))[k]? = (l.map (Value.int kd))[k]? := by rw [hx]
    rw [List.getElem?_take, if_pos (by omega)] at h1
    simp [hk] at h1
    simp [h1, hk]

theorem fitsB_append (size : Int) (l m : List Int) : fitsB size (l ++ m) = (fitsB size l && fitsB size m) := by
  unfold fitsB; rw [List.all_append]; cases sizeB size <;> simp

theorem size_le {size : Int} {l : List Int} (h : fitsB size l = true) : size.toNat ≤ 4 := by
  have : sizeB size = true := by simp [fitsB] at h; exact h.1
  rcases sizeB_cases this with rfl | rfl | rfl <;> decide

/-- The same bytes, of two rows of any length. -/
theorem same_any (a b : Option Addr) (la ca lb cb : Nat) (l m : List Int) (w : World) (ha : Lies .u8 w a la ca l) (hb : Lies .u8 w b lb cb m) :
    Calls Tryd.prog 11 #[.slice a la ca, .slice b lb cb] w fun e w' => e = .returned (.bool (l == m)) ∧ ∃ q, w' = w.drewN q := by
  by_cases h : la = lb
  · subst h; exact same_len a b la ca cb l m w ha hb
  · refine (same_no a b la ca lb cb w h).mono ?_
    rintro e w' ⟨rfl, rfl⟩
    refine ⟨ret_bool ?_, 0, rfl⟩
    symm
    rw [beq_eq_false_iff_ne]
    intro e; subst e
    exact h (ha.1.symm.trans hb.1)
end Go.Proofs.YtbgogeojdibmkaaDoor
