/- Slices that came in, appends from wherever, and what pack.Put answers in one sentence. · What the document's own Digits answers: contracts. · What the document's own cursor answers: contracts. -/
import Derived.Test.YtbgogeojdibmkaaDoorM2
import Derived.Laws.AppendOwnNone
namespace Go.Proofs.YtbgogeojdibmkaaDoor
open Go.ChangeShapes Go.WideShapes Go.ChangeAt Go.RowKit
set_option linter.unusedVariables false
set_option linter.unusedSimpArgs false

theorem bthen {w w1 w2 : World} (h : Below w.heap.size w w1) (k : Below w1.heap.size w1 w2) : Below w.heap.size w w2 := h.trans (k.mono h.size)
theorem bgrown {w w1 w2 : World} {c : Nat} (h : Below w.heap.size w w1) (k : w1.grownBy w2 (some c)) (hc : w.heap.size ≤ c) : Below w.heap.size w w2 := Below.grown h k h.size (fun j hj => by cases hj; exact hc)
theorem bdrew {w w1 : World} (h : Below w.heap.size w w1) (q : Nat) : Below w.heap.size w (w1.drewN q) := h.trans ⟨rfl, rfl, rfl, Nat.le_refl _, fun _ _ => rfl⟩
theorem balloc {w w1 : World} (h : Below w.heap.size w w1) (o : Obj) : Below w.heap.size w (w1.alloc o) := h.alloc h.size o

/-- Numbers that were just laid down. -/
theorem lies_new (kd : IntKind) (w : World) (cs : Array Value) (t : TypeId) (l : List Int) (h : cs.toList = l.map (Value.int kd)) (hs : l.length ≤ 100) : Lies kd (w.alloc (.cells cs t)) (some ⟨w.heap.size, 0, none⟩) l.length l.length l := by
  refine ⟨rfl, Nat.le_refl _, by unfold maxLen; omega, fun h => (by cases h), fun k hk => ⟨w.heap.size, 0, rfl, ?_⟩⟩
  have := World.news_of_block (heap_alloc_new w (.cells cs t)) k (.int kd (l.getD k 0)) (by rw [h]; simp [hk])
  rwa [Addr.add_lit] at this

/-- What is known of a slice of numbers that came in: it is nil, or it leads to a row of 'cap' cells that hold the numbers 'zs'. -/
def IsRow (k : IntKind) (w : World) (a : Option Addr) (len cap : Nat) (zs : List Int) : Prop :=
  (a = none ∧ len = 0 ∧ cap = 0 ∧ zs = []) ∨
  ∃ x, a = some x ∧ len ≤ cap ∧ cap ≤ maxLen ∧ zs.length = cap ∧ (∀ i, i < zs.length → w.cell? (x.add i) = some (.int k (zs.getD i 0))) ∧ ∀ n ∈ zs, (Lit.int k n).wf = true

theorem IsRow.lies {kd : IntKind} {w : World} {a : Option Addr} {len cap : Nat} {zs : List Int} (h : IsRow kd w a len cap zs) : Lies kd w a len cap (zs.take len) := by
  rcases h with ⟨rfl, rfl, rfl, rfl⟩ | ⟨x, rfl, hlc, hcm, hz, hcell, hwf⟩
  · exact Lies.nil kd w
  · refine ⟨by simp; omega, hlc, hcm, fun h => (by cases h), fun k hk => ?_⟩
    obtain ⟨b, off, rfl, hc⟩ := ints_at hcell (by omega)
    refine ⟨b, off, rfl, ?_⟩
    rw [hc k (by omega)]
    simp [List.getD, List.getElem?_take, hk]

theorem Lies.pre {kd : IntKind} {w : World} {a : Option Addr} {len cap : Nat} {l : List Int} (h : Lies kd w a len cap l) (n : Nat) (hn : n ≤ len) : Lies kd w a n cap (l.take n) := by
  refine ⟨by rw [List.length_take, h.1]; omega, Nat.le_trans hn h.2.1, h.2.2.1, h.2.2.2.1, fun k hk => ?_⟩
  obtain ⟨b, off, he, hc⟩ := h.2.2.2.2 k (by omega)
  refine ⟨b, off, he, ?_⟩
  rw [hc]; simp [List.getD, List.getElem?_take, hk]

theorem IsRow.wf {kd : IntKind} {w : World} {a : Option Addr} {len cap : Nat} {zs : List Int} (h : IsRow kd w a len cap zs) : ∀ n ∈ zs, (Lit.int kd n).wf = true := by
  rcases h with ⟨rfl, rfl, rfl, rfl⟩ | ⟨x, rfl, hlc, hcm, hz, hcell, hwf⟩
  · intro n hn; cases hn
  · exact hwf

/-- An append onto a row of the call's own, from wherever. -/
theorem wpList_append_own_any {P : Program} (w : World) {ops : Array Oper} {rest : List Oper} {o : Oper} {a : Act} {Q : Exit → Act → World → Prop} (hgd : o.guard = none) (s x : Operand) (t : TypeId)
    (ho : o.op = .call { callee := .builtin .append, args := #[s, x], argTypes := #[t, t] })
    (base : Nat) (e : TypeId) (i : TypeInfo) (z : Value) (size bytes : Nat) (ht : P.underlying t = some (.slice e)) (hi : P.info? e = some i) (hz : i.zero = some z)
    (hsize : i.size = size) (hby : i.bytes = bytes) (hzs : z.cells.size = size) (hsz : 0 < size)
    (v : Value) (n : Nat) (xs : List Value) (hs : a.eval s = v) (hown : w.ownsRow base e size v n xs)
    (ao : Option Addr) (m c : Nat) (news : List Value) (hx : a.eval x = .slice ao m c) (hl : news.length = m * size) (hnone : ao = none → m = 0 ∧ c = 0) (hnews : ∀ ad, ao = some ad → ∀ j u, news[j]? = some u → w.cell? (ad.add j) = some u) (h1 : ∀ u ∈ news, u.oneCell' = true)
    (h63 : n + m ≤ maxLen) (hbytes : (n + m) * bytes ≤ 140737488355328) (hbase : base ≤ w.heap.size)
    (h : ∀ v' w', w'.ownsRow base e size v' (n + m) (xs ++ news) → Below base w w' → wpList P ops Q rest (a.put o.dst v') w') : wpList P ops Q (o :: rest) a w := by
  cases ao with
  | some ad =>
    refine wpList_append_own w hgd s x t ho base e i z size bytes ht hi hz hsize hby hzs hsz v n xs hs hown ad m c news hx hl (hnews ad rfl) h1 h63 hbytes hbase ?_
    intro v' w' h2 h3 _
    exact h v' w' h2 (Below.grown (Below.refl _ _) h3 hbase (fun k hk => (hown.lt k hk).1))
  | none =>
    obtain ⟨rfl, rfl⟩ := hnone rfl
    have hn : news = [] := List.eq_nil_of_length_eq_zero (by simpa using hl)
    subst hn
    refine wpList_append_own_none hgd s x t ho base e i size ht hi v n xs hs hown hx ?_
    exact h v w (by simpa using hown) (Below.refl _ _)

/-- What is wrong, if these numbers are put behind so many bytes. -/
def putE (size : Int) (lb : Nat) (l : List Int) : Int := if fitsB size l = true then (if 1280 < lb + size.toNat * l.length then 2 else 0) else 1
/-- What is put then. -/
def putL (size : Int) (bs l : List Int) : List Int := if putE size bs.length l = 0 then bs ++ bytesOf size l else []

theorem put_any (ab al : Option Addr) (lb cb ll cl : Nat) (size : Int) (bs l : List Int) (w : World) (hb : Lies .u8 w ab lb cb bs) (hl : Lies .i64 w al ll cl l) (hlb : lb ≤ 1000000) (hll : ll ≤ 1000000) :
    Calls Tryd.prog 46 #[.slice ab lb cb, .int .i64 size, .slice al ll cl] w fun e w' => ∃ v, e = .returned (.tuple #[v, .int .i64 (putE size bs.length l)]) ∧
      w'.ownsRow w.heap.size 5 1 v (putL size bs l).length (u8s (putL size bs l)) ∧ Below w.heap.size w w' := by
  have h1 := hb.1
  have h2 := hl.1
  cases hf : fitsB size l
  · have hE : putE size bs.length l = 1 := by simp [putE, hf]
    have hL : putL size bs l = [] := by simp [putL, hE]
    rw [hE, hL]
    refine (put_no ab al lb cb ll cl size l w hl hf).mono ?_
    rintro e w' ⟨rfl, rfl⟩
    exact ⟨_, rfl, World.ownsRow_nil _ _ _ _, Below.refl _ _⟩
  · by_cases hlong : 1280 < lb + size.toNat * ll
    · have hE : putE size bs.length l = 2 := by simp [putE, hf, h1, h2, hlong]
      have hL : putL size bs l = [] := by simp [putL, hE]
      rw [hE, hL]
      refine (put_long ab al lb cb ll cl size l w hl hf hlb hll hlong).mono ?_
      rintro e w' ⟨rfl, rfl⟩
      exact ⟨_, rfl, World.ownsRow_nil _ _ _ _, Below.refl _ _⟩
    · have hE : putE size bs.length l = 0 := by simp [putE, hf, h1, h2]; omega
      have hL : putL size bs l = bs ++ bytesOf size l := by simp [putL, hE]
      rw [hE, hL]
      refine (put_ok ab al lb cb ll cl size bs l w hb hl hf (by omega)).mono ?_
      rintro e w' ⟨v, rfl, h1, h2⟩
      exact ⟨v, rfl, h1, h2⟩

theorem putL_le (size : Int) (bs l : List Int) : (putL size bs l).length ≤ 1280 := by
  unfold putL
  split
  · rename_i h
    unfold putE at h
    split at h
    · rename_i hf
      split at h
      · omega
      · have hz : sizeB size = true := by simp [fitsB] at hf; exact hf.1
        rw [List.length_append, bytesOf_length size l hz]; omega
    · omega
  · simp

/-- A row of the call's own, as a slice of numbers. -/
theorem owns_liesk {kd : IntKind} {e : TypeId} {w : World} {base : Nat} {v : Value} {l : List Int} (h : w.ownsRow base e 1 v l.length (l.map (Value.int kd))) : ∃ a cap, v = .slice a l.length cap ∧ Lies kd w a l.length cap l := by
  rcases h.2 with ⟨rfl, hn⟩ | ⟨g, cap, cur, rfl, hb, hg, hnc, hcm, hcs, hx⟩
  · exact ⟨none, 0, by rw [hn], ⟨rfl, by omega, by decide, fun _ => rfl, fun k hk => by omega⟩⟩
  · refine ⟨_, cap, rfl, ⟨rfl, hnc, hcm, (fun h => by cases h), fun k hk => ⟨g, 0, rfl, ?_⟩⟩⟩
    rw [Nat.zero_add, cell_of_row w g k cur e (0, 0) hg]
    have h1 : (cur.toList.take (l.length * 1))[k]? = (l.map (Value.int kd))[k]? := by rw [hx]
    rw [List.getElem?_take, if_pos (by omega)] at h1
    simp [hk] at h1
    simp [h1, hk]

theorem fitsB_append (size : Int) (l m : List Int) : fitsB size (l ++ m) = (fitsB size l && fitsB size m) := by
  unfold fitsB; rw [List.all_append]; cases sizeB size <;> simp

theorem size_le {size : Int} {l : List Int} (h : fitsB size l = true) : size.toNat ≤ 4 := by
  have : sizeB size = true := by simp [fitsB] at h; exact h.1
  rcases sizeB_cases this with rfl | rfl | rfl <;> decide

/-- The same bytes, of two rows of any length. -/
theorem same_any (a b : Option Addr) (la ca lb cb : Nat) (l m : List Int) (w : World) (ha : Lies .u8 w a la ca l) (hb : Lies .u8 w b lb cb m) :
    Calls Tryd.prog 11 #[.slice a la ca, .slice b lb cb] w fun e w' => e = .returned (.bool (l == m)) ∧ ∃ q, w' = w.drewN q := by
  by_cases h : la = lb
  · subst h; exact same_len a b la ca cb l m w ha hb
  · refine (same_no a b la ca lb cb w h).mono ?_
    rintro e w' ⟨rfl, rfl⟩
    refine ⟨ret_bool ?_, 0, rfl⟩
    symm
    rw [beq_eq_false_iff_ne]
    intro e; subst e
    exact h (ha.1.symm.trans hb.1)
end Go.Proofs.YtbgogeojdibmkaaDoor

namespace Go.Proofs.YtbgogeojdibmkaaDoor
open Go.ChangeShapes Go.WideShapes Go.ChangeAt Go.RowKit
set_option linter.unusedVariables false
set_option linter.unusedSimpArgs false

set_option maxHeartbeats 1000000 in
theorem digits1 (n : Int) (w : World) (h0 : 0 ≤ n) (h63 : n ≤ 9223372036854775807) :
    Calls Tryd.prog 29 #[.int .i64 1, .int .i64 n] w fun e w' => e = .returned (.tuple #[.slice (some ⟨w.heap.size, 0, none⟩) 1 1, .bool (okB 1 n)]) ∧ w' = w.alloc (.cells (u8s (digs 1 n)).toArray 5) := by
  have hmk : ∀ w, (Instr.makeSlice 26 (.int .i64 1) (.int .i64 1)).run Tryd.prog w = .ok (.slice (some ⟨w.heap.size, 0, none⟩) 1 1) (w.alloc (.cells #[.int .u8 0] 5)) := fun _ => by kernel_rfl
  have hn : decide (n < 0) = false := by simp; omega
  have HD : Hid ((u8s (digs 1 n)).toArray = #[.int .u8 (n % 256)]) := by simp [Hid, u8s, digs]
  have HK : Hid (okB 1 n = (n / 256 == 0)) := by
    rw [Hid, Bool.eq_iff_iff]; simp [okB, top]; omega
  go_enter Tryd.func29, Tryd.ntmps29
  go_wp2
  refine wp_loop_rounds 2 ?_
  repeat (rw [rounds_succ]; go_wp2)
  go_ret2
  exact ⟨by rw [HK.out]; rfl, by rw [HD.out]⟩

theorem digits1_neg (n : Int) (w : World) (h0 : n < 0) :
    Calls Tryd.prog 29 #[.int .i64 1, .int .i64 n] w fun e w' => e = .returned (.tuple #[.slice none 0 0, .bool false]) ∧ Below w.heap.size w w' := by
  have hmk : ∀ w, (Instr.makeSlice 26 (.int .i64 1) (.int .i64 1)).run Tryd.prog w = .ok (.slice (some ⟨w.heap.size, 0, none⟩) 1 1) (w.alloc (.cells #[.int .u8 0] 5)) := fun _ => by kernel_rfl
  go_enter Tryd.func29, Tryd.ntmps29
  go_wp2
  go_ret2
  exact ⟨rfl, balloc (Below.refl _ _) _⟩

set_option maxHeartbeats 1000000 in
theorem digits2 (n : Int) (w : World) (h0 : 0 ≤ n) (h63 : n ≤ 9223372036854775807) :
    Calls Tryd.prog 29 #[.int .i64 2, .int .i64 n] w fun e w' => e = .returned (.tuple #[.slice (some ⟨w.heap.size, 0, none⟩) 2 2, .bool (okB 2 n)]) ∧ w' = w.alloc (.cells (u8s (digs 2 n)).toArray 5) := by
  have hmk : ∀ w, (Instr.makeSlice 26 (.int .i64 2) (.int .i64 2)).run Tryd.prog w = .ok (.slice (some ⟨w.heap.size, 0, none⟩) 2 2) (w.alloc (.cells #[.int .u8 0, .int .u8 0] 5)) := fun _ => by kernel_rfl
  have hn : decide (n < 0) = false := by simp; omega
  have HD : Hid ((u8s (digs 2 n)).toArray = #[.int .u8 (n / 256 % 256), .int .u8 (n % 256)]) := by simp [Hid, u8s, digs]
  have HK : Hid (okB 2 n = (n / 256 / 256 == 0)) := by
    rw [Hid, Bool.eq_iff_iff]; simp [okB, top]; omega
  go_enter Tryd.func29, Tryd.ntmps29
  go_wp2
  refine wp_loop_rounds 3 ?_
  repeat (rw [rounds_succ]; go_wp2)
  go_ret2
  exact ⟨by rw [HK.out]; rfl, by rw [HD.out]⟩

theorem digits2_neg (n : Int) (w : World) (h0 : n < 0) :
    Calls Tryd.prog 29 #[.int .i64 2, .int .i64 n] w fun e w' => e = .returned (.tuple #[.slice none 0 0, .bool false]) ∧ Below w.heap.size w w' := by
  have hmk : ∀ w, (Instr.makeSlice 26 (.int .i64 2) (.int .i64 2)).run Tryd.prog w = .ok (.slice (some ⟨w.heap.size, 0, none⟩) 2 2) (w.alloc (.cells #[.int .u8 0, .int .u8 0] 5)) := fun _ => by kernel_rfl
  go_enter Tryd.func29, Tryd.ntmps29
  go_wp2
  go_ret2
  exact ⟨rfl, balloc (Below.refl _ _) _⟩

set_option maxHeartbeats 1000000 in
theorem digits4 (n : Int) (w : World) (h0 : 0 ≤ n) (h63 : n ≤ 9223372036854775807) :
    Calls Tryd.prog 29 #[.int .i64 4, .int .i64 n] w fun e w' => e = .returned (.tuple #[.slice (some ⟨w.heap.size, 0, none⟩) 4 4, .bool (okB 4 n)]) ∧ w' = w.alloc (.cells (u8s (digs 4 n)).toArray 5) := by
  have hmk : ∀ w, (Instr.makeSlice 26 (.int .i64 4) (.int .i64 4)).run Tryd.prog w = .ok (.slice (some ⟨w.heap.size, 0, none⟩) 4 4) (w.alloc (.cells #[.int .u8 0, .int .u8 0, .int .u8 0, .int .u8 0] 5)) := fun _ => by kernel_rfl
  have hn : decide (n < 0) = false := by simp; omega
  have HD : Hid ((u8s (digs 4 n)).toArray = #[.int .u8 (n / 256 / 256 / 256 % 256), .int .u8 (n / 256 / 256 % 256), .int .u8 (n / 256 % 256), .int .u8 (n % 256)]) := by simp [Hid, u8s, digs]; omega
  have HK : Hid (okB 4 n = (n / 256 / 256 / 256 / 256 == 0)) := by
    rw [Hid, Bool.eq_iff_iff]; simp [okB, top]; omega
  go_enter Tryd.func29, Tryd.ntmps29
  go_wp2
  refine wp_loop_rounds 5 ?_
  repeat (rw [rounds_succ]; go_wp2)
  go_ret2
  exact ⟨by rw [HK.out]; rfl, by rw [HD.out]⟩

theorem digits4_neg (n : Int) (w : World) (h0 : n < 0) :
    Calls Tryd.prog 29 #[.int .i64 4, .int .i64 n] w fun e w' => e = .returned (.tuple #[.slice none 0 0, .bool false]) ∧ Below w.heap.size w w' := by
  have hmk : ∀ w, (Instr.makeSlice 26 (.int .i64 4) (.int .i64 4)).run Tryd.prog w = .ok (.slice (some ⟨w.heap.size, 0, none⟩) 4 4) (w.alloc (.cells #[.int .u8 0, .int .u8 0, .int .u8 0, .int .u8 0] 5)) := fun _ => by kernel_rfl
  go_enter Tryd.func29, Tryd.ntmps29
  go_wp2
  go_ret2
  exact ⟨rfl, balloc (Below.refl _ _) _⟩

theorem okB_neg (size n : Int) (h : n < 0) : okB size n = false := by simp [okB]; omega

theorem wf_i64 {n : Int} (h : (Lit.int .i64 n).wf = true) : -9223372036854775808 ≤ n ∧ n ≤ 9223372036854775807 := by
  simp [Lit.wf, IntKind.min, IntKind.max, IntKind.bits, IntKind.signed] at h; omega

theorem digits_any (size n : Int) (w : World) (hz : sizeB size = true) (hw : (Lit.int .i64 n).wf = true) :
    Calls Tryd.prog 29 #[.int .i64 size, .int .i64 n] w fun e w' => ∃ a k c, e = .returned (.tuple #[.slice a k c, .bool (okB size n)]) ∧ Below w.heap.size w w' ∧ (okB size n = true → k = (digs size n).length ∧ Lies .u8 w' a k c (digs size n)) := by
  have h63 := (wf_i64 hw).2
  by_cases h0 : 0 ≤ n
  · have key : ∀ k : Nat, k = (digs size n).length → k ≤ 100 → Lies .u8 (w.alloc (.cells (u8s (digs size n)).toArray 5)) (some ⟨w.heap.size, 0, none⟩) k k (digs size n) := by
      intro k hk h100
      subst hk
      exact lies_new .u8 w _ 5 (digs size n) (by simp [u8s]) h100
    have hb : Below w.heap.size w (w.alloc (.cells (u8s (digs size n)).toArray 5)) := balloc (Below.refl _ _) _
    rcases sizeB_cases hz with rfl | rfl | rfl
    · refine (digits1 n w h0 h63).mono ?_
      rintro e w' ⟨rfl, rfl⟩
      exact ⟨_, _, _, rfl, hb, fun _ => ⟨rfl, key 1 rfl (by omega)⟩⟩
    · refine (digits2 n w h0 h63).mono ?_
      rintro e w' ⟨rfl, rfl⟩
      exact ⟨_, _, _, rfl, hb, fun _ => ⟨rfl, key 2 rfl (by omega)⟩⟩
    · refine (digits4 n w h0 h63).mono ?_
      rintro e w' ⟨rfl, rfl⟩
      exact ⟨_, _, _, rfl, hb, fun _ => ⟨rfl, key 4 rfl (by omega)⟩⟩
  · have hk := okB_neg size n (by omega)
    rw [hk]
    rcases sizeB_cases hz with rfl | rfl | rfl
    · refine (digits1_neg n w (by omega)).mono ?_
      rintro e w' ⟨rfl, hb⟩
      exact ⟨_, _, _, rfl, hb, fun h => by cases h⟩
    · refine (digits2_neg n w (by omega)).mono ?_
      rintro e w' ⟨rfl, hb⟩
      exact ⟨_, _, _, rfl, hb, fun h => by cases h⟩
    · refine (digits4_neg n w (by omega)).mono ?_
      rintro e w' ⟨rfl, hb⟩
      exact ⟨_, _, _, rfl, hb, fun h => by cases h⟩

end Go.Proofs.YtbgogeojdibmkaaDoor

namespace Go.Proofs.YtbgogeojdibmkaaDoor
open Go.ChangeShapes Go.WideShapes Go.ChangeAt Go.RowKit
set_option linter.unusedVariables false
set_option linter.unusedSimpArgs false

/-- The document's cursor in memory: the bytes that are left, how many were read, what was wrong. -/
structure RefAt (w : World) (d : Nat) (a : Option Addr) (len cap : Nat) (l : List Int) (at_ : Nat) (er : Int) : Prop where
  block : w.heap[d]? = some (.cells #[.slice a len cap, .int .i64 at_, .int .i64 er] 101 (0, 0))
  lies : Lies .u8 w a len cap l
  oct : Oct l
  small : len ≤ 100000
  at_small : at_ + len ≤ 100000

section
variable {w : World} {d : Nat} {a : Option Addr} {len cap : Nat} {l : List Int} {at_ : Nat} {er : Int}
theorem RefAt.cell0 (h : RefAt w d a len cap l at_ er) : w.cell? ⟨d, 0, none⟩ = some (.slice a len cap) := by rw [cell_of_row w d 0 _ _ _ h.block]; rfl
theorem RefAt.cell1 (h : RefAt w d a len cap l at_ er) : w.cell? ⟨d, 1, none⟩ = some (.int .i64 at_) := by rw [cell_of_row w d 1 _ _ _ h.block]; rfl
theorem RefAt.cell2 (h : RefAt w d a len cap l at_ er) : w.cell? ⟨d, 2, none⟩ = some (.int .i64 er) := by rw [cell_of_row w d 2 _ _ _ h.block]; rfl
theorem RefAt.soft (h : RefAt w d a len cap l at_ er) : ∀ j, w.frozen? ⟨d, j, none⟩ = false := by intro j; simp [World.frozen?, h.block]
theorem RefAt.noU8 (h : RefAt w d a len cap l at_ er) : NoU8 w d := noU8_of h.block
theorem RefAt.lt (h : RefAt w d a len cap l at_ er) : d < w.heap.size := (Array.getElem?_eq_some_iff.1 h.block).1
theorem RefAt.drewN (h : RefAt w d a len cap l at_ er) (q : Nat) : RefAt (w.drewN q) d a len cap l at_ er := ⟨h.block, h.lies, h.oct, h.small, h.at_small⟩
theorem RefAt.below {w' : World} (h : RefAt w d a len cap l at_ er) (hb : Below w.heap.size w w') : RefAt w' d a len cap l at_ er :=
  ⟨(hb.block d h.lt).trans h.block, h.lies.below hb, h.oct, h.small, h.at_small⟩
theorem RefAt.grown {w' : World} {c : Nat} (h : RefAt w d a len cap l at_ er) (hn : NoU8 w c) (hcd : d ≠ c) (hg : w.grownBy w' (some c)) : RefAt w' d a len cap l at_ er :=
  ⟨(hg.block d h.lt (fun e => hcd (Option.some.inj e))).trans h.block, h.lies.grown hn hg, h.oct, h.small, h.at_small⟩
theorem RefAt.setEr (h : RefAt w d a len cap l at_ er) (n : Int) : RefAt (w.setCell ⟨d, 2, none⟩ (.int .i64 n)) d a len cap l at_ n :=
  ⟨by rw [heap_setCell_same w d 2 _ _ _ h.block]; rfl, h.lies.grown h.noU8 (grownBy_setCell ..), h.oct, h.small, h.at_small⟩
theorem RefAt.pass (h : RefAt w d a len cap l at_ er) (m cap2 : Nat) (a2 : Option Addr) (hm : m ≤ len) (hl : Lies .u8 w a2 (len - m) cap2 (l.drop m)) :
    RefAt ((w.setCell ⟨d, 0, none⟩ (.slice a2 (len - m) cap2)).setCell ⟨d, 1, none⟩ (.int .i64 (at_ + m : Nat))) d a2 (len - m) cap2 (l.drop m) (at_ + m) er := by
  have h1 := heap_setCell_same w d 0 _ _ (.slice a2 (len - m) cap2) h.block
  have h2 := heap_setCell_same (w.setCell ⟨d, 0, none⟩ (.slice a2 (len - m) cap2)) d 1 _ _ (.int .i64 (at_ + m : Nat)) h1
  have hn1 : NoU8 (w.setCell ⟨d, 0, none⟩ (.slice a2 (len - m) cap2)) d := noU8_of (x := at_) (y := er) (by rw [h1]; rfl)
  refine ⟨by rw [h2]; rfl, ?_, fun x hx => h.oct x (List.mem_of_mem_drop hx), by have := h.small; omega, by have := h.at_small; omega⟩
  exact (hl.grown h.noU8 (grownBy_setCell ..)).grown hn1 (grownBy_setCell ..)
end

/-- What the document's reading leaves. -/
def RefOk (w : World) (d : Nat) (a : Option Addr) (len at_ : Nat) (l : List Int) (m : Nat) (er' : Int) (w' : World) : Prop :=
  ∃ a2 cap2, RefAt w' d a2 (len - m) cap2 (l.drop m) (at_ + m) er' ∧ w.grownBy w' (some d) ∧ w'.heap.size = w.heap.size ∧ ∀ x, a2 = some x → ∃ y, a = some y ∧ x.block = y.block

theorem add_block (x : Addr) (n : Nat) : (x.add n).block = x.block := by unfold Addr.add; split <;> rfl

theorem refOk_no {w w' : World} {d : Nat} {a : Option Addr} {len cap : Nat} {l : List Int} {at_ : Nat} {er : Int} (h : RefAt w' d a len cap l at_ er) (hg : w.grownBy w' (some d)) (hs : w'.heap.size = w.heap.size) : RefOk w d a len at_ l 0 er w' := ⟨a, cap, by simpa using h, hg, hs, fun x hx => ⟨x, hx, rfl⟩⟩

theorem rdE_bytes (n : Int) (len : Nat) : rdE 1 n len 0 = if n < 0 then 1 else if (len : Int) < n then 4 else 0 := by
  have : sizeB 1 = true := rfl
  simp [rdE, this]

theorem refBytes_was (w : World) (d : Nat) (a : Option Addr) (len cap : Nat) (l : List Int) (at_ : Nat) (er n : Int) (h : RefAt w d a len cap l at_ er) (her : er ≠ 0) :
    Calls Tryd.prog 55 #[.pointer (some ⟨d, 0, none⟩), .int .i64 n] w fun e w' => e = .returned (.slice none 0 0) ∧ w' = w := by
  have h2 := h.cell2
  have h' : (er == 0) = false := by simp [her]
  have h'' : (er != 0) = true := by rw [bne_iff_ne]; exact her
  clear h
  go_enter Tryd.func55, Tryd.ntmps55
  go_wp2
  go_ret
  exact ⟨rfl, rfl⟩

theorem refBytes_neg (w : World) (d : Nat) (a : Option Addr) (len cap : Nat) (l : List Int) (at_ : Nat) (n : Int) (h : RefAt w d a len cap l at_ 0) (hn : n < 0) :
    Calls Tryd.prog 55 #[.pointer (some ⟨d, 0, none⟩), .int .i64 n] w fun e w' => e = .returned (.slice none 0 0) ∧ w' = w.setCell ⟨d, 2, none⟩ (.int .i64 1) := by
  have h2 := h.cell2
  have hsf := h.soft 2
  clear h
  go_enter Tryd.func55, Tryd.ntmps55
  go_wp2
  go_ret
  exact ⟨rfl, rfl⟩

theorem refBytes_end (w : World) (d : Nat) (a : Option Addr) (len cap : Nat) (l : List Int) (at_ : Nat) (n : Int) (h : RefAt w d a len cap l at_ 0) (hn : 0 ≤ n) (hlt : (len : Int) < n) :
    Calls Tryd.prog 55 #[.pointer (some ⟨d, 0, none⟩), .int .i64 n] w fun e w' => e = .returned (.slice none 0 0) ∧ w' = w.setCell ⟨d, 2, none⟩ (.int .i64 4) := by
  have h2 := h.cell2
  have h0 := h.cell0
  have hsf := h.soft 2
  have hn' : decide (n < 0) = false := by simp; omega
  clear h
  go_enter Tryd.func55, Tryd.ntmps55
  go_wp2
  go_ret
  exact ⟨rfl, rfl⟩

theorem refBytes_ok (w : World) (d : Nat) (a : Option Addr) (len cap : Nat) (l : List Int) (at_ n : Nat) (h : RefAt w d a len cap l at_ 0) (hn : n ≤ len) :
    Calls Tryd.prog 55 #[.pointer (some ⟨d, 0, none⟩), .int .i64 n] w fun e w' => e = .returned (.slice a n cap) ∧ RefOk w d a len at_ l n 0 w' := by
  have h2 := h.cell2
  have h1 := h.cell1
  have h0 := h.cell0
  have hs0 := h.soft 0
  have hs1 := h.soft 1
  have hlc := h.lies.2.1
  have hsm := h.at_small
  have hcm := h.lies.2.2.1
  unfold maxLen at hcm
  have hn' : decide ((n : Int) < 0) = false := by simp
  have hn2 : decide ((len : Int) < (n : Int)) = false := by simp; omega
  have H := hid h
  clear h
  have HR : ∀ a', (¬ cap = n → a' = a.map (·.add n)) → (cap = n → a' = a) → Hid (RefOk w d a len at_ l n 0 ((w.setCell ⟨d, 0, none⟩ (.slice a' (len - n) (cap - n))).setCell ⟨d, 1, none⟩ (.int .i64 ((at_ : Int) + n)))) := by
    intro a' h1 h2
    have hl := H.out.lies.cut n (len - n) cap (by omega) (by omega) (Nat.le_refl _) (a' := a') h1 h2
    rw [List.take_of_length_le (by rw [List.length_drop, H.out.lies.1]; omega)] at hl
    have hp := H.out.pass n (cap - n) a' hn hl
    rw [Int.natCast_add] at hp
    refine ⟨a', cap - n, hp, (grownBy_setCell ..).trans (grownBy_setCell ..), by simp, fun x hx => ?_⟩
    by_cases hcn : cap = n
    · exact ⟨x, (h2 hcn).symm.trans hx, rfl⟩
    · rw [h1 hcn] at hx
      cases a with
      | none => simp at hx
      | some y => exact ⟨y, rfl, by simp at hx; rw [← hx, add_block]⟩
  by_cases hcn : cap = n
  · have HR1 := HR a (fun h => absurd hcn h) (fun _ => rfl)
    subst hcn
    clear HR
    rw [Nat.sub_self, show len - cap = 0 by omega] at HR1
    go_enter Tryd.func55, Tryd.ntmps55
    go_wp2
    go_ret
    exact ⟨rfl, HR1.out⟩
  · have HR1 := HR (a.map (·.add n)) (fun _ => rfl) (fun h => absurd h hcn)
    clear HR
    go_enter Tryd.func55, Tryd.ntmps55
    go_wp2
    go_ret
    exact ⟨rfl, HR1.out⟩

theorem refBytes_any (w : World) (d : Nat) (a : Option Addr) (len cap : Nat) (l : List Int) (at_ : Nat) (er n : Int) (h : RefAt w d a len cap l at_ er) :
    Calls Tryd.prog 55 #[.pointer (some ⟨d, 0, none⟩), .int .i64 n] w fun e w' => ∃ a1 c1, e = .returned (.slice a1 (rdN 1 n len er) c1) ∧ Lies .u8 w' a1 (rdN 1 n len er) c1 (l.take (rdN 1 n len er)) ∧ RefOk w d a len at_ l (rdN 1 n len er) (rdE 1 n len er) w' := by
  by_cases her : er = 0
  · subst her
    by_cases hn : n < 0
    · have hE : rdE 1 n len 0 = 1 := by rw [rdE_bytes, if_pos hn]
      have hN : rdN 1 n len 0 = 0 := by rw [rdN, hE]; rfl
      rw [hE, hN]
      refine (refBytes_neg w d a len cap l at_ n h hn).mono ?_
      rintro e w' ⟨rfl, rfl⟩
      exact ⟨none, 0, rfl, Lies.nil _ _, refOk_no (h.setEr 1) (grownBy_setCell ..) (by simp)⟩
    · by_cases hlt : (len : Int) < n
      · have hE : rdE 1 n len 0 = 4 := by rw [rdE_bytes, if_neg hn, if_pos hlt]
        have hN : rdN 1 n len 0 = 0 := by rw [rdN, hE]; rfl
        rw [hE, hN]
        refine (refBytes_end w d a len cap l at_ n h (by omega) hlt).mono ?_
        rintro e w' ⟨rfl, rfl⟩
        exact ⟨none, 0, rfl, Lies.nil _ _, refOk_no (h.setEr 4) (grownBy_setCell ..) (by simp)⟩
      · have hE : rdE 1 n len 0 = 0 := by rw [rdE_bytes, if_neg hn, if_neg hlt]
        obtain ⟨m, rfl⟩ := Int.eq_ofNat_of_zero_le (show 0 ≤ n by omega)
        have hN : rdN 1 m len 0 = m := by rw [rdN, if_pos hE]; omega
        rw [hE, hN]
        refine (refBytes_ok w d a len cap l at_ m h (by omega)).mono ?_
        rintro e w' ⟨rfl, a2, cap2, hr, hg, hs, hk⟩
        exact ⟨a, cap, rfl, (h.lies.pre m (by omega)).grown h.noU8 hg, a2, cap2, hr, hg, hs, hk⟩
  · have hE : rdE 1 n len er = er := by simp [rdE, her]
    have hN : rdN 1 n len er = 0 := by rw [rdN, hE, if_neg her]
    rw [hE, hN]
    refine (refBytes_was w d a len cap l at_ er n h her).mono ?_
    rintro e w' ⟨rfl, rfl⟩
    exact ⟨none, 0, rfl, Lies.nil _ _, refOk_no h (World.grownBy.refl _ _) rfl⟩

theorem refClose_any (w : World) (d : Nat) (a : Option Addr) (len cap : Nat) (l : List Int) (at_ : Nat) (er : Int) (h : RefAt w d a len cap l at_ er) :
    Calls Tryd.prog 57 #[.pointer (some ⟨d, 0, none⟩)] w fun e w' => e = .returned (.int .i64 (closeV len er)) ∧ w' = w := by
  have h0 := h.cell0
  have h2 := h.cell2
  clear h
  by_cases her : er = 0
  · subst her
    by_cases hl : 0 < len
    · have HV : Hid (closeV len 0 = 3) := by simp [Hid, closeV, hl]
      go_enter Tryd.func57, Tryd.ntmps57
      go_wp2
      go_ret
      exact ⟨ret_int HV.out.symm, rfl⟩
    · have HV : Hid (closeV len 0 = 0) := by simp [Hid, closeV, hl]
      obtain rfl : len = 0 := by omega
      go_enter Tryd.func57, Tryd.ntmps57
      go_wp2
      go_ret
      exact ⟨ret_int HV.out.symm, rfl⟩
  · have HV : Hid (closeV len er = er) := by simp [Hid, closeV, her]
    have h' : (er == 0) = false := by simp [her]
    go_enter Tryd.func57, Tryd.ntmps57
    go_wp2
    go_ret
    exact ⟨ret_int HV.out.symm, rfl⟩

theorem rd_take (size : Int) (len : Nat) (hz : sizeB size = true) (er : Int) : rdE 1 size len er = rdE size 1 len er ∧ rdN 1 size len er = rdN size 1 len er := by
  have h1 : sizeB 1 = true := rfl
  have hE : rdE 1 size len er = rdE size 1 len er := by
    unfold rdE
    rw [h1, hz]
    rcases sizeB_cases hz with rfl | rfl | rfl <;> simp
  exact ⟨hE, by unfold rdN; rw [hE, Int.one_mul, Int.mul_one]⟩

set_option maxHeartbeats 800000 in
theorem refTake_size (w : World) (d : Nat) (a : Option Addr) (len cap : Nat) (l : List Int) (at_ : Nat) (er size : Int) (h : RefAt w d a len cap l at_ er) (hz : sizeB size = true) :
    Calls Tryd.prog 56 #[.pointer (some ⟨d, 0, none⟩), .int .i64 size] w fun e w' => e = .returned (.int .i64 (numOf (l.take (rdN size 1 len er)))) ∧ RefOk w d a len at_ l (rdN size 1 len er) (rdE size 1 len er) w' := by
  have h2 := h.cell2
  have H := hid h
  have HZ := hid hz
  have hm4 := rdN_one size len er
  have HO : Hid (Oct (l.take (rdN size 1 len er))) := fun x hx => h.oct x (List.mem_of_mem_take hx)
  obtain ⟨r1, r2⟩ := rd_take size len hz er
  have R1 := hid r1
  have R2 := hid r2
  clear h hz r1 r2
  cases her' : (er == 0)
  all_goals
    go_enter Tryd.func56, Tryd.ntmps56
    go_wp2_with (go_at_call 70; refine (refSize_any _ _).mono ?_; rintro e w ⟨rfl, rfl⟩; rw [HZ.out])
    refine (refBytes_any _ d a len cap l at_ er size H.out).mono ?_
    rintro e w1 ⟨a1, c1, rfl, hl1, hr1⟩
    rw [R2.out] at hl1 hr1 ⊢
    rw [R1.out] at hr1
    have L1 := hid hl1
    have RF := hid hr1
    have hlc := hl1.2.1
    have hcm := hl1.2.2.1
    have hln := hid hl1.1
    unfold maxLen at hcm
    generalize hX : l.take (rdN size 1 len er) = X at *
    have HX := hid hX
    generalize hM : rdN size 1 len er = m at *
    have HM := hid hM
    clear hl1 hr1 hX hM
    go_wp2
    go_loop [6, 7] (fun v i => ∃ k : Nat, k ≤ m ∧ i = .int .i64 k ∧ v = .int .i64 (numOf (X.take k))) (fun _ i => m - (intOf i).toNat)
    case atStart => exact ⟨0, Nat.zero_le _, rfl, rfl⟩
    case round =>
      obtain ⟨k, hk, rfl, rfl⟩ := hrel
      by_cases hlt : k < m
      · obtain ⟨b, off, rfl, hcell⟩ := L1.out.2.2.2.2 k hlt
        have hx := HO.out.at k (by rw [hln.out]; exact hlt)
        have hn := numOf_bd X HO.out k (by rw [hln.out]; omega)
        have hp := pow_le3 k (by omega)
        have HS := hid (numOf_snoc X k (by rw [hln.out]; exact hlt))
        generalize (256 : Int) ^ k = P at *
        generalize numOf (X.take k) = n at *
        generalize X.getD k 0 = x at *
        have hn' : n < 16777216 := by omega
        clear hp
        go_wp2
        go_round
        case rel => exact ⟨k + 1, by omega, by go_num, by rw [HS.out]⟩
        case measure => simp [intOf]; omega
      · obtain rfl : k = m := by omega
        go_wp2
        go_ret
        rw [HM.out, HX.out]
        exact ⟨ret_int (by rw [List.take_of_length_le (by rw [hln.out]; omega)]), RF.out⟩

end Go.Proofs.YtbgogeojdibmkaaDoor
