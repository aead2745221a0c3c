/- Bytes of the call's own, from a place on; and pairs of bytes that are exchanged. -/
import Derived.Test.YtinfkjnneibklaaPst
namespace Go.Proofs.Ytinfkjnneibklaa
open Go.ChangeShapes Go.WideShapes Go.ChangeAt Go.RowKit
set_option linter.unusedVariables false
set_option linter.unusedSimpArgs false

structure OwnAt (w : World) (g off N : Nat) (l : List Int) : Prop where
  len : l.length = N
  blk : ∃ cur, w.heap[g]? = some (.cells cur 5 (0, 0)) ∧ ∀ i, i < N → cur[off + i]? = some (.int .u8 (l.getD i 0))
section
variable {w w' : World} {g off N : Nat} {l : List Int}
theorem OwnAt.cell (h : OwnAt w g off N l) (i : Nat) (hi : i < N) : w.cell? ⟨g, off + i, none⟩ = some (.int .u8 (l.getD i 0)) := by
  obtain ⟨cur, hg, hc⟩ := h.blk
  rw [cell_of_row w g (off + i) cur 5 (0, 0) hg]; exact hc i hi
theorem OwnAt.soft (h : OwnAt w g off N l) (j : Nat) : w.frozen? ⟨g, j, none⟩ = false := by
  obtain ⟨cur, hg, _⟩ := h.blk
  exact frozen_of_row w g j cur 5 hg
theorem OwnAt.lt (h : OwnAt w g off N l) : g < w.heap.size := by
  obtain ⟨cur, hg, _⟩ := h.blk
  exact (Array.getElem?_eq_some_iff.1 hg).1
theorem OwnAt.lies (h : OwnAt w g off N l) (cap : Nat) (h1 : N ≤ cap) (h2 : cap ≤ maxLen) : Lies .u8 w (some ⟨g, off, none⟩) N cap l :=
  ⟨h.len, h1, h2, (fun h => by cases h), fun k hk => ⟨g, off, rfl, h.cell k hk⟩⟩
theorem OwnAt.set (h : OwnAt w g off N l) (i : Nat) (x : Int) (hi : i < N) : OwnAt (w.setCell ⟨g, off + i, none⟩ (.int .u8 x)) g off N (l.set i x) := by
  obtain ⟨cur, hg, hc⟩ := h.blk
  refine ⟨by simpa using h.len, cur.setIfInBounds (off + i) (.int .u8 x), heap_setCell_same w g (off + i) cur 5 _ hg, fun j hj => ?_⟩
  have hsz : off + i < cur.size := by
    have := hc i hi
    exact (Array.getElem?_eq_some_iff.1 this).1
  by_cases hij : i = j
  · subst hij
    have : i < l.length := by rw [h.len]; exact hi
    simp [hsz, this]
  · have h1 := hc j hj
    rw [Array.getElem?_setIfInBounds_ne (by omega), h1]
    have hjl : j < l.length := by rw [h.len]; exact hj
    simp [List.getD, List.getElem?_set, hij]
theorem OwnAt.below (h : OwnAt w g off N l) (hb : Below w.heap.size w w') : OwnAt w' g off N l := by
  obtain ⟨cur, hg, hc⟩ := h.blk
  exact ⟨h.len, cur, (hb.block g h.lt).trans hg, hc⟩
theorem OwnAt.kept (h : OwnAt w g off N l) {row : Option Nat} (hg : w.grownBy w' row) (hne : row ≠ some g) : OwnAt w' g off N l := by
  obtain ⟨cur, hgg, hc⟩ := h.blk
  exact ⟨h.len, cur, (hg.block g h.lt (fun e => hne e.symm)).trans hgg, hc⟩
theorem OwnAt.other (h : OwnAt w g off N l) (b j : Nat) (v : Value) (hne : g ≠ b) : OwnAt (w.setCell ⟨b, j, none⟩ v) g off N l := by
  obtain ⟨cur, hgg, hc⟩ := h.blk
  exact ⟨h.len, cur, (heap_setCell_other w ⟨b, j, none⟩ g v hne).trans hgg, hc⟩
theorem OwnAt.drewN (h : OwnAt w g off N l) (q : Nat) : OwnAt (w.drewN q) g off N l := ⟨h.len, h.blk⟩
end
theorem ownAt_of {w : World} {base g n cap : Nat} {l : List Int} (h : w.ownsRow base 5 1 (.slice (some ⟨g, 0, none⟩) n cap) n (u8s l)) : OwnAt w g 0 n l := by
  have hl : l.length = n := by have := h.1; simpa [u8s] using this
  rcases h.2 with ⟨h', _⟩ | ⟨g', cap', cur, h', _, hg, _, _, hcs, htake⟩
  · simp at h'
  · simp only [Value.slice.injEq, Option.some.injEq, Addr.mk.injEq, and_true, true_and] at h'
    obtain ⟨rfl, rfl⟩ := h'
    refine ⟨hl, cur, hg, fun i hi => ?_⟩
    have h1 : (cur.toList.take (n * 1))[i]? = (u8s l)[i]? := by rw [htake]
    rw [List.getElem?_take, if_pos (by omega)] at h1
    simp [u8s, hl, hi] at h1
    simp [h1, hl, hi]
theorem OwnAt.tail {w : World} {g N : Nat} {l : List Int} (h : OwnAt w g 0 (N + 1) l) : OwnAt w g 1 N (l.drop 1) := by
  obtain ⟨cur, hgg, hc⟩ := h.blk
  refine ⟨by rw [List.length_drop, h.len]; rfl, cur, hgg, fun i hi => ?_⟩
  have := hc (i + 1) (by omega)
  rw [show 1 + i = 0 + (i + 1) by omega, this]
  simp [List.getD, List.getElem?_drop, Nat.add_comm]

/-- An append onto an empty slice that was just made: it is never nil. -/
theorem wpList_append_fresh {P : Program} (w : World) {ops : Array Oper} {rest : List Oper} {o : Oper} {a : Act} {Q : Exit → Act → World → Prop} (hgd : o.guard = none) (s x : Operand) (t : TypeId)
    (ho : o.op = .call { callee := .builtin .append, args := #[s, x], argTypes := #[t, t] })
    (base : Nat) (e : TypeId) (i : TypeInfo) (z : Value) (size bytes : Nat) (ht : P.underlying t = some (.slice e)) (hi : P.info? e = some i) (hz : i.zero = some z)
    (hsize : i.size = size) (hby : i.bytes = bytes) (hzs : z.cells.size = size) (hsz : 0 < size)
    (g : Nat) (hs : a.eval s = .slice (some ⟨g, 0, none⟩) 0 0) (hown : w.ownsRow base e size (.slice (some ⟨g, 0, none⟩) 0 0) 0 [])
    (ao : Option Addr) (m c : Nat) (news : List Value) (hx : a.eval x = .slice ao m c) (hl : news.length = m * size) (hnone : ao = none → m = 0 ∧ c = 0) (hnews : ∀ ad, ao = some ad → ∀ j u, news[j]? = some u → w.cell? (ad.add j) = some u) (h1 : ∀ u ∈ news, u.oneCell' = true)
    (h63 : m ≤ maxLen) (hbytes : m * bytes ≤ 140737488355328) (hbase : base ≤ w.heap.size) (hg : base ≤ g)
    (h : ∀ g' cap' w', w'.ownsRow base e size (.slice (some ⟨g', 0, none⟩) m cap') m news → base ≤ g' → m ≤ cap' → cap' ≤ maxLen → Below base w w' → wpList P ops Q rest (a.put o.dst (.slice (some ⟨g', 0, none⟩) m cap')) w') : wpList P ops Q (o :: rest) a w := by
  cases ao with
  | some ad =>
    refine wpList_append_own w hgd s x t ho base e i z size bytes ht hi hz hsize hby hzs hsz _ 0 [] hs hown ad m c news hx hl (hnews ad rfl) h1 (by omega) (by rw [Nat.zero_add]; exact hbytes) hbase ?_
    intro v' w' h2 h3 h4
    rw [Nat.zero_add, List.nil_append] at h2
    rcases h2.2 with ⟨hv, _⟩ | ⟨g', cap', cur, rfl, hb', _, hnc, hcm, _⟩
    · exact absurd (h4.1 hv).1 (by simp)
    · exact h g' cap' w' h2 hb' hnc hcm (Below.grown (Below.refl _ _) h3 hbase (fun k hk => by cases hk; exact hg))
  | none =>
    obtain ⟨rfl, rfl⟩ := hnone rfl
    have hn : news = [] := List.eq_nil_of_length_eq_zero (by simpa using hl)
    subst hn
    refine wpList_append_own_none hgd s x t ho base e i size ht hi _ 0 [] hs hown hx ?_
    exact h g 0 w hown hg (Nat.le_refl _) (by decide) (Below.refl _ _)

/-! What becomes of the sum. -/
theorem wsum_get (l : List Int) (i : Nat) (x : Int) (h : i < l.length) : wsum 0 (l.set i x) = wsum 0 l - wt i (l.getD i 0) + wt i x := by
  have h1 : l.set i x = l.take i ++ ([x] ++ l.drop (i + 1)) := by rw [List.set_eq_take_append_cons_drop, if_pos h]; rfl
  have h2 : l = l.take i ++ ([l.getD i 0] ++ l.drop (i + 1)) := by
    have := List.set_eq_take_append_cons_drop (l := l) (i := i) (a := l.getD i 0)
    rw [if_pos h] at this
    have h3 : l.set i (l.getD i 0) = l := by simp [h]
    rw [h3] at this
    exact this
  have hl : (l.take i).length = i := by simp; omega
  have e1 : ∀ y, wsum 0 (l.take i ++ ([y] ++ l.drop (i + 1))) = wsum 0 (l.take i) + wt i y + wsum (i + 1) (l.drop (i + 1)) := by
    intro y
    rw [wsum_app, wsum_app, hl]
    simp [wsum]; omega
  have h4 : wsum 0 l = wsum 0 (l.take i) + wt i (l.getD i 0) + wsum (i + 1) (l.drop (i + 1)) := by rw [← e1, ← h2]
  rw [h1, e1, h4]; omega
theorem getD_set (l : List Int) (i j : Nat) (x : Int) (h : i < l.length) : (l.set i x).getD j 0 = if i = j then x else l.getD j 0 := by
  by_cases hij : i = j
  · subst hij; simp [h]
  · simp [List.getD, List.getElem?_set, hij]
/-- Two pairs exchanged. -/
def swap (l : List Int) (p q : Nat) : List Int := (((l.set (2 * p) (l.getD (2 * q) 0)).set (2 * q) (l.getD (2 * p) 0)).set (2 * p + 1) (l.getD (2 * q + 1) 0)).set (2 * q + 1) (l.getD (2 * p + 1) 0)
theorem swap_sum (l : List Int) (p q : Nat) (hp : 2 * p + 1 < l.length) (hq : 2 * q + 1 < l.length) : sumV (swap l p q) = sumV l := by
  have w0 : ∀ k x, wt (2 * k) x = x * 256 := fun k x => by simp [wt]
  have w1 : ∀ k x, wt (2 * k + 1) x = x := fun k x => by simp [wt]
  have : wsum 0 (swap l p q) = wsum 0 l := by
    unfold swap
    rw [wsum_get _ _ _ (by simp; omega), wsum_get _ _ _ (by simp; omega), wsum_get _ _ _ (by simp; omega), wsum_get _ _ _ (by omega)]
    rw [getD_set _ _ _ _ (by first | omega | (simp only [List.length_set]; omega)), getD_set _ _ _ _ (by first | omega | (simp only [List.length_set]; omega)), getD_set _ _ _ _ (by first | omega | (simp only [List.length_set]; omega)), getD_set _ _ _ _ (by first | omega | (simp only [List.length_set]; omega)), getD_set _ _ _ _ (by first | omega | (simp only [List.length_set]; omega)), getD_set _ _ _ _ (by first | omega | (simp only [List.length_set]; omega))]
    simp only [w0, w1]
    by_cases h : p = q
    · subst h; simp
    · rw [if_neg (by omega), if_neg (by omega), if_neg (by omega), if_neg (by omega), if_neg (by omega), if_neg (by omega)]; omega
  rw [sumV, sumV, this]
theorem swap_oct {l : List Int} (h : Oct l) (p q : Nat) (hp : 2 * p + 1 < l.length) (hq : 2 * q + 1 < l.length) : Oct (swap l p q) :=
  oct_set (oct_set (oct_set (oct_set h _ _ (h.at _ (by omega))) _ _ (h.at _ (by omega))) _ _ (h.at _ (by omega))) _ _ (h.at _ (by omega))
theorem swap_len (l : List Int) (p q : Nat) : (swap l p q).length = l.length := by simp [swap]

/-- A pair replaced: is the sum another one? -/
theorem tells (l : List Int) (p : Nat) (ho : Oct l) (hp : 2 * p + 1 < l.length) (by_ : Int) (hb : 0 ≤ by_ ∧ by_ < 65536) (old : Int) (hold : old = 256 * l.getD (2 * p) 0 + l.getD (2 * p + 1) 0) (hn : old ≠ by_ → ¬ ((old = 0 ∧ by_ = 65535) ∨ (old = 65535 ∧ by_ = 0))) :
    (65535 - sumV (set2 l (2 * p) (by_ / 256) (by_ % 256)) == 65535 - sumV l) = decide (old = by_) := by
  have h0 := ho.at (2 * p) (by omega)
  have h1 := ho.at (2 * p + 1) (by omega)
  have hl : l = set2 l (2 * p) (l.getD (2 * p) 0) (l.getD (2 * p + 1) 0) := by
    have a1 : l.set (2 * p) (l.getD (2 * p) 0) = l := by simp [show 2 * p < l.length by omega]
    have a2 : l.set (2 * p + 1) (l.getD (2 * p + 1) 0) = l := by simp [hp]
    unfold set2; rw [a1, a2]
  have e1 : wsum 0 (set2 l (2 * p) (by_ / 256) (by_ % 256)) = wsum 0 (set2 l (2 * p) 0 0) + by_ := by rw [wsum_set2 l (2 * p) _ _ (by omega) (by omega)]; omega
  have e2 : wsum 0 l = wsum 0 (set2 l (2 * p) 0 0) + old := by
    have := wsum_set2 l (2 * p) (l.getD (2 * p) 0) (l.getD (2 * p + 1) 0) (by omega) (by omega)
    rw [← hl] at this
    omega
  have hB := (wsum_bd 0 _ (set2_oct ho (2 * p) 0 0 (by omega) (by omega))).1
  rw [sumV, sumV, e1, e2]
  generalize wsum 0 (set2 l (2 * p) 0 0) = B at *
  clear e1 e2 hl
  rw [Bool.eq_iff_iff, beq_iff_eq, decide_eq_true_iff]
  constructor
  · intro h
    have h2 : norm (B + by_) = norm (B + old) := by omega
    by_cases h3 : old = by_
    · exact h3
    · have h4 := hn h3
      exfalso
      unfold norm at h2
      split at h2 <;> split at h2 <;> omega
  · intro h; rw [h]
end Go.Proofs.Ytinfkjnneibklaa
