/- Texts in memory: a slice of slices of bytes. -/
import Derived.Test.YtmpkemlnpmephaaEnc
namespace Go.Proofs.Ytmpkemlnpmephaa
open Go.ChangeShapes Go.WideShapes Go.ChangeAt Go.RowKit
set_option linter.unusedVariables false
set_option linter.unusedSimpArgs false

/-- A text in memory: a slice, and its bytes. -/
structure Txt where
  a : Option Addr
  n : Nat
  cap : Nat
  l : List Int
def Txt.v (t : Txt) : Value := .slice t.a t.n t.cap
def Txt.none : Txt := ⟨.none, 0, 0, []⟩
def Txt.ok (w : World) (t : Txt) : Prop := Lies .u8 w t.a t.n t.cap t.l ∧ Oct t.l
def bytes (L : List Txt) : List Int := L.flatMap (·.l)
/-- A slice of texts. -/
def Texts (w : World) (a : Option Addr) (n cap : Nat) (L : List Txt) : Prop :=
  L.length = n ∧ n ≤ cap ∧ cap ≤ maxLen ∧ (∀ k, k < n → ∃ b off, a = some ⟨b, off, .none⟩ ∧ w.cell? ⟨b, off + k, .none⟩ = some (L.getD k Txt.none).v) ∧ ∀ t ∈ L, t.ok w

theorem Txt.ok.below {w w' : World} {t : Txt} (h : t.ok w) (hb : Below w.heap.size w w') : t.ok w' := ⟨h.1.below hb, h.2⟩
theorem Texts.below {w w' : World} {a : Option Addr} {n cap : Nat} {L : List Txt} (h : Texts w a n cap L) (hb : Below w.heap.size w w') : Texts w' a n cap L := by
  refine ⟨h.1, h.2.1, h.2.2.1, fun k hk => ?_, fun t ht => (h.2.2.2.2 t ht).below hb⟩
  obtain ⟨b, off, he, hc⟩ := h.2.2.2.1 k hk
  exact ⟨b, off, he, (hb.cell (p := ⟨b, off + k, none⟩) (World.block_lt_of_cell? w _ hc)).trans hc⟩
theorem bytes_snoc (L : List Txt) (k : Nat) (h : k < L.length) : bytes (L.take (k + 1)) = bytes (L.take k) ++ (L.getD k Txt.none).l := by
  rw [bytes, bytes, List.take_succ_eq_append_getElem h, List.flatMap_append]; congr 1; simp [h]
theorem bytes_take_le (L : List Txt) (k : Nat) : (bytes (L.take k)).length ≤ (bytes L).length := by
  have : bytes L = bytes (L.take k) ++ bytes (L.drop k) := by rw [bytes, bytes, bytes, ← List.flatMap_append, List.take_append_drop]
  rw [this, List.length_append]; omega
theorem bytes_app (S T : List Txt) : bytes (S ++ T) = bytes S ++ bytes T := List.flatMap_append
theorem oct_take {l : List Int} (h : Oct l) (n : Nat) : Oct (l.take n) := fun x hx => h x (List.mem_of_mem_take hx)
theorem bytes_oct {w : World} {L : List Txt} (h : ∀ t ∈ L, t.ok w) : Oct (bytes L) := by
  intro x hx
  simp [bytes, List.mem_flatMap] at hx
  obtain ⟨t, ht, hx⟩ := hx
  exact (h t ht).2 x hx
/-- One text in a slice of its own. -/
theorem texts_one (w : World) (t : Txt) (h : t.ok w) : Texts (w.alloc (.cells #[t.v] 30)) (some ⟨w.heap.size, 0, none⟩) 1 1 [t] := by
  refine ⟨rfl, Nat.le_refl _, by decide, fun k hk => ⟨w.heap.size, 0, rfl, ?_⟩, ?_⟩
  · obtain rfl : k = 0 := by omega
    have := World.news_of_block (heap_alloc_new w (.cells #[t.v] 30)) 0 t.v rfl
    rwa [Addr.add_lit] at this
  · intro t' ht
    simp at ht; subst ht
    exact h.below ((Below.refl _ _).alloc (Nat.le_refl _) _)
theorem texts_nil (w : World) : Texts w none 0 0 [] := ⟨rfl, Nat.le_refl _, by decide, fun k hk => by omega, fun t ht => by cases ht⟩
end Go.Proofs.Ytmpkemlnpmephaa
