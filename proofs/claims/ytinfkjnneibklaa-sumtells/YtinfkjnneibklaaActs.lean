/- A slice of texts, as it came in. -/
import Derived.Test.YtinfkjnneibklaaAddsWalk
import Derived.Deep.Strs
namespace Go.Proofs.Ytinfkjnneibklaa
open Go.ChangeShapes Go.WideShapes Go.ChangeAt Go.RowKit Go.Deep
set_option linter.unusedVariables false
set_option linter.unusedSimpArgs false

theorem cells27 : Try.prog.cellsOf 27 = 1 := by kernel_rfl
theorem cells5 : Try.prog.cellsOf 5 = 1 := by kernel_rfl

theorem wf_u8 {n : Int} (h : (Lit.int .u8 n).wf = true) : 0 ≤ n ∧ n < 256 := by
  simp [Lit.wf, IntKind.min, IntKind.max, IntKind.bits, IntKind.signed] at h; omega
theorem oct_of_wf {l : List Int} (h : ∀ n ∈ l, (Lit.int .u8 n).wf = true) : Oct l := fun x hx => wf_u8 (h x hx)
theorem IsRow.oct {w : World} {a : Option Addr} {len cap : Nat} {zs : List Int} (h : IsRow .u8 w a len cap zs) : Oct zs := oct_of_wf h.wf

def TextsIn (w : World) (a : Option Addr) (len cap : Nat) : Prop := ∃ L, Texts w a len cap L

theorem open_texts {H : Type} {enc : TypeId × Value → H} {w : World} {held : Bool} {fuel : Nat} {a : Option Addr} {len cap : Nat} {x : DataW H × List MemPlace}
    (h : DataW.trod enc Try.prog w 0 (fun _ => true) held fuel 22 [.slice a len cap] = some x) : TextsIn w a len cap := by
  rcases open_slice Try.underlying22 h with ⟨hcs, _⟩ | ⟨ad, l, c, m, n, D, Pl, hcs, _, hl, hm, hmm, _, hx⟩
  · simp at hcs
    obtain ⟨rfl, rfl, rfl⟩ := hcs
    exact ⟨[], texts_nil w⟩
  · simp at hcs
    obtain ⟨rfl, rfl, rfl⟩ := hcs
    have hm' : m = cap := by simpa using hmm
    subst hm'
    have key : ∀ i, ∃ t : Txt, i < len → w.cell? (ad.add i) = some t.v ∧ t.ok w := by
      intro i
      by_cases hi : i < len
      · obtain ⟨cs', h1, h2⟩ := hx i (by omega)
        rw [cells27] at h1
        obtain ⟨_, hlen, hcell⟩ := World.cells?_some h1
        match cs', hlen with
        | [v0], _ =>
          have e0 := hcell 0 (by omega)
          rw [add_add] at e0
          simp at e0
          rcases open_ints Try.underlying27 Try.underlying5 cells5 h2 with ⟨hcs, _⟩ | ⟨y, l', c', zs, hcs, _, hl', hm', hz', _, hc', hwz⟩
          · simp at hcs
            subst hcs
            exact ⟨Txt.none, fun _ => ⟨e0, Lies.nil _ _, fun x hx => by cases hx⟩⟩
          · simp at hcs
            subst hcs
            have hr : IsRow .u8 w (some y) l' c' zs := .inr ⟨y, rfl, hl', hm', by simpa using hz', hc', hwz⟩
            exact ⟨⟨some y, l', c', zs.take l'⟩, fun _ => ⟨e0, hr.lies, oct_take hr.oct _⟩⟩
      · exact ⟨Txt.none, fun h => absurd h hi⟩
    obtain ⟨f, hf⟩ := Classical.axiomOfChoice key
    refine ⟨(List.range len).map f, by simp, hl, hm, ?_, ?_⟩
    · intro k hk
      have hspot : ad.spot = none := by
        have := (hf 0 (by omega)).1
        exact World.cell?_spot (by simpa [Addr.add] using this)
      obtain ⟨b, off, spot⟩ := ad
      simp at hspot
      subst hspot
      refine ⟨b, off, rfl, ?_⟩
      have := (hf k hk).1
      rw [Addr.add_lit] at this
      rw [this]
      simp [hk]
    · intro t ht
      simp at ht
      obtain ⟨i, hi, rfl⟩ := ht
      exact (hf i hi).2

theorem adds_walk (a : Option Addr) (n cap : Nat) (w : World) (h : TextsIn w a n cap) :
    Calls Try.prog 3 #[.slice a n cap] w fun e w' => e = .returned (.bool true) ∧ Below w.heap.size w w' := by
  obtain ⟨L, hL⟩ := h
  exact adds_walk0 a n cap L w hL
end Go.Proofs.Ytinfkjnneibklaa
