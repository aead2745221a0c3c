/- A slice of things that are read, as it came in. -/
import Derived.Test.YtlfblldaiinghaaReads0
import Derived.Deep.Strs
namespace Go.Proofs.Ytlfblldaiinghaa
open Go.ChangeShapes Go.WideShapes Go.ChangeAt Go.RowKit Go.Deep
set_option linter.unusedVariables false
set_option linter.unusedSimpArgs false

theorem cells46 : Try.prog.cellsOf 46 = 3 := by kernel_rfl
theorem cells3 : Try.prog.cellsOf 3 = 1 := by kernel_rfl

theorem open_acts {H : Type} {enc : TypeId × Value → H} {w : World} {held : Bool} {fuel : Nat} {a : Option Addr} {len cap : Nat} {x : DataW H × List MemPlace}
    (h : DataW.trod enc Try.prog w 0 (fun _ => true) held fuel 41 [.slice a len cap] = some x) : ActsAt w a len cap := by
  rcases open_slice Try.underlying41 h with ⟨hcs, _⟩ | ⟨ad, l, c, m, n, D, Pl, hcs, _, hl, hm, hmm, _, hx⟩
  · simp at hcs
    obtain ⟨rfl, rfl, rfl⟩ := hcs
    exact ⟨by omega, by decide, fun i hi => by omega⟩
  · simp at hcs
    obtain ⟨rfl, rfl, rfl⟩ := hcs
    refine ⟨hl, hm, fun i hi => ?_⟩
    have hm' : m = cap := by simpa using hmm
    subst hm'
    have hspot : ad.spot = none := by
      obtain ⟨cs', h1, _⟩ := hx 0 (by omega)
      rw [cells46] at h1
      obtain ⟨_, hlen, hcell⟩ := World.cells?_some h1
      have e0 := hcell 0 (by omega)
      rw [add_add] at e0
      match cs', hlen with
      | [v0, v1, v2], _ =>
        have e0' : w.cell? ad = some v0 := by simpa [Addr.add] using e0
        exact World.cell?_spot e0'
    obtain ⟨b, off, spot⟩ := ad
    simp at hspot
    subst hspot
    obtain ⟨cs', h1, h2⟩ := hx i (by omega)
    rw [cells46] at h1
    obtain ⟨_, hlen, hcell⟩ := World.cells?_some h1
    obtain ⟨y0, y1, y2, n', _, _, g0, g1, g2⟩ := trod_struct3 Try.underlying46 h2
    match cs', hlen with
    | [v0, v1, v2], _ =>
      have e0 := hcell 0 (by omega)
      have e1 := hcell 1 (by omega)
      have e2 := hcell 2 (by omega)
      rw [add_add] at e0 e1 e2
      simp [cells3] at g0 g1 g2
      obtain ⟨K, hK, _, wK⟩ := DataW.trod_int Try.underlying3 g0
      obtain ⟨S, hS, _, wS⟩ := DataW.trod_int Try.underlying3 g1
      obtain ⟨N, hN, _, wN⟩ := DataW.trod_int Try.underlying3 g2
      simp at hK hS hN
      subst hK hS hN
      rw [Addr.add_lit] at e0 e1 e2
      exact ⟨b, off, K, S, N, rfl, by simpa using e0, by simpa [Nat.add_assoc] using e1, by simpa [Nat.add_assoc] using e2, wK, wS, wN⟩
end Go.Proofs.Ytlfblldaiinghaa
