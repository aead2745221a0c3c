/- How an option that came in is opened. -/
import Derived.Test.YtdfeahbpgchkoaaHopHo
import Derived.ChangeSame
import Derived.Deep.Strs
namespace Go.Proofs.Ytdfeahbpgchkoaa
open Go.ChangeShapes Go.WideShapes Go.ChangeAt Go.RowKit Go.Deep
set_option linter.unusedVariables false
set_option linter.unusedSimpArgs false
set_option linter.constructorNameAsVariable false

theorem cellsRo : Try.prog.cellsOf 23 = 5 := by kernel_rfl
theorem cells3o : Try.prog.cellsOf 3 = 1 := by kernel_rfl
theorem cells4o : Try.prog.cellsOf 4 = 1 := by kernel_rfl
theorem fsRo' : (Try.prog.fieldsOf 23).toList.map (fun f => (f.type, f.offset)) = [(4, 0), (4, 1), (4, 2), (3, 3), (3, 4)] := by kernel_rfl
theorem ho_cells {H : Type} {enc : TypeId × Value → H} {W : World} {held : Bool} {fuel : Nat} {cs : List Value} {x : DataW H × List MemPlace} (hlen : cs.length = 5)
    (hf : DataW.trod enc Try.prog W 0 (fun _ => true) held fuel 23 cs = some x) : ∃ h : Ho, cs = h.cs.toList := by
  obtain ⟨xs, n, rfl, hx, hl, hxl, hall⟩ := DataW.trod_struct fieldsRo hf
  have h5 : (Try.prog.fieldsOf 23).size = 5 := by have := congrArg List.length fsRo'; simpa using this
  have key : ∀ i t o, i < 5 → [(4, 0), (4, 1), (4, 2), (3, 3), (3, 4)][i]? = some (t, o) → ∃ y, DataW.trod enc Try.prog W 0 (fun _ => true) held n t ((cs.drop o).take (Try.prog.cellsOf t)) = some y := by
    intro i t o hi he
    have hi' : i < (Try.prog.fieldsOf 23).size := by omega
    have e1 := congrArg (·[i]?) fsRo'
    simp only [List.getElem?_map, he] at e1
    have e2 : (Try.prog.fieldsOf 23).toList[i]? = some (Try.prog.fieldsOf 23)[i] := by simp [hi']
    rw [e2] at e1
    simp only [Option.map_some, Option.some.injEq, Prod.mk.injEq] at e1
    have := hall i _ (Array.getElem?_eq_getElem hi')
    rw [e1.1, e1.2, List.getElem?_eq_getElem (by omega : i < xs.length)] at this
    exact ⟨_, this⟩
  obtain ⟨y0, h0⟩ := key 0 4 0 (by omega) rfl
  obtain ⟨y1, h1⟩ := key 1 4 1 (by omega) rfl
  obtain ⟨y2, h2⟩ := key 2 4 2 (by omega) rfl
  obtain ⟨y3, h3⟩ := key 3 3 3 (by omega) rfl
  obtain ⟨y4, h4⟩ := key 4 3 4 (by omega) rfl
  rw [cells4o] at h0 h1 h2
  rw [cells3o] at h3 h4
  obtain ⟨b0, k0, _⟩ := DataW.trod_bool Try.underlying4 h0
  obtain ⟨b1, k1, _⟩ := DataW.trod_bool Try.underlying4 h1
  obtain ⟨b2, k2, _⟩ := DataW.trod_bool Try.underlying4 h2
  obtain ⟨n3, k3, _⟩ := DataW.trod_int Try.underlying3 h3
  obtain ⟨n4, k4, _⟩ := DataW.trod_int Try.underlying3 h4
  clear key hall h0 h1 h2 h3 h4 hx hxl hl hf
  match cs, hlen with
  | [c0, c1, c2, c3, c4], _ =>
    simp at k0 k1 k2 k3 k4
    subst k0; subst k1; subst k2; subst k3; subst k4
    exact ⟨⟨b0, b1, b2, n3, n4⟩, rfl⟩
theorem open_ho {H : Type} {enc : TypeId × Value → H} {W : World} {base : Nat} {held : Bool} {v : Value} {d : DataW H} {p : List MemPlace}
    (hok : Value.okWide Try.prog W .any base 23 v) (h : DataW.Trod enc Try.prog W 0 (fun _ => true) held 23 v d p) : ∃ h : Ho, v = .agg h.cs ∧ True := by
  simp only [Value.okWide, fieldsRo] at hok
  obtain ⟨cs, rfl, hsz, _⟩ := hok
  rw [cellsRo] at hsz
  obtain ⟨fuel, hf⟩ := h
  obtain ⟨h, hc⟩ := ho_cells (cs := cs.toList) (by simpa using hsz) hf
  refine ⟨h, ?_, trivial⟩
  congr 1
  exact Array.ext' hc
end Go.Proofs.Ytdfeahbpgchkoaa
