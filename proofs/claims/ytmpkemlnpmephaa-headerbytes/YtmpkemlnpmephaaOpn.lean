/- How a header that came in is opened. -/
import Derived.Test.YtmpkemlnpmephaaHd
import Derived.ChangeSame
import Derived.Deep.Strs
namespace Go.Proofs.Ytmpkemlnpmephaa
open Go.ChangeShapes Go.WideShapes Go.ChangeAt Go.RowKit Go.Deep
set_option linter.unusedVariables false
set_option linter.unusedSimpArgs false
set_option linter.constructorNameAsVariable false

theorem c24 : Try.prog.cellsOf 24 = 37 := by kernel_rfl
theorem c22 : Try.prog.cellsOf 22 = 16 := by kernel_rfl
theorem c3 : Try.prog.cellsOf 3 = 1 := by kernel_rfl
theorem c5 : Try.prog.cellsOf 5 = 1 := by kernel_rfl
theorem fields24 : Try.prog.underlying 24 = some (.struct (Try.prog.fieldsOf 24)) := by kernel_rfl
theorem fs24 : (Try.prog.fieldsOf 24).toList.map (fun f => (f.type, f.offset)) = [(3, 0), (3, 1), (3, 2), (3, 3), (3, 4), (22, 5), (22, 21)] := by kernel_rfl
theorem adr_cells {H : Type} {enc : TypeId × Value → H} {W : World} {held : Bool} {fuel : Nat} {cs : List Value} {x : DataW H × List MemPlace} (hlen : cs.length = 16)
    (hf : DataW.trod enc Try.prog W 0 (fun _ => true) held fuel 22 cs = some x) : ∃ l, cs = u8s l ∧ Adr l := by
  obtain ⟨xs, m, rfl, hx, hl, hxl, hall⟩ := DataW.trod_array Try.underlying22 hf
  have key : ∀ i, i < 16 → ∃ z, cs[i]? = some (.int .u8 z) ∧ 0 ≤ z ∧ z < 256 := by
    intro i hi
    have h1 := hall i hi
    rw [c5, Nat.mul_one] at h1
    obtain ⟨b, hb⟩ : ∃ b, xs[i]? = some b := ⟨xs[i]'(by omega), List.getElem?_eq_getElem (by omega)⟩
    rw [hb] at h1
    obtain ⟨z, hz, _, hw⟩ := DataW.trod_int Try.underlying5 h1
    have h2 : cs[i]? = some (.int .u8 z) := by
      have := congrArg (·[0]?) hz
      simpa [List.getElem?_take, List.getElem?_drop] using this
    have e1 : IntKind.u8.min = 0 := rfl
    have e2 : IntKind.u8.max = 255 := rfl
    simp [Lit.wf, e1, e2] at hw
    exact ⟨z, h2, hw.1, by omega⟩
  refine ⟨cs.map intOf, ?_, ?_, ?_⟩
  · apply List.ext_getElem?
    intro i
    by_cases hi : i < 16
    · obtain ⟨z, hz, _⟩ := key i hi
      simp only [u8s, List.getElem?_map, hz, Option.map_some, intOf]
    · rw [List.getElem?_eq_none (by omega), List.getElem?_eq_none (by simp [u8s]; omega)]
  · simp; omega
  · intro x hx
    simp only [List.mem_map] at hx
    obtain ⟨v, hv, rfl⟩ := hx
    obtain ⟨i, hi, rfl⟩ := List.mem_iff_getElem.1 hv
    obtain ⟨z, hz, h0, h1⟩ := key i (by omega)
    rw [List.getElem?_eq_getElem hi] at hz
    rw [Option.some.inj hz]
    exact ⟨h0, h1⟩

theorem hd_cells {H : Type} {enc : TypeId × Value → H} {W : World} {held : Bool} {fuel : Nat} {cs : List Value} {x : DataW H × List MemPlace} (hlen : cs.length = 37)
    (hf : DataW.trod enc Try.prog W 0 (fun _ => true) held fuel 24 cs = some x) : ∃ h : Hd, cs = h.cs.toList ∧ h.ok := by
  obtain ⟨xs, n, rfl, hx, hl, hxl, hall⟩ := DataW.trod_struct fields24 hf
  have h7 : (Try.prog.fieldsOf 24).size = 7 := by have := congrArg List.length fs24; simpa using this
  have key : ∀ i t o, i < 7 → [(3, 0), (3, 1), (3, 2), (3, 3), (3, 4), (22, 5), (22, 21)][i]? = some (t, o) → ∃ y, DataW.trod enc Try.prog W 0 (fun _ => true) held n t ((cs.drop o).take (Try.prog.cellsOf t)) = some y := by
    intro i t o hi he
    have hi' : i < (Try.prog.fieldsOf 24).size := by omega
    have e1 := congrArg (·[i]?) fs24
    simp only [List.getElem?_map, he] at e1
    have e2 : (Try.prog.fieldsOf 24).toList[i]? = some (Try.prog.fieldsOf 24)[i] := by simp [hi']
    rw [e2] at e1
    simp only [Option.map_some, Option.some.injEq, Prod.mk.injEq] at e1
    have := hall i _ (Array.getElem?_eq_getElem hi')
    rw [e1.1, e1.2, List.getElem?_eq_getElem (by omega : i < xs.length)] at this
    exact ⟨_, this⟩
  have int : ∀ o, o < 5 → ∃ N, (cs.drop o).take 1 = [.int .i64 N] := by
    intro o ho
    obtain ⟨y, hy⟩ := key o 3 o (by omega) (by match o, ho with | 0, _ => rfl | 1, _ => rfl | 2, _ => rfl | 3, _ => rfl | 4, _ => rfl)
    rw [c3] at hy
    obtain ⟨N, hN, _, _⟩ := DataW.trod_int Try.underlying3 hy
    exact ⟨N, hN⟩
  obtain ⟨n0, h0⟩ := int 0 (by omega)
  obtain ⟨n1, h1⟩ := int 1 (by omega)
  obtain ⟨n2, h2⟩ := int 2 (by omega)
  obtain ⟨n3, h3⟩ := int 3 (by omega)
  obtain ⟨n4, h4⟩ := int 4 (by omega)
  obtain ⟨y5, h5⟩ := key 5 22 5 (by omega) rfl
  obtain ⟨y6, h6⟩ := key 6 22 21 (by omega) rfl
  rw [c22] at h5 h6
  obtain ⟨f, hf5, hF⟩ := adr_cells (by simp; omega) h5
  obtain ⟨t, hf6, hT⟩ := adr_cells (by simp; omega) h6
  clear key int hall h5 h6 hx hxl hl hf
  match cs, hlen with
  | c0 :: c1 :: c2 :: c3 :: c4 :: rest, hlen =>
    simp at h0 h1 h2 h3 h4 hlen hf5 hf6
    subst h0; subst h1; subst h2; subst h3; subst h4
    refine ⟨⟨n0, n1, n2, n3, n4, f, t⟩, ?_, hF, hT⟩
    have hr : rest = u8s f ++ u8s t := by
      rw [← hf5, ← hf6, List.take_of_length_le (by simp; omega : (rest.drop 16).length ≤ 16), List.take_append_drop]
    simp [Hd.cs, arr, hr]

theorem open_hd {H : Type} {enc : TypeId × Value → H} {W : World} {base : Nat} {held : Bool} {v : Value} {d : DataW H} {p : List MemPlace}
    (hok : Value.okWide Try.prog W .any base 24 v) (h : DataW.Trod enc Try.prog W 0 (fun _ => true) held 24 v d p) : ∃ h : Hd, v = .agg h.cs ∧ h.ok := by
  simp only [Value.okWide, fields24] at hok
  obtain ⟨cs, rfl, hsz, _⟩ := hok
  rw [c24] at hsz
  obtain ⟨fuel, hf⟩ := h
  obtain ⟨h, hc, h1⟩ := hd_cells (cs := cs.toList) (by simpa using hsz) hf
  refine ⟨h, ?_, h1⟩
  congr 1
  exact Array.ext' hc
end Go.Proofs.Ytmpkemlnpmephaa
