/- What the rows' lists give, a world that meets them, and how an address that came in is opened. -/
import Derived.Test.YtoijfnkbjdekoaaDoorKnown
import Derived.Test.YtoijfnkbjdekoaaDoorCards
import Derived.Test.YtoijfnkbjdekoaaDoorTie
import Derived.Deep.DeepHandedRow
import Derived.Lib.LaidTab
import Derived.Stop.LaidErr
import Derived.Shelf.Vars
import Derived.LaidLaws
import Derived.ChangeOld
import Derived.Carry
namespace Go.Proofs.YtoijfnkbjdekoaaDoor
open Go.ChangeShapes Go.WideShapes Go.ChangeAt Go.RowKit
set_option linter.unusedVariables false
set_option linter.unusedSimpArgs false
set_option maxRecDepth 100000

/-! What the rows' lists give. -/
def t64 : List Int := [0, 1, 56, 2, 57, 49, 28, 3, 61, 58, 42, 50, 38, 29, 17, 4, 62, 47, 59, 36, 45, 43, 51, 22, 53, 39, 33, 30, 24, 18, 12, 5, 63, 55, 48, 27, 60, 41, 37, 16, 46, 35, 44, 21, 52, 32, 23, 11, 54, 26, 40, 15, 34, 20, 31, 10, 25, 14, 19, 9, 13, 8, 7, 6]
theorem g0 : Tryd.prog.globalNamed "internal/bytealg.MaxLen" = some 0 := by kernel_rfl
theorem g2 : Tryd.prog.globalNamed "strconv.ErrSyntax" = some 2 := by kernel_rfl
theorem g3 : Tryd.prog.globalNamed "strconv.ErrRange" = some 3 := by kernel_rfl
theorem g5 : Tryd.prog.globalNamed "math/bits.deBruijn64tab" = some 5 := by kernel_rfl
theorem gt2 : (Tryd.prog.globals[2]?).map (·.type) = some 80 := by kernel_rfl
theorem gt3 : (Tryd.prog.globals[3]?).map (·.type) = some 80 := by kernel_rfl
theorem gt5 : (Tryd.prog.globals[5]?).map (·.type) = some 131 := by kernel_rfl
theorem u131 : Tryd.prog.underlying 131 = some (.array 64 5) := by kernel_rfl
theorem c131 : Tryd.prog.cellsOf 131 = 64 := by kernel_rfl
theorem c5 : Tryd.prog.cellsOf 5 = 1 := by kernel_rfl
theorem c129 : Tryd.prog.cellsOf 129 = 1 := by kernel_rfl
theorem c9 : Tryd.prog.cellsOf 9 = 1 := by kernel_rfl
theorem t64_data : Lib.tabData .u8 t64 = (Rows.laid_math_bits_deBruijn64tab : DataW Unit) := rfl
theorem star : "*errors.errorString" = "*" ++ "errors.errorString" := by decide
theorem only127 (u : TypeId) (h : Tryd.prog.typeName? 3 u = some "*errors.errorString") : u = 127 :=
  typeName_ptr_named (nm := "errors.errorString") (by rw [← star]; kernel_rfl) (by kernel_rfl) (by decide) u (by rw [← star]; exact h)

theorem vars_of {W : World} (h : laidMetH Tryd.prog Rows.addrCutsRow.laid W) (hs : W.ShapedOpen Tryd.prog) : Vars W := by
  have h : laidMet Tryd.prog Rows.addrCutsRow.laid W := h
  have h1 := h.tail
  have hT : Lib.TabIs Tryd.prog W "math/bits.deBruijn64tab" .u8 t64 := Lib.tabIs_of_head g5 gt5 u131 Tryd.underlying5 c5 c131 (by rw [t64_data]; exact h1)
  have hc5 : W.cell? ⟨5, 15, none⟩ = some (.int .u8 4) := hT.cell g5 15 (by decide)
  have hR := h1.tail.tail.tail
  obtain ⟨a0, s0, hv0, -, -, -⟩ := laid_sentinel hR g3 gt3 Tryd.underlying80 only127 Tryd.underlying127 Tryd.underlying129 rfl rfl Tryd.underlying9 c129 c9
  obtain ⟨a1, s1, hv1, -, -, -⟩ := laid_sentinel hR.tail g2 gt2 Tryd.underlying80 only127 Tryd.underlying127 Tryd.underlying129 rfl rfl Tryd.underlying9 c129 c9
  refine ⟨cell_of_shapedOpen_int (zero := #[.int .i64 0]) hs (of_decide_eq_true (by kernel_rfl)) (by kernel_rfl) rfl (by kernel_rfl) (by kernel_rfl) Tryd.underlying3, ⟨127, .pointer (some a1), ?_⟩, ⟨127, .pointer (some a0), ?_⟩, hc5, World.block_lt_of_cell? W _ hc5⟩
  · have h0 := World.var?_cell g2 hv1 0; simpa using h0
  · have h0 := World.var?_cell g3 hv0 0; simpa using h0

/-! How an address that came in is opened. -/
theorem c22 : Tryd.prog.cellsOf 22 = 16 := by kernel_rfl
theorem okWide_row {W : World} {base : Nat} {v : Value} (hok : Value.okWide Tryd.prog W .any base 22 v) : ∃ cs, v = .agg cs ∧ cs.size = 16 := by
  simp only [Value.okWide, Tryd.underlying22] at hok
  obtain ⟨cs, h1, h2, _⟩ := hok
  exact ⟨cs, h1, h2.trans c22⟩
theorem open_adr {H : Type} {enc : TypeId × Value → H} {W : World} {base : Nat} {held : Bool} {v : Value} {d : DataW H} {p : List MemPlace}
    (hok : Value.okWide Tryd.prog W .any base 22 v) (h : DataW.Trod enc Tryd.prog W 0 (fun _ => true) held 22 v d p) : ∃ l, v = .agg (u8s l) ∧ Adr l := by
  obtain ⟨cs, rfl, hsz⟩ := okWide_row hok
  obtain ⟨fuel, hf⟩ := h
  obtain ⟨xs, m, rfl, hx, hl, hxl, hall⟩ := DataW.trod_array Tryd.underlying22 hf
  have hlen : cs.toList.length = 16 := by simpa using hsz
  have key : ∀ i, i < 16 → ∃ z, cs.toList[i]? = some (.int .u8 z) ∧ 0 ≤ z ∧ z < 256 := by
    intro i hi
    have h1 := hall i hi
    rw [c5, Nat.mul_one] at h1
    obtain ⟨b, hb⟩ : ∃ b, xs[i]? = some b := ⟨xs[i]'(by omega), List.getElem?_eq_getElem (by omega)⟩
    rw [hb] at h1
    obtain ⟨z, hz, _, hw⟩ := DataW.trod_int Tryd.underlying5 h1
    have h2 : cs.toList[i]? = some (.int .u8 z) := by
      have := congrArg (·[0]?) hz
      simpa [List.getElem?_take, List.getElem?_drop, Value.cells] using this
    have e1 : IntKind.u8.min = 0 := rfl
    have e2 : IntKind.u8.max = 255 := rfl
    simp [Lit.wf, e1, e2] at hw
    exact ⟨z, h2, hw.1, by omega⟩
  refine ⟨cs.toList.map intOf, ?_, ?_, ?_⟩
  · have : cs = u8s (cs.toList.map intOf) := by
      apply Array.ext'
      apply List.ext_getElem?
      intro i
      by_cases hi : i < 16
      · obtain ⟨z, hz, _⟩ := key i hi
        simp only [u8s, List.getElem?_map, hz, Option.map_some, intOf]
      · rw [List.getElem?_eq_none (by omega), List.getElem?_eq_none (by simp [u8s]; omega)]
    rw [← this]
  · simp; omega
  · intro x hx
    simp only [List.mem_map] at hx
    obtain ⟨v, hv, rfl⟩ := hx
    obtain ⟨i, hi, rfl⟩ := List.mem_iff_getElem.1 hv
    obtain ⟨z, hz, h0, h1⟩ := key i (by omega)
    rw [List.getElem?_eq_getElem hi] at hz
    rw [Option.some.inj hz]
    exact ⟨h0, h1⟩
end Go.Proofs.YtoijfnkbjdekoaaDoor
