/- How a prefix, and a slice of prefixes, that came in are opened. -/
import Derived.Test.YtoijfnkbjdekoaaDoorDoor
import Derived.ChangeSame
import Derived.Deep.Strs
namespace Go.Proofs.YtoijfnkbjdekoaaDoor
open Go.ChangeShapes Go.WideShapes Go.ChangeAt Go.RowKit Go.Deep
set_option linter.unusedVariables false
set_option linter.unusedSimpArgs false
set_option linter.constructorNameAsVariable false

theorem c39 : Tryd.prog.cellsOf 39 = 17 := by kernel_rfl
theorem c3 : Tryd.prog.cellsOf 3 = 1 := by kernel_rfl
theorem adr_cells {H : Type} {enc : TypeId × Value → H} {W : World} {held : Bool} {fuel : Nat} {cs : List Value} {x : DataW H × List MemPlace} (hlen : cs.length = 16)
    (hf : DataW.trod enc Tryd.prog W 0 (fun _ => true) held fuel 22 cs = some x) : ∃ l, cs = l.map (Value.int .u8) ∧ Adr l := by
  obtain ⟨xs, m, rfl, hx, hl, hxl, hall⟩ := DataW.trod_array Tryd.underlying22 hf
  have key : ∀ i, i < 16 → ∃ z, cs[i]? = some (.int .u8 z) ∧ 0 ≤ z ∧ z < 256 := by
    intro i hi
    have h1 := hall i hi
    rw [c5, Nat.mul_one] at h1
    obtain ⟨b, hb⟩ : ∃ b, xs[i]? = some b := ⟨xs[i]'(by omega), List.getElem?_eq_getElem (by omega)⟩
    rw [hb] at h1
    obtain ⟨z, hz, _, hw⟩ := DataW.trod_int Tryd.underlying5 h1
    have h2 : cs[i]? = some (.int .u8 z) := by
      have := congrArg (·[0]?) hz
      simpa [List.getElem?_take, List.getElem?_drop] using this
    have e1 : IntKind.u8.min = 0 := rfl
    have e2 : IntKind.u8.max = 255 := rfl
    simp [Lit.wf, e1, e2] at hw
    exact ⟨z, h2, hw.1, by omega⟩
  refine ⟨cs.map intOf, ?_, ?_, ?_⟩
  · apply List.ext_getElem?
    intro i
    by_cases hi : i < 16
    · obtain ⟨z, hz, _⟩ := key i hi
      simp only [List.getElem?_map, hz, Option.map_some, intOf]
    · rw [List.getElem?_eq_none (by omega), List.getElem?_eq_none (by simp; omega)]
  · simp; omega
  · intro x hx
    simp only [List.mem_map] at hx
    obtain ⟨v, hv, rfl⟩ := hx
    obtain ⟨i, hi, rfl⟩ := List.mem_iff_getElem.1 hv
    obtain ⟨z, hz, h0, h1⟩ := key i (by omega)
    rw [List.getElem?_eq_getElem hi] at hz
    rw [Option.some.inj hz]
    exact ⟨h0, h1⟩
theorem pfx_cells {H : Type} {enc : TypeId × Value → H} {W : World} {held : Bool} {fuel : Nat} {cs : List Value} {x : DataW H × List MemPlace} (hlen : cs.length = 17)
    (hf : DataW.trod enc Tryd.prog W 0 (fun _ => true) held fuel 39 cs = some x) : ∃ l n, cs = (pfx l n).toList ∧ Adr l ∧ (Lit.int .i64 n).wf = true := by
  obtain ⟨y0, y1, n', _, _, g0, g1⟩ := trod_struct2 Tryd.underlying39 hf
  simp [c22, c3] at g0 g1
  obtain ⟨l, hl, hA⟩ := adr_cells (by simp; omega) g0
  obtain ⟨N, hN, _, wN⟩ := DataW.trod_int Tryd.underlying3 g1
  refine ⟨l, N, ?_, hA, wN⟩
  have : cs = cs.take 16 ++ cs.drop 16 := (List.take_append_drop 16 cs).symm
  have h2 : cs.drop 16 = [.int .i64 N] := by
    have h3 : (cs.drop 16).take 1 = cs.drop 16 := List.take_of_length_le (by simp; omega)
    rw [← h3]; simpa using hN
  rw [this, hl, h2]
  simp [pfx, u8s]
theorem open_pfx {H : Type} {enc : TypeId × Value → H} {W : World} {base : Nat} {held : Bool} {v : Value} {d : DataW H} {p : List MemPlace}
    (hok : Value.okWide Tryd.prog W .any base 39 v) (h : DataW.Trod enc Tryd.prog W 0 (fun _ => true) held 39 v d p) : ∃ l n, v = .agg (pfx l n) ∧ (Adr l ∧ (Lit.int .i64 n).wf = true) := by
  simp only [Value.okWide, Tryd.underlying39] at hok
  obtain ⟨cs, rfl, hsz, _⟩ := hok
  rw [c39] at hsz
  obtain ⟨fuel, hf⟩ := h
  obtain ⟨l, n, hc, h1, h2⟩ := pfx_cells (cs := cs.toList) (by simpa using hsz) hf
  refine ⟨l, n, ?_, h1, h2⟩
  congr 1
  exact Array.ext' hc

/-- A slice of prefixes, as it lies. -/
def PfxsAt (w : World) (a : Option Addr) (len cap : Nat) (z : List (List Int × Int)) : Prop :=
  z.length = len ∧ len ≤ cap ∧ cap ≤ maxLen ∧ (∀ x ∈ z, Adr x.1 ∧ (Lit.int .i64 x.2).wf = true) ∧
    ∀ i, i < len → ∃ b off, a = some ⟨b, off, none⟩ ∧ b < w.heap.size ∧ Part w b (off + 17 * i) (pfx (z.getD i ([], 0)).1 (z.getD i ([], 0)).2)
theorem PfxsAt.below {w w' : World} {a : Option Addr} {len cap : Nat} {z : List (List Int × Int)} (h : PfxsAt w a len cap z) (hb : Below w.heap.size w w') : PfxsAt w' a len cap z := by
  refine ⟨h.1, h.2.1, h.2.2.1, h.2.2.2.1, fun i hi => ?_⟩
  obtain ⟨b, off, e, hlt, hp⟩ := h.2.2.2.2 i hi
  exact ⟨b, off, e, Nat.lt_of_lt_of_le hlt hb.size, hp.below hb hlt⟩
theorem open_pfxs {H : Type} {enc : TypeId × Value → H} {W : World} {held : Bool} {a : Option Addr} {len cap : Nat} {d : DataW H} {p : List MemPlace}
    (h : DataW.Trod enc Tryd.prog W 0 (fun _ => true) held 51 (.slice a len cap) d p) : ∃ z, PfxsAt W a len cap z := by
  obtain ⟨fuel, hf⟩ := h
  rcases open_slice Tryd.underlying51 hf with ⟨hcs, _⟩ | ⟨ad, l, c, m, n, D, Pl, hcs, _, hl, hm, hmm, _, hx⟩
  · simp [Value.cells] at hcs
    obtain ⟨rfl, rfl, rfl⟩ := hcs
    exact ⟨[], rfl, by omega, by decide, (by intro x hx; cases hx), (by intro i hi; omega)⟩
  · simp [Value.cells] at hcs
    obtain ⟨rfl, rfl, rfl⟩ := hcs
    have hm' : m = cap := by simpa using hmm
    subst hm'
    simp only [c39] at hx
    have key : ∀ i, i < m → ∃ (x : List Int × Int) (b off : Nat), (Adr x.1 ∧ (Lit.int .i64 x.2).wf = true) ∧ ad = ⟨b, off, none⟩ ∧ b < W.heap.size ∧ Part W b (off + 17 * i) (pfx x.1 x.2) := by
      intro i hi
      obtain ⟨cs', h1, h2⟩ := hx i hi
      obtain ⟨_, hlen, hcell⟩ := World.cells?_some h1
      obtain ⟨lx, nx, hc, hA, hw⟩ := pfx_cells hlen h2
      have hspot : ad.spot = none := by
        obtain ⟨cs9, h19, _⟩ := hx 0 (by omega)
        obtain ⟨_, hlen9, hcell9⟩ := World.cells?_some h19
        have e0 := hcell9 0 (by omega)
        obtain ⟨v0, hv0⟩ : ∃ v0, cs9[0]? = some v0 := ⟨cs9[0]'(by omega), List.getElem?_eq_getElem (by omega)⟩
        rw [hv0] at e0
        have e1 : W.cell? ad = some v0 := by simpa [Addr.add] using e0
        exact World.cell?_spot e1
      obtain ⟨b, off, spot⟩ := ad
      simp at hspot
      subst hspot
      refine ⟨(lx, nx), b, off, ⟨hA, hw⟩, rfl, ?_, ?_⟩
      · have e0 := hcell 0 (by omega)
        obtain ⟨v0, hv0⟩ : ∃ v0, cs'[0]? = some v0 := ⟨cs'[0]'(by omega), List.getElem?_eq_getElem (by omega)⟩
        rw [hv0] at e0
        rw [add_add, Addr.add_lit] at e0
        exact block_lt_of_cell e0
      · intro j v hv
        have hj : j < 17 := by
          have := (Array.getElem?_eq_some_iff.1 hv).1
          rw [pfx_size, hA.1] at this; exact this
        have e0 := hcell j hj
        rw [hc] at e0
        have hv' : (pfx lx nx).toList[j]? = some v := by simpa using hv
        rw [hv', add_add, Addr.add_lit] at e0
        rw [← e0]
        congr 2
        omega
    let g : Nat → List Int × Int := fun i => if hi : i < m then Classical.choose (key i hi) else ([], 0)
    have hg : ∀ i, i < m → ∃ (b off : Nat), (Adr (g i).1 ∧ (Lit.int .i64 (g i).2).wf = true) ∧ ad = ⟨b, off, none⟩ ∧ b < W.heap.size ∧ Part W b (off + 17 * i) (pfx (g i).1 (g i).2) := by
      intro i hi
      have := Classical.choose_spec (key i hi)
      simp only [g, dif_pos hi]
      exact this
    refine ⟨(List.range len).map g, by simp, hl, hm, ?_, fun i hi => ?_⟩
    · intro x hx
      simp only [List.mem_map, List.mem_range] at hx
      obtain ⟨i, hi, rfl⟩ := hx
      obtain ⟨b, off, h1, _⟩ := hg i (by omega)
      exact h1
    · obtain ⟨b, off, h1, h2, h3, h4⟩ := hg i (by omega)
      have e : ((List.range len).map g).getD i ([], 0) = g i := by simp [hi]
      rw [e]
      exact ⟨b, off, by rw [h2], h3, h4⟩
end Go.Proofs.YtoijfnkbjdekoaaDoor
