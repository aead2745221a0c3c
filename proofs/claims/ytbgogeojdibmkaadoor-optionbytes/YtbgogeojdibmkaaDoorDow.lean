/- An argument that is a list of options: its numbers are int's. -/
import Derived.Test.YtbgogeojdibmkaaDoorDor
import Derived.Test.YtbgogeojdibmkaaDoorRea
import Derived.Test.YtbgogeojdibmkaaDoorToo
namespace Go.Proofs.YtbgogeojdibmkaaDoor
open Go.ChangeShapes Go.WideShapes Go.ChangeAt Go.RowKit Go.Deep
set_option linter.unusedVariables false
set_option linter.unusedSimpArgs false

theorem opt_ofw {H : Type} {enc : TypeId × Value → H} {W : World} {held : Bool} {fuel : Nat} {cs : List Value} {x : DataW H × List MemPlace} (h : DataW.trod enc Tryd.prog W 0 (fun _ => true) held fuel 38 cs = some x) : ∃ o : Ov, cs = o.cs.toList ∧ o.ok W ∧ ∀ x ∈ o.n.l, (Lit.int .i64 x).wf = true := by
  obtain ⟨xs, n, rfl, hlen, hxl, hall⟩ := fields_of u38 _ fs38 h
  rw [c38] at hlen
  have key : ∀ (i : Nat) (ty : TypeId) (o : Nat), [(3, 0), (35, 1), (36, 2), (26, 18)][i]? = some (ty, o) → ∃ y, DataW.trod enc Tryd.prog W 0 (fun _ => true) held n ty ((cs.drop o).take (Tryd.prog.cellsOf ty)) = some y := by
    intro i ty o he
    have hi : i < 4 := (List.getElem?_eq_some_iff.1 he).1
    have := hall i ty o he
    rw [List.getElem?_eq_getElem (by rw [hxl]; exact hi)] at this
    exact ⟨_, this⟩
  obtain ⟨y0, h0⟩ := key 0 3 0 rfl
  obtain ⟨y1, h1⟩ := key 1 35 1 rfl
  obtain ⟨y2, h2⟩ := key 2 36 2 rfl
  obtain ⟨y3, h3⟩ := key 3 26 18 rfl
  rw [c3] at h0
  rw [c35] at h1
  rw [c36] at h2
  rw [c26] at h3
  obtain ⟨k, e0, _⟩ := DataW.trod_int Tryd.underlying3 h0
  obtain ⟨na, nl, nc, nz, e1, hr1⟩ := row_of Tryd.underlying35 Tryd.underlying3 c3 h1
  obtain ⟨ad, e2, hA⟩ := adr_of h2
  obtain ⟨ta, tl, tc, tz, e3, hr3⟩ := row_of Tryd.underlying26 Tryd.underlying5 c5 h3
  refine ⟨⟨k, ⟨na, nl, nc, nz.take nl⟩, ad, ⟨ta, tl, tc, tz.take tl⟩⟩, ?_, ⟨hr1.lies, hA, hr3.lies, oct_take hr3.oct _⟩, fun x hx => hr1.wf x (List.mem_of_mem_take hx)⟩
  have s0 : cs = cs.take 1 ++ ((cs.drop 1).take 1 ++ ((cs.drop 2).take 16 ++ (cs.drop 18).take 1)) := by
    have t3 : (cs.drop 18).take 1 = cs.drop 18 := List.take_of_length_le (by simp; omega)
    have t2 : (cs.drop 2).take 16 ++ cs.drop 18 = cs.drop 2 := by
      have := List.take_append_drop 16 (cs.drop 2)
      rwa [List.drop_drop] at this
    have t1 : (cs.drop 1).take 1 ++ cs.drop 2 = cs.drop 1 := by
      have := List.take_append_drop 1 (cs.drop 1)
      rwa [List.drop_drop] at this
    rw [t3, t2, t1, List.take_append_drop]
  rw [List.drop_zero] at e0
  rw [s0, e0, e1, e2, e3]
  simp [Ov.cs, arr, Txt.v]
/-- Options whose numbers are int's. -/
def OptsW (w : World) (a : Option Addr) (n cap : Nat) (L : List Ov) : Prop := Opts w a n cap L ∧ Wfo L
theorem open_optsw {H : Type} {enc : TypeId × Value → H} {W : World} {held : Bool} {a : Option Addr} {len cap : Nat} {d : DataW H} {p : List MemPlace}
    (h : DataW.Trod enc Tryd.prog W 0 (fun _ => true) held 22 (.slice a len cap) d p) : ∃ L, OptsW W a len cap L := by
  obtain ⟨fuel, hf⟩ := h
  rcases open_slice Tryd.underlying22 hf with ⟨hcs, _⟩ | ⟨ad, l, c, m, n, D, Pl, hcs, _, hl, hm, hmm, _, hall⟩
  · simp [Value.cells] at hcs
    obtain ⟨rfl, rfl, rfl⟩ := hcs
    exact ⟨[], Opts.none W, fun o ho => by cases ho⟩
  · simp [Value.cells] at hcs
    obtain ⟨rfl, rfl, rfl⟩ := hcs
    have hm' : m = cap := by simpa using hmm
    subst hm'
    rw [c38] at hall
    have key : ∀ i, ∃ o : Ov, i < len → (∀ j, j < 19 → W.cell? ((ad.add (i * 19)).add j) = o.cs[j]?) ∧ o.ok W ∧ ∀ x ∈ o.n.l, (Lit.int .i64 x).wf = true := by
      intro i
      by_cases hi : i < len
      · obtain ⟨cs', h1, h2⟩ := hall i (by omega)
        obtain ⟨_, hlen, hcell⟩ := World.cells?_some h1
        obtain ⟨o, rfl, hok⟩ := opt_ofw h2
        exact ⟨o, fun _ => ⟨fun j hj => by rw [hcell j hj]; simp, hok⟩⟩
      · exact ⟨Ov.zero, fun h => absurd h hi⟩
    obtain ⟨f, hf'⟩ := Classical.axiomOfChoice key
    refine ⟨(List.range len).map f, ⟨by simp, hl, hm, (fun h => by cases h), ?_, ?_⟩, ?_⟩
    · intro k hk
      have hspot : ad.spot = none := by
        have h0 := (hf' 0 (by omega)).1 0 (by decide)
        rw [Ov.at0] at h0
        exact World.cell?_spot (by simpa [Addr.add] using h0)
      obtain ⟨b, off, spot⟩ := ad
      simp at hspot
      subst hspot
      refine ⟨b, off, rfl, ?_⟩
      intro j v hv
      have hA := (hf' k hk).2.1.ad
      have e : ((List.range len).map f).getD k Ov.zero = f k := by simp [hk]
      rw [e] at hv
      have hj : j < 19 := by have := (Array.getElem?_eq_some_iff.1 hv).1; rw [Ov.size hA] at this; exact this
      have := (hf' k hk).1 j hj
      rw [Addr.add_lit, Addr.add_lit] at this
      rw [this]; exact hv
    · intro o ho
      simp at ho
      obtain ⟨i, hi, rfl⟩ := ho
      exact (hf' i hi).2.1
    · intro o ho
      simp at ho
      obtain ⟨i, hi, rfl⟩ := ho
      exact (hf' i hi).2.2
/-- What To leaves has int's, too. -/
theorem to_w (a : Option Addr) (n cap : Nat) (L : List Ov) (w : World) (hL : OptsW w a n cap L) :
    Calls Tryd.prog 7 #[.slice a n cap] w fun e w' => (∃ a' m cap' L', e = .returned (.slice a' m cap') ∧ m ≤ 20 ∧ Hid (Opts w' a' m cap' L') ∧ Hid (Wfo L')) ∧ Below w.heap.size w w' := by
  refine (to_any a n cap L w hL.1).mono ?_
  rintro e w' ⟨a', cap', L', rfl, hO, hp, hb⟩
  refine ⟨⟨a', min n 20, cap', L', rfl, by omega, hO, fun o ho x hx => ?_⟩, hb⟩
  have hm : o.p ∈ ((pos L).take 20).map cutP := by rw [← hp]; exact List.mem_map_of_mem ho
  obtain ⟨q, hq1, hq⟩ := List.mem_map.1 hm
  obtain ⟨o2, ho2, rfl⟩ := List.mem_map.1 (List.mem_of_mem_take hq1)
  have e1 : o.n.l = o2.n.l.take 12 := (congrArg Po.n hq).symm
  rw [e1] at hx
  exact hL.2 o2 ho2 x (List.mem_of_mem_take hx)
end Go.Proofs.YtbgogeojdibmkaaDoor
