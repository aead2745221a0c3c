/- Packets that came in. -/
import Derived.Test.YtbklpelikaapoaaGreatDoorQB1
import Derived.Test.YtbklpelikaapoaaGreatDoorM9
namespace Go.Proofs.YtbklpelikaapoaaGreatDoor
open Go.ChangeShapes Go.WideShapes Go.ChangeAt Go.RowKit Go.Deep
set_option linter.unusedVariables false
set_option linter.unusedSimpArgs false
set_option linter.constructorNameAsVariable false

theorem upk : Tryz.prog.underlying 32 = some (.struct (Tryz.prog.fieldsOf 32)) := by kernel_rfl
theorem cpk : Tryz.prog.cellsOf 32 = 73 := by kernel_rfl
theorem cpH : Tryz.prog.cellsOf 24 = 37 := by kernel_rfl
theorem cpM : Tryz.prog.cellsOf 27 = 28 := by kernel_rfl
theorem cpO : Tryz.prog.cellsOf 29 = 5 := by kernel_rfl
theorem cpT : Tryz.prog.cellsOf 30 = 1 := by kernel_rfl
theorem fspk : (Tryz.prog.fieldsOf 32).toList.map (fun f => (f.type, f.offset)) = [(24, 0), (4, 37), (27, 38), (29, 66), (3, 71), (30, 72)] := by kernel_rfl
theorem pkt_of {H : Type} {enc : TypeId × Value → H} {W : World} {held : Bool} {fuel : Nat} {cs : List Value} {x : DataW H × List MemPlace} (h : DataW.trod enc Tryz.prog W 0 (fun _ => true) held fuel 32 cs = some x) : ∃ p : Pv, cs = p.cs.toList ∧ p.ok W ∧ Wfo p.m.L ∧ (Lit.int .i64 p.n).wf = true := by
  obtain ⟨xs, n, rfl, hlen, hxl, hall⟩ := fields_of upk _ fspk h
  rw [cpk] at hlen
  have key : ∀ (i : Nat) (ty : TypeId) (o : Nat), [(24, 0), (4, 37), (27, 38), (29, 66), (3, 71), (30, 72)][i]? = some (ty, o) → ∃ y, DataW.trod enc Tryz.prog W 0 (fun _ => true) held n ty ((cs.drop o).take (Tryz.prog.cellsOf ty)) = some y := by
    intro i ty o he
    have hi : i < 6 := (List.getElem?_eq_some_iff.1 he).1
    have := hall i ty o he
    rw [List.getElem?_eq_getElem (by rw [hxl]; exact hi)] at this
    exact ⟨_, this⟩
  obtain ⟨y0, h0⟩ := key 0 24 0 rfl
  obtain ⟨y1, h1⟩ := key 1 4 37 rfl
  obtain ⟨y2, h2⟩ := key 2 27 38 rfl
  obtain ⟨y3, h3⟩ := key 3 29 66 rfl
  obtain ⟨y4, h4⟩ := key 4 3 71 rfl
  obtain ⟨y5, h5⟩ := key 5 30 72 rfl
  rw [cpH] at h0
  rw [cc4] at h1
  rw [cpM] at h2
  rw [cpO] at h3
  rw [cc3] at h4
  rw [cpT] at h5
  obtain ⟨hd, e0, k0⟩ := hd_cells (by simp; omega) h0
  obtain ⟨d, e1, _⟩ := DataW.trod_bool Tryz.underlying4 h1
  obtain ⟨m, e2, k2, kw⟩ := msg_of h2
  obtain ⟨o, e3⟩ := ho_cells (by simp; omega) h3
  obtain ⟨z, e4, _, kz⟩ := DataW.trod_int Tryz.underlying3 h4
  obtain ⟨ta, tl, tc, tz, e5, hr⟩ := row_of Tryz.underlying30 Tryz.underlying5 c5 h5
  refine ⟨⟨hd, d, m, o, z, ⟨ta, tl, tc, tz.take tl⟩⟩, ?_, ⟨k0, k2, ⟨hr.lies, oct_take hr.oct _⟩⟩, kw, kz⟩
  have t5 : (cs.drop 72).take 1 = cs.drop 72 := List.take_of_length_le (by simp; omega)
  have t4 : (cs.drop 71).take 1 ++ cs.drop 72 = cs.drop 71 := by have := List.take_append_drop 1 (cs.drop 71); rwa [List.drop_drop] at this
  have t3 : (cs.drop 66).take 5 ++ cs.drop 71 = cs.drop 66 := by have := List.take_append_drop 5 (cs.drop 66); rwa [List.drop_drop] at this
  have t2 : (cs.drop 38).take 28 ++ cs.drop 66 = cs.drop 38 := by have := List.take_append_drop 28 (cs.drop 38); rwa [List.drop_drop] at this
  have t1 : (cs.drop 37).take 1 ++ cs.drop 38 = cs.drop 37 := by have := List.take_append_drop 1 (cs.drop 37); rwa [List.drop_drop] at this
  have s0 : cs = cs.take 37 ++ ((cs.drop 37).take 1 ++ ((cs.drop 38).take 28 ++ ((cs.drop 66).take 5 ++ ((cs.drop 71).take 1 ++ (cs.drop 72).take 1)))) := by
    rw [t5, t4, t3, t2, t1, List.take_append_drop]
  rw [List.drop_zero] at e0
  rw [s0, e0, e1, e2, e3, e4, e5]
  simp [Pv.cs, Pv.tl, Txt.v]
theorem trod_pkt {H : Type} {enc : TypeId × Value → H} {W : World} {held : Bool} {v : Value} {cs : Array Value} {d : DataW H} {p : List MemPlace} (hv : v = .agg cs) (h : DataW.Trod enc Tryz.prog W 0 (fun _ => true) held 32 v d p) : ∃ q : Pv, v = .agg q.cs ∧ (q.ok W ∧ Wfo q.m.L ∧ (Lit.int .i64 q.n).wf = true) := by
  obtain ⟨fuel, hf⟩ := h
  rw [hv] at hf
  obtain ⟨m, hc, h1⟩ := pkt_of hf
  have hc' : cs = m.cs := Array.toList_inj.1 hc
  rw [hv, hc']
  exact ⟨m, rfl, h1⟩
theorem open_pkt {H : Type} {enc : TypeId × Value → H} {W : World} {base : Nat} {held : Bool} {v : Value} {d : DataW H} {p : List MemPlace}
    (hok : Value.okWide Tryz.prog W .any base 32 v) (h : DataW.Trod enc Tryz.prog W 0 (fun _ => true) held 32 v d p) : ∃ q : Pv, v = .agg q.cs ∧ (q.ok W ∧ Wfo q.m.L ∧ (Lit.int .i64 q.n).wf = true) := by
  simp only [Value.okWide, upk] at hok
  obtain ⟨cs, hv, _⟩ := hok
  exact trod_pkt hv h
end Go.Proofs.YtbklpelikaapoaaGreatDoor
