/- A slice of prefixes of the call's own: how it is made, put behind and read; prefixes compared whole. -/
import Derived.Test.YtoijfnkbjdekoaaDoorPure
import Derived.Test.YtoijfnkbjdekoaaDoorPfx
import Derived.Test.YtoijfnkbjdekoaaDoorGo2
import Derived.Great.BuildSlice
import Derived.Laws.StructEq
namespace Go.Proofs.YtoijfnkbjdekoaaDoor
open Go.ChangeShapes Go.WideShapes Go.ChangeAt Go.RowKit
set_option linter.unusedVariables false
set_option linter.unusedSimpArgs false

theorem row42 : (Tryd.prog.info? 42).map (fun i => (i.zero, i.size, i.bytes)) = some (some (.agg (pfx zeros 0)), 17, 24) := by kernel_rfl
theorem letters16 {l : List Int} (h : l.length = 16) : ∃ a0 a1 a2 a3 a4 a5 a6 a7 a8 a9 a10 a11 a12 a13 a14 a15, l = [a0, a1, a2, a3, a4, a5, a6, a7, a8, a9, a10, a11, a12, a13, a14, a15] := by
  match l, h with
  | [a0, a1, a2, a3, a4, a5, a6, a7, a8, a9, a10, a11, a12, a13, a14, a15], _ => exact ⟨a0, a1, a2, a3, a4, a5, a6, a7, a8, a9, a10, a11, a12, a13, a14, a15, rfl⟩
theorem fill17' (a0 a1 a2 a3 a4 a5 a6 a7 a8 a9 a10 a11 a12 a13 a14 a15 n : Int) :
    Instr.fill (fun i => some (i * 17, 17)) ((Array.range (1 * 17)).map ((Value.agg (pfx zeros 0)).cells[· % (Value.agg (pfx zeros 0)).cells.size]!)) [(0, .agg (pfx [a0, a1, a2, a3, a4, a5, a6, a7, a8, a9, a10, a11, a12, a13, a14, a15] n))] = some (pfx [a0, a1, a2, a3, a4, a5, a6, a7, a8, a9, a10, a11, a12, a13, a14, a15] n) := by kernel_rfl
theorem step_bs {ops : Array Oper} {o : Oper} {a : Act} {w : World} {K : Act → World → Prop} {Q : Exit → Act → World → Prop} {E : Prop} (hg : o.guard = none) (y : Operand) (ho : o.op = .buildSlice 52 1 #[(0, y)])
    (l : List Int) (n : Int) (hl : l.length = 16) (hy : a.eval y = .agg (pfx l n)) (h : K (a.put o.dst (.slice (some ⟨w.heap.size, 0, none⟩) 1 1)) (w.alloc (.cells (pfx l n) 42))) :
    if Region.wanted o (yielded ops a.tmps) = true then Oper.wp Tryd.prog o a w K Q else E := by
  rw [if_pos (by simp [Region.wanted, hg])]
  obtain ⟨ie, hi, hz, hs, hb⟩ := info_parts row42
  refine wp_buildSlice 52 42 1 _ ho (pfx l n) ie _ Tryd.underlying52 hi hz (by rw [hs]; decide) (by rw [hs]; decide) ?_ h
  rw [hs]
  simp only [List.map_toArray, List.map_cons, List.map_nil, hy]
  obtain ⟨a0, a1, a2, a3, a4, a5, a6, a7, a8, a9, a10, a11, a12, a13, a14, a15, rfl⟩ := letters16 hl
  exact fill17' a0 a1 a2 a3 a4 a5 a6 a7 a8 a9 a10 a11 a12 a13 a14 a15 n
theorem step_push {ops : Array Oper} {o : Oper} {a : Act} {w : World} {K : Act → World → Prop} {Q : Exit → Act → World → Prop} {E : Prop} (hg : o.guard = none) (s y : Operand)
    (ho : o.op = .call { callee := .builtin .append, args := #[s, y], argTypes := #[52, 52] }) (base m : Nat) (v : Value) (xs : List Value) (hs : a.eval s = v) (hown : w.ownsRow base 42 17 v m xs)
    (l : List Int) (n : Int) (hl : l.length = 16) (hx : a.eval y = .slice (some ⟨w.heap.size, 0, none⟩) 1 1) (hb : base ≤ w.heap.size) (hm : m ≤ 200000)
    (h : ∀ v' w', w'.ownsRow base 42 17 v' (m + 1) (xs ++ (pfx l n).toList) → Below base w w' → K (a.put o.dst v') w') :
    if Region.wanted o (yielded ops a.tmps) = true then Oper.wp Tryd.prog o a (w.alloc (.cells (pfx l n) 42)) K Q else E := by
  rw [if_pos (by simp [Region.wanted, hg])]
  obtain ⟨ie, hi, hz, hz1, hz2⟩ := info_parts row42
  have hlen : (pfx l n).toList.length = 1 * 17 := by rw [Array.length_toList, pfx_size, hl]
  have hnews : ∀ j u, (pfx l n).toList[j]? = some u → (w.alloc (.cells (pfx l n) 42)).cell? ((⟨w.heap.size, 0, none⟩ : Addr).add j) = some u := by
    intro j u hj
    rw [Addr.add_lit, Nat.zero_add, (Row.new w 42 (pfx l n)).cell]
    simpa using hj
  have h1 : ∀ u ∈ (pfx l n).toList, u.oneCell' = true := by
    intro u hu
    have := pfx_one l n
    rw [Array.all_eq_true'] at this
    exact this u (by simpa using hu)
  obtain ⟨v', w', hr, h2, h3, h4, h5⟩ := run_append_own_at (P := Tryd.prog) (w.alloc (.cells (pfx l n) 42)) base 52 o.type 42 ie _ 17 24 Tryd.underlying52 hi hz hz1 hz2 (by rw [Value.cells, pfx_size]; rfl) (by decide) v m xs (hown.alloc _) ⟨w.heap.size, 0, none⟩ 1 1 (pfx l n).toList hlen hnews h1 (by unfold maxLen; omega) (by omega) (by simp; omega)
  unfold Oper.wp execOp
  simp only [ho, resolve, invoke, builtin, Sem.run_bind, Sem.run_pure, Result.andThen_ok, List.map_toArray, List.map_cons, List.map_nil, hs, hx, hr]
  exact h v' w' h2 (Below.grown ((Below.refl _ _).alloc hb _) h3 (by simp; omega) (fun k hk => (hown.lt k hk).1))

/-- The cells of many prefixes. -/
def flat (z : List (List Int × Int)) : List Value := z.flatMap fun x => (pfx x.1 x.2).toList
theorem flat_at : ∀ (z : List (List Int × Int)) (i j : Nat), (∀ x ∈ z, Adr x.1) → i < z.length → j < 17 → (flat z)[17 * i + j]? = (pfx (z.getD i ([], 0)).1 (z.getD i ([], 0)).2)[j]?
  | [], i, j, _, h, _ => by simp at h
  | x :: xs, 0, j, ha, _, hj => by
    have hl : (pfx x.1 x.2).toList.length = 17 := by rw [Array.length_toList, pfx_size, (ha x (by simp)).1]
    rw [flat, List.flatMap_cons, List.getElem?_append_left (by omega)]
    simp
  | x :: xs, i + 1, j, ha, h, hj => by
    have hl : (pfx x.1 x.2).toList.length = 17 := by rw [Array.length_toList, pfx_size, (ha x (by simp)).1]
    have ih := flat_at xs i j (fun y hy => ha y (by simp [hy])) (by simpa using h) hj
    rw [flat, List.flatMap_cons, List.getElem?_append_right (by omega), hl, show 17 * (i + 1) + j - 17 = 17 * i + j by omega]
    rw [flat] at ih
    rw [ih]
    simp
theorem own_pfxs {w : World} {base : Nat} {v : Value} {m : Nat} {z : List (List Int × Int)} (h : w.ownsRow base 42 17 v m (flat z)) (hz : z.length = m) (ha : ∀ x ∈ z, Adr x.1 ∧ (Lit.int .i64 x.2).wf = true) :
    ∃ ao co, v = .slice ao m co ∧ PfxsAt w ao m co z := by
  obtain ⟨h1, h2⟩ := h
  rcases h2 with ⟨rfl, rfl⟩ | ⟨g, cap, cur, rfl, hb, hg, hmc, hcm, hsz, htk⟩
  · refine ⟨none, 0, rfl, hz, by omega, by decide, ha, ?_⟩
    intro i hi
    omega
  · refine ⟨_, cap, rfl, hz, hmc, hcm, ha, fun i hi => ⟨g, 0, rfl, (Array.getElem?_eq_some_iff.1 hg).1, ?_⟩⟩
    intro j u hj
    have hj17 : j < 17 := by
      have := (Array.getElem?_eq_some_iff.1 hj).1
      have hmem : z.getD i ([], 0) ∈ z := by rw [List.getD_eq_getElem?_getD, List.getElem?_eq_getElem (by omega)]; exact List.getElem_mem _
      rw [pfx_size, (ha _ hmem).1.1] at this
      exact this
    have e := flat_at z i j (fun x hx => (ha x hx).1) (by omega) hj17
    rw [hj, ← htk, List.getElem?_take_of_lt (by omega)] at e
    rw [cell_of_row w g _ cur 42 (0, 0) hg, Nat.zero_add]
    simpa using e

theorem fields42 : Tryd.prog.underlying 42 = some (.struct (Tryd.prog.fieldsOf 42)) := by kernel_rfl
theorem held42 : Tryd.prog.stoodInHeld 42 = false := by kernel_rfl
theorem fs42 : (Tryd.prog.fieldsOf 42).toList.map (fun f => (f.name == "_", f.type, f.offset)) = [(false, 25, 0), (false, 3, 16)] := by kernel_rfl
theorem extract_pfx (l : List Int) (n : Int) (h : l.length = 16) : (pfx l n).extract 0 16 = u8s l := by
  obtain ⟨a0, a1, a2, a3, a4, a5, a6, a7, a8, a9, a10, a11, a12, a13, a14, a15, rfl⟩ := letters16 h
  rfl
theorem eqItems_d (w : World) (l : List Int) : ∀ (is : List Nat), (∀ i ∈ is, i < l.length) →
    (Op.eqItems 9998 5 (Tryd.prog.cellsOf 5) (u8s l) (u8s l) is).run Tryd.prog w = .ok true w
  | [], _ => by simp [Op.eqItems]
  | i :: is, hi => by
    have h1 : Tryd.prog.cellsOf 5 = 1 := by kernel_rfl
    have hil : i < l.length := hi i (by simp)
    have ih := eqItems_d w l is (fun j hj => hi j (by simp [hj]))
    have hp : (part 5 (u8s l) (i * 1)).run Tryd.prog w = .ok (.int .u8 (l.getD i 0)) w := by
      have hagg : (isAgg 5).run Tryd.prog w = .ok false w := by unfold isAgg; rw [Sem.run_bind, run_underlying Tryd.underlying5 w]; rfl
      simp only [part, Sem.run_bind, hagg, Result.andThen_ok, Bool.false_eq_true, if_false, Nat.mul_one, u8s_at l i hil, Sem.run_pure]
    simp only [Op.eqItems, Sem.run_bind, h1, hp, Result.andThen_ok, run_equalIn_int (P := Tryd.prog) w 9997 5 .u8 .u8 (l.getD i 0) (l.getD i 0) Tryd.underlying5]
    rw [h1] at ih
    simp only [beq_self_eq_true, Bool.not_true, Bool.false_eq_true, if_false]
    exact ih
theorem eq25_d (l : List Int) (hl : l.length = 16) (w : World) : (Op.equalIn 9999 25 (.agg (u8s l)) (.agg (u8s l))).run Tryd.prog w = .ok true w := by
  obtain ⟨i, hi⟩ := Option.isSome_iff_exists.1 info5
  rw [run_equalIn_array w 9998 (u8s l) (u8s l) Tryd.underlying25 hi]
  exact eqItems_d w l _ (by intro i hi; simp at hi; omega)
theorem built39' (a0 a1 a2 a3 a4 a5 a6 a7 a8 a9 a10 a11 a12 a13 a14 a15 n : Int) : Tryd.prog.built 39 [(0, .agg (u8s [a0, a1, a2, a3, a4, a5, a6, a7, a8, a9, a10, a11, a12, a13, a14, a15])), (1, .int .i64 n)] = some (pfx [a0, a1, a2, a3, a4, a5, a6, a7, a8, a9, a10, a11, a12, a13, a14, a15] n) := by kernel_rfl
theorem built39 (l : List Int) (n : Int) (hl : l.length = 16) : Tryd.prog.built 39 [(0, .agg (u8s l)), (1, .int .i64 n)] = some (pfx l n) := by
  obtain ⟨a0, a1, a2, a3, a4, a5, a6, a7, a8, a9, a10, a11, a12, a13, a14, a15, rfl⟩ := letters16 hl
  exact built39' a0 a1 a2 a3 a4 a5 a6 a7 a8 a9 a10 a11 a12 a13 a14 a15 n
end Go.Proofs.YtoijfnkbjdekoaaDoor
