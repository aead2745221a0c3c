/- The values of a message: the array, valuesOf. · Whether options may be: allMay. · Has a message what its code has? known, formed, within, allowed. -/
import Derived.Test.YtbfjkhafdkhhmaaDoorM7
namespace Go.Proofs.YtbfjkhafdkhhmaaDoor
open Go.ChangeShapes Go.WideShapes Go.ChangeAt Go.RowKit Go.Deep
set_option linter.unusedVariables false
set_option linter.unusedSimpArgs false

theorem nArr_size (l : List Int) : (nArr l).size = l.length := by simp [nArr]
theorem nArr_one (l : List Int) : (nArr l).all (·.oneCell') = true := by simp [nArr, Value.oneCell']
theorem nArr_set (l : List Int) (j : Nat) (x : Int) : (nArr l).setIfInBounds j (.int .i64 x) = nArr (l.set j x) := by
  apply Array.ext_getElem?
  intro i
  simp [nArr, Array.getElem?_setIfInBounds, List.getElem?_set]
theorem zvl : (#[.int .i64 0, .int .i64 0, .int .i64 0, .int .i64 0, .int .i64 0, .int .i64 0, .int .i64 0, .int .i64 0, .int .i64 0, .int .i64 0, .int .i64 0] : Array Value) = nArr zer11 := rfl
theorem vs_len (m : Pm) : m.vs.length = 11 := rfl
theorem size74 : (Tryd.prog.info? 74).map (·.size) = some 11 := by kernel_rfl
theorem built74 (x0 x1 x2 x3 x4 x5 x6 x7 x8 x9 x10 : Int) : Tryd.prog.built 74 [(0, .int .i64 x0), (1, .int .i64 x1), (2, .int .i64 x2), (3, .int .i64 x3), (4, .int .i64 x4), (5, .int .i64 x5), (6, .int .i64 x6), (7, .int .i64 x7), (8, .int .i64 x8), (9, .int .i64 x9), (10, .int .i64 x10)] = some (nArr [x0, x1, x2, x3, x4, x5, x6, x7, x8, x9, x10]) := by kernel_rfl
theorem built74z : Tryd.prog.built 74 [] = some (nArr zer11) := by kernel_rfl
theorem info3n : (Tryd.prog.info? 3).isSome = true := by kernel_rfl
theorem eqItems_n (w : World) (l m : List Int) (h : l.length = m.length) : ∀ (is : List Nat), (∀ i ∈ is, i < l.length) →
    (Op.eqItems 9999 3 (Tryd.prog.cellsOf 3) (nArr l) (nArr m) is).run Tryd.prog w = .ok (is.all fun i => l.getD i 0 == m.getD i 0) w
  | [], _ => by simp [Op.eqItems]
  | i :: is, hi => by
    have h1 : Tryd.prog.cellsOf 3 = 1 := by kernel_rfl
    have hil : i < l.length := hi i (by simp)
    have ih := eqItems_n w l m h is (fun j hj => hi j (by simp [hj]))
    have hp : ∀ l' : List Int, i < l'.length → (part 3 (nArr l') (i * 1)).run Tryd.prog w = .ok (.int .i64 (l'.getD i 0)) w := by
      intro l' hl'
      have hagg : (isAgg 3).run Tryd.prog w = .ok false w := by unfold isAgg; rw [Sem.run_bind, run_underlying Tryd.underlying3 w]; rfl
      simp only [part, Sem.run_bind, hagg, Result.andThen_ok, Bool.false_eq_true, if_false, Nat.mul_one, nArr_at l' i hl', Sem.run_pure]
    simp only [Op.eqItems, Sem.run_bind, h1, hp l hil, hp m (by omega), Result.andThen_ok, run_equalIn_int (P := Tryd.prog) w 9998 3 .i64 .i64 (l.getD i 0) (m.getD i 0) Tryd.underlying3]
    rw [h1] at ih
    cases hb : (l.getD i 0 == m.getD i 0)
    · simp only [List.all_cons, hb, Bool.false_and, Bool.not_false, if_true, Sem.run_pure]
    · simp only [List.all_cons, hb, Bool.true_and, Bool.not_true, Bool.false_eq_true, if_false]; exact ih
theorem eq74 (l m : List Int) (hl : l.length = 11) (hm : m.length = 11) : ∀ w : World, (Op.equalIn 10000 74 (.agg (nArr l)) (.agg (nArr m))).run Tryd.prog w = .ok (l == m) w := fun w => by
  obtain ⟨i, hi⟩ := Option.isSome_iff_exists.1 info3n
  rw [run_equalIn_array w 9999 (nArr l) (nArr m) Tryd.underlying74 hi, eqItems_n w l m (by omega) _ (by intro i hi; simp at hi; omega), all_eq l m 11 hl hm]
theorem ld74 {ops : Array Oper} {rest : List Oper} {o : Oper} {a : Act} {w : World} {Q : Exit → Act → World → Prop} (x : Operand) (ho : o.op = .load 74 x) (hw : Region.wanted o (yielded ops a.tmps) = true) (g off : Nat) (hx : a.eval x = .pointer (some ⟨g, off, none⟩)) (l : List Int) (hl : l.length = 11) (hg : Part w g off (nArr l))
    (h : wpList Tryd.prog ops Q rest (a.put o.dst (.agg (nArr l))) w) : wpList Tryd.prog ops Q (o :: rest) a w :=
  wp_ld 74 x ho hw g off hx (nArr l) _ Tryd.underlying74 rfl (by rw [nArr_size, hl]; exact size74) hg h
theorem st74 {ops : Array Oper} {rest : List Oper} {o : Oper} {a : Act} {w : World} {Q : Exit → Act → World → Prop} (x y : Operand) (ho : o.op = .store 74 x y) (hgd : o.guard = none) (g : Nat) (l : List Int) (hl : l.length = 11) (hx : a.eval x = .pointer (some ⟨g, 0, none⟩)) (hy : a.eval y = .agg (nArr l)) (t' : TypeId) (old : List Int) (hlo : old.length = 11) (hg : Row w g t' (nArr old))
    (hn : wpList Tryd.prog ops Q rest (a.put o.dst undef) (w.setRow g (nArr l))) : wpList Tryd.prog ops Q (o :: rest) a w :=
  wp_st 74 x y ho hgd g (nArr l) hx hy (by rw [nArr_size, hl]; exact size74) (nArr_one _) t' (nArr old) (by rw [nArr_size, nArr_size, hl, hlo]) hg hn
theorem bd74z {ops : Array Oper} {rest : List Oper} {o : Oper} {a : Act} {w : World} {Q : Exit → Act → World → Prop} (ho : o.op = .build 74 #[]) (hg : o.guard = none)
    (hn : wpList Tryd.prog ops Q rest (a.put o.dst (.agg (nArr zer11))) w) : wpList Tryd.prog ops Q (o :: rest) a w :=
  wp_bd 74 _ ho hg (nArr zer11) (by simp only [List.map_toArray, List.map_nil]; exact built74z) hn
theorem ybd74 {ops : Array Oper} {S : World → Prop} {op : Oper} {a : Act} (hw : Region.wanted op (yielded ops a.tmps) = true) (y0 y1 y2 y3 y4 y5 y6 y7 y8 y9 y10 : Operand) (ho : op.op = .build 74 #[(0, y0), (1, y1), (2, y2), (3, y3), (4, y4), (5, y5), (6, y6), (7, y7), (8, y8), (9, y9), (10, y10)]) (x0 x1 x2 x3 x4 x5 x6 x7 x8 x9 x10 : Int) (h0 : a.eval y0 = .int .i64 x0) (h1 : a.eval y1 = .int .i64 x1) (h2 : a.eval y2 = .int .i64 x2) (h3 : a.eval y3 = .int .i64 x3) (h4 : a.eval y4 = .int .i64 x4) (h5 : a.eval y5 = .int .i64 x5) (h6 : a.eval y6 = .int .i64 x6) (h7 : a.eval y7 = .int .i64 x7) (h8 : a.eval y8 = .int .i64 x8) (h9 : a.eval y9 = .int .i64 x9) (h10 : a.eval y10 = .int .i64 x10) : YieldsIf Tryd.prog ops S op (.agg (nArr [x0, x1, x2, x3, x4, x5, x6, x7, x8, x9, x10])) a :=
  .inl ⟨hw, fun w _ => by
    have hf : Tryd.prog.built 74 ((#[(0, y0), (1, y1), (2, y2), (3, y3), (4, y4), (5, y5), (6, y6), (7, y7), (8, y8), (9, y9), (10, y10)] : Array (Nat × Operand)).map fun (i, x) => (i, a.eval x)).toList = some (nArr [x0, x1, x2, x3, x4, x5, x6, x7, x8, x9, x10]) := by
      simp only [List.map_toArray, List.map_cons, List.map_nil, h0, h1, h2, h3, h4, h5, h6, h7, h8, h9, h10]; exact built74 x0 x1 x2 x3 x4 x5 x6 x7 x8 x9 x10
    unfold execOp
    simp only [ho, Sem.run_bind, run_build w 74 _ (nArr [x0, x1, x2, x3, x4, x5, x6, x7, x8, x9, x10]) hf, Result.andThen_ok]
    rfl⟩
theorem ybd26 {ops : Array Oper} {S : World → Prop} {op : Oper} {a : Act} (hw : Region.wanted op (yielded ops a.tmps) = true) (ho : op.op = .build 26 #[]) : YieldsIf Tryd.prog ops S op (.agg (arr zeros)) a :=
  .inl ⟨hw, fun w _ => by
    have hf : Tryd.prog.built 26 ((#[] : Array (Nat × Operand)).map fun (i, x) => (i, a.eval x)).toList = some (arr zeros) := by
      simp only [List.map_toArray, List.map_nil]; exact built41
    unfold execOp
    simp only [ho, Sem.run_bind, run_build w 26 _ (arr zeros) hf, Result.andThen_ok]
    rfl⟩
theorem res74 {fn : Func} {p : Tmp} (hf : fn.results = #[.cell p 74]) (tmps : Array Value) (w : World) (g : Nat) (t' : TypeId) (l : List Int) (hl : l.length = 11)
    (hp : tmps.getD p undef = .pointer (some ⟨g, 0, none⟩)) (hg : Row w g t' (nArr l)) : (results fn tmps).run Tryd.prog w = .ok (.agg (nArr l)) w :=
  results_cell_row hf tmps w g t' (nArr l) (0, 0) _ hp hg Tryd.underlying74 rfl (by rw [nArr_size, hl]; exact size74)
theorem layV_new (w : World) (v : List Int) : Row ((w.alloc (.cells (nArr zer11) 74)).setRow w.heap.size (nArr v)) w.heap.size 74 (nArr v) := (Row.new w 74 _).setRow _
theorem layV_below (w : World) (v : List Int) : Below w.heap.size w ((w.alloc (.cells (nArr zer11) 74)).setRow w.heap.size (nArr v)) := below_setRow' (balloc (Below.refl w.heap.size w) _) (Nat.le_refl _) _
set_option maxRecDepth 100000 in
set_option maxHeartbeats 1600000 in
theorem valuesOf_any (m : Mv) (w : World) (hr : Adr m.ro) : Calls Tryd.prog 32 #[.agg m.cs] w fun e w' => e = .returned (.agg (nArr m.p.vs)) ∧ Below w.heap.size w w' := by
  have hz := zvl
  have hq := eq41 m.ro zeros hr.1 adr_zeros.1
  have HA := hid hr
  have R1 := hid ((Row.new w 29 m.cs).alloc (.cells (nArr zer11) 74))
  have Z1 := hid (Row.new (w.alloc (.cells m.cs 29)) 74 (nArr zer11))
  have B1 := hid (balloc (balloc (Below.refl w.heap.size w) (.cells m.cs 29)) (.cells (nArr zer11) 74))
  have hs1 : (w.alloc (.cells m.cs 29)).heap.size = w.heap.size + 1 := World.size_alloc ..
  rw [hs1] at Z1
  clear hr
  go_enter Tryd.func32, Tryd.ntmps32
  go_upto_region 1 with fail
  generalize hw1 : (w.alloc (.cells m.cs 29)).alloc (.cells (nArr zer11) 74) = w1 at *
  generalize hg0 : w.heap.size = g0 at *
  clear hw1 hs1 hz
  refine wp_region_held_drew (S := fun w' => w'.cell? ⟨g0, 1, none⟩ = some (.int .i64 m.i) ∧ (w'.cell? ⟨g0, 2, none⟩ = some (.int .i64 m.v) ∧ (w'.cell? ⟨g0, 3, none⟩ = some (.int .i64 m.r) ∧ (w'.cell? ⟨g0, 4, none⟩ = some (.int .i64 m.mo) ∧ (w'.cell? ⟨g0, 5, none⟩ = some (.int .i64 m.pf) ∧ (w'.cell? ⟨g0, 6, none⟩ = some (.int .i64 m.d) ∧ (w'.cell? ⟨g0, 7, none⟩ = some (.int .i64 m.sq) ∧ (w'.cell? ⟨g0, 8, none⟩ = some (.int .i64 m.st) ∧ (w'.cell? ⟨g0, 9, none⟩ = some (.bool m.g) ∧ (w'.cell? ⟨g0, 10, none⟩ = some (.bool m.a) ∧ (Hid (Row w' g0 29 m.cs)))))))))))) (by kernel_rfl) ?_ (fun hHeld => ?_)
  · exact ⟨(R1.out.cell 1).trans m.at1, (R1.out.cell 2).trans m.at2, (R1.out.cell 3).trans m.at3, (R1.out.cell 4).trans m.at4, (R1.out.cell 5).trans m.at5, (R1.out.cell 6).trans m.at6, (R1.out.cell 7).trans m.at7, (R1.out.cell 8).trans m.at8, (R1.out.cell 9).trans m.at9, (R1.out.cell 10).trans m.at10, R1.out⟩
  refine wpAnyH_take (i := 0) (oi := _) (v := ?va0) rfl (by kernel_rfl) (by kernel_rfl) (by kernel_rfl) (fun _ _ _ h => h) (Or.inl ⟨by rfl, ?hya0⟩) (by assumption) ?resta0
  case hya0 => (intro w hSw; (try dsimp only at hSw); go_split_ands; go_simp; try (with_reducible rfl))
  try simp only [List.getElem_toArray, List.getElem_cons_zero, List.getElem_cons_succ, Act.put, List.setIfInBounds_toArray, List.set_cons_zero, List.set_cons_succ]
  refine wpAnyH_take (i := 1) (oi := _) (v := ?va1) rfl (by kernel_rfl) (by kernel_rfl) (by kernel_rfl) (fun _ _ _ h => h) (Or.inl ⟨by rfl, ?hya1⟩) (by assumption) ?resta1
  case hya1 => (intro w hSw; (try dsimp only at hSw); go_split_ands; go_simp; try (with_reducible rfl))
  try simp only [List.getElem_toArray, List.getElem_cons_zero, List.getElem_cons_succ, Act.put, List.setIfInBounds_toArray, List.set_cons_zero, List.set_cons_succ]
  refine wpAnyH_take (i := 2) (oi := _) (v := ?va2) rfl (by kernel_rfl) (by kernel_rfl) (by kernel_rfl) (fun _ _ _ h => h) (Or.inl ⟨by rfl, ?hya2⟩) (by assumption) ?resta2
  case hya2 => (intro w hSw; (try dsimp only at hSw); go_split_ands; go_simp; try (with_reducible rfl))
  try simp only [List.getElem_toArray, List.getElem_cons_zero, List.getElem_cons_succ, Act.put, List.setIfInBounds_toArray, List.set_cons_zero, List.set_cons_succ]
  refine wpAnyH_take (i := 3) (oi := _) (v := ?va3) rfl (by kernel_rfl) (by kernel_rfl) (by kernel_rfl) (fun _ _ _ h => h) (Or.inl ⟨by rfl, ?hya3⟩) (by assumption) ?resta3
  case hya3 => (intro w hSw; (try dsimp only at hSw); go_split_ands; go_simp; try (with_reducible rfl))
  try simp only [List.getElem_toArray, List.getElem_cons_zero, List.getElem_cons_succ, Act.put, List.setIfInBounds_toArray, List.set_cons_zero, List.set_cons_succ]
  refine wpAnyH_take (i := 4) (oi := _) (v := ?va4) rfl (by kernel_rfl) (by kernel_rfl) (by kernel_rfl) (fun _ _ _ h => h) (Or.inl ⟨by rfl, ?hya4⟩) (by assumption) ?resta4
  case hya4 => (intro w hSw; (try dsimp only at hSw); go_split_ands; go_simp; try (with_reducible rfl))
  try simp only [List.getElem_toArray, List.getElem_cons_zero, List.getElem_cons_succ, Act.put, List.setIfInBounds_toArray, List.set_cons_zero, List.set_cons_succ]
  refine wpAnyH_take (i := 5) (oi := _) (v := ?va5) rfl (by kernel_rfl) (by kernel_rfl) (by kernel_rfl) (fun _ _ _ h => h) (Or.inl ⟨by rfl, ?hya5⟩) (by assumption) ?resta5
  case hya5 => (intro w hSw; (try dsimp only at hSw); go_split_ands; go_simp; try (with_reducible rfl))
  try simp only [List.getElem_toArray, List.getElem_cons_zero, List.getElem_cons_succ, Act.put, List.setIfInBounds_toArray, List.set_cons_zero, List.set_cons_succ]
  refine wpAnyH_take (i := 6) (oi := _) (v := ?va6) rfl (by kernel_rfl) (by kernel_rfl) (by kernel_rfl) (fun _ _ _ h => h) (Or.inl ⟨by rfl, ?hya6⟩) (by assumption) ?resta6
  case hya6 => (intro w hSw; (try dsimp only at hSw); go_split_ands; go_simp; try (with_reducible rfl))
  try simp only [List.getElem_toArray, List.getElem_cons_zero, List.getElem_cons_succ, Act.put, List.setIfInBounds_toArray, List.set_cons_zero, List.set_cons_succ]
  refine wpAnyH_take (i := 7) (oi := _) (v := ?va7) rfl (by kernel_rfl) (by kernel_rfl) (by kernel_rfl) (fun _ _ _ h => h) (Or.inl ⟨by rfl, ?hya7⟩) (by assumption) ?resta7
  case hya7 => (intro w hSw; (try dsimp only at hSw); go_split_ands; go_simp; try (with_reducible rfl))
  try simp only [List.getElem_toArray, List.getElem_cons_zero, List.getElem_cons_succ, Act.put, List.setIfInBounds_toArray, List.set_cons_zero, List.set_cons_succ]
  refine wpAnyH_take (i := 9) (oi := _) (v := ?va9) rfl (by kernel_rfl) (by kernel_rfl) (by kernel_rfl) (fun _ _ _ h => h) (Or.inl ⟨by rfl, ?hya9⟩) (by assumption) ?resta9
  case hya9 => (intro w hSw; (try dsimp only at hSw); go_split_ands; go_simp; try (with_reducible rfl))
  try simp only [List.getElem_toArray, List.getElem_cons_zero, List.getElem_cons_succ, Act.put, List.setIfInBounds_toArray, List.set_cons_zero, List.set_cons_succ]
  refine wpAnyH_take (i := 10) (oi := _) (v := ?va10) rfl (by kernel_rfl) (by kernel_rfl) (by kernel_rfl) (fun _ _ _ h => h) (Or.inl ⟨by rfl, ?hya10⟩) (by assumption) ?resta10
  case hya10 => (intro w hSw; (try dsimp only at hSw); go_split_ands; go_simp; try (with_reducible rfl))
  try simp only [List.getElem_toArray, List.getElem_cons_zero, List.getElem_cons_succ, Act.put, List.setIfInBounds_toArray, List.set_cons_zero, List.set_cons_succ]
  refine wpAnyH_take (i := 11) (oi := _) (v := ?va11) rfl (by kernel_rfl) (by kernel_rfl) (by kernel_rfl) (fun _ _ _ h => h) (Or.inl ⟨by rfl, ?hya11⟩) (by assumption) ?resta11
  case hya11 => (intro w hSw; (try dsimp only at hSw); go_split_ands; go_simp; try (with_reducible rfl))
  try simp only [List.getElem_toArray, List.getElem_cons_zero, List.getElem_cons_succ, Act.put, List.setIfInBounds_toArray, List.set_cons_zero, List.set_cons_succ]
  refine wpAnyH_take (i := 12) (oi := _) (v := ?va12) rfl (by kernel_rfl) (by kernel_rfl) (by kernel_rfl) (fun _ _ _ h => h) (Or.inl ⟨by rfl, ?hya12⟩) (by assumption) ?resta12
  case hya12 => (intro w hSw; (try dsimp only at hSw); go_split_ands; go_simp; try (with_reducible rfl))
  try simp only [List.getElem_toArray, List.getElem_cons_zero, List.getElem_cons_succ, Act.put, List.setIfInBounds_toArray, List.set_cons_zero, List.set_cons_succ]
  refine wpAnyH_take (i := 13) (oi := _) (v := ?va13) rfl (by kernel_rfl) (by kernel_rfl) (by kernel_rfl) (fun _ _ _ h => h) (Or.inl ⟨by rfl, ?hya13⟩) (by assumption) ?resta13
  case hya13 => (intro w hSw; (try dsimp only at hSw); go_split_ands; go_simp; try (with_reducible rfl))
  try simp only [List.getElem_toArray, List.getElem_cons_zero, List.getElem_cons_succ, Act.put, List.setIfInBounds_toArray, List.set_cons_zero, List.set_cons_succ]
  refine wpAnyH_take (i := 14) (oi := _) (v := ?va14) rfl (by kernel_rfl) (by kernel_rfl) (by kernel_rfl) (fun _ _ _ h => h) (Or.inl ⟨by rfl, ?hya14⟩) (by assumption) ?resta14
  case hya14 => (intro w hSw; (try dsimp only at hSw); go_split_ands; go_simp; try (with_reducible rfl))
  try simp only [List.getElem_toArray, List.getElem_cons_zero, List.getElem_cons_succ, Act.put, List.setIfInBounds_toArray, List.set_cons_zero, List.set_cons_succ]
  refine wpAnyH_take (i := 15) (oi := _) (v := ?va15) rfl (by kernel_rfl) (by kernel_rfl) (by kernel_rfl) (fun _ _ _ h => h) (Or.inl ⟨by rfl, ?hya15⟩) (by assumption) ?resta15
  case hya15 => (intro w hSw; (try dsimp only at hSw); go_split_ands; go_simp; try (with_reducible rfl))
  try simp only [List.getElem_toArray, List.getElem_cons_zero, List.getElem_cons_succ, Act.put, List.setIfInBounds_toArray, List.set_cons_zero, List.set_cons_succ]
  refine wpAnyH_take (i := 16) (oi := _) (v := ?va16) rfl (by kernel_rfl) (by kernel_rfl) (by kernel_rfl) (fun _ _ _ h => h) (Or.inl ⟨by rfl, ?hya16⟩) (by assumption) ?resta16
  case hya16 => (intro w hSw; (try dsimp only at hSw); go_split_ands; go_simp; try (with_reducible rfl))
  try simp only [List.getElem_toArray, List.getElem_cons_zero, List.getElem_cons_succ, Act.put, List.setIfInBounds_toArray, List.set_cons_zero, List.set_cons_succ]
  refine wpAnyH_take (i := 18) (oi := _) (v := ?va18) rfl (by kernel_rfl) (by kernel_rfl) (by kernel_rfl) (fun _ _ _ h => h) (Or.inl ⟨by rfl, ?hya18⟩) (by assumption) ?resta18
  case hya18 => (intro w hSw; (try dsimp only at hSw); go_split_ands; go_simp; try (with_reducible rfl))
  try simp only [List.getElem_toArray, List.getElem_cons_zero, List.getElem_cons_succ, Act.put, List.setIfInBounds_toArray, List.set_cons_zero, List.set_cons_succ]
  refine wpAnyH_take (i := 19) (oi := _) (v := ?va19) rfl (by kernel_rfl) (by kernel_rfl) (by kernel_rfl) (fun _ _ _ h => h) (Or.inl ⟨by rfl, ?hya19⟩) (by assumption) ?resta19
  case hya19 => (intro w hSw; (try dsimp only at hSw); go_split_ands; go_simp; try (with_reducible rfl))
  try simp only [List.getElem_toArray, List.getElem_cons_zero, List.getElem_cons_succ, Act.put, List.setIfInBounds_toArray, List.set_cons_zero, List.set_cons_succ]
  refine wpAnyH_take (i := 20) (oi := _) (v := ?va20) rfl (by kernel_rfl) (by kernel_rfl) (by kernel_rfl) (fun _ _ _ h => h) (Or.inl ⟨by rfl, ?hya20⟩) (by assumption) ?resta20
  case hya20 => (intro w hSw; (try dsimp only at hSw); go_split_ands; go_simp; try (with_reducible rfl))
  try simp only [List.getElem_toArray, List.getElem_cons_zero, List.getElem_cons_succ, Act.put, List.setIfInBounds_toArray, List.set_cons_zero, List.set_cons_succ]
  refine wpAnyH_take (i := 21) (oi := _) (v := ?va21) rfl (by kernel_rfl) (by kernel_rfl) (by kernel_rfl) (fun _ _ _ h => h) (Or.inl ⟨by rfl, ?hya21⟩) (by assumption) ?resta21
  case hya21 => (intro w hSw; (try dsimp only at hSw); go_split_ands; go_simp; try (with_reducible rfl))
  try simp only [List.getElem_toArray, List.getElem_cons_zero, List.getElem_cons_succ, Act.put, List.setIfInBounds_toArray, List.set_cons_zero, List.set_cons_succ]
  refine wpAnyH_take (i := 22) (oi := _) (v := ?va22) rfl (by kernel_rfl) (by kernel_rfl) (by kernel_rfl) (fun _ _ _ h => h) (Or.inl ⟨by rfl, ?hya22⟩) (by assumption) ?resta22
  case hya22 => (intro w hSw; (try dsimp only at hSw); go_split_ands; go_simp; try (with_reducible rfl))
  try simp only [List.getElem_toArray, List.getElem_cons_zero, List.getElem_cons_succ, Act.put, List.setIfInBounds_toArray, List.set_cons_zero, List.set_cons_succ]
  refine wpAnyH_take (i := 23) (oi := _) (v := .agg (arr m.ro)) rfl (by kernel_rfl) (by kernel_rfl) (by kernel_rfl) (fun _ _ _ h => h) (yld41 (by rfl) _ rfl g0 11 rfl m.ro HA.out (fun w h => by have := h.2.2.2.2.2.2.2.2.2.2.out.part.mvA HA.out; simpa using this)) (by assumption) ?_
  try simp only [List.getElem_toArray, List.getElem_cons_zero, List.getElem_cons_succ, Act.put, List.setIfInBounds_toArray, List.set_cons_zero, List.set_cons_succ]
  refine wpAnyH_take (i := 24) (oi := _) (v := .agg (arr zeros)) rfl (by kernel_rfl) (by kernel_rfl) (by kernel_rfl) (fun _ _ _ h => h) (ybd26 (by rfl) rfl) (by assumption) ?_
  try simp only [List.getElem_toArray, List.getElem_cons_zero, List.getElem_cons_succ, Act.put, List.setIfInBounds_toArray, List.set_cons_zero, List.set_cons_succ]
  refine wpAnyH_take (i := 25) (oi := _) (v := ?va25) rfl (by kernel_rfl) (by kernel_rfl) (by kernel_rfl) (fun _ _ _ h => h) (Or.inl ⟨by rfl, ?hya25⟩) (by assumption) ?resta25
  case hya25 => (intro w hSw; (try dsimp only at hSw); go_split_ands; go_simp; try (with_reducible rfl))
  try simp only [List.getElem_toArray, List.getElem_cons_zero, List.getElem_cons_succ, Act.put, List.setIfInBounds_toArray, List.set_cons_zero, List.set_cons_succ]
  refine wpAnyH_ready (rs := [8]) (by kernel_rfl) (by simp) ?_
  refine AllReadyH.cons (o := _) rfl (fun K hK => ?_) AllReadyH.nil
  go_simp
  refine (flag_any m.g _).mono ?_
  rintro e w2 ⟨rfl, rfl⟩
  have R2 : Hid (Row w1.drew g0 29 m.cs) := R1
  have Z2 : Hid (Row w1.drew (g0 + 1) 74 (nArr zer11)) := Z1
  have B2 : Hid (Below g0 w w1.drew) := hid (B1.out.trans ⟨rfl, rfl, rfl, Nat.le_refl _, fun _ _ => rfl⟩)
  generalize w1.drew = w2 at *
  go_wp2_with fail
  refine hK.out _ _ ⟨(R2.out.cell 1).trans m.at1, (R2.out.cell 2).trans m.at2, (R2.out.cell 3).trans m.at3, (R2.out.cell 4).trans m.at4, (R2.out.cell 5).trans m.at5, (R2.out.cell 6).trans m.at6, (R2.out.cell 7).trans m.at7, (R2.out.cell 8).trans m.at8, (R2.out.cell 9).trans m.at9, (R2.out.cell 10).trans m.at10, R2.out⟩ (fun hHeld => ?_)
  clear hK K
  try simp only [List.getElem_toArray, List.getElem_cons_zero, List.getElem_cons_succ, Act.put, List.setIfInBounds_toArray, List.set_cons_zero, List.set_cons_succ]
  refine wpAnyH_ready (rs := [17]) (by kernel_rfl) (by simp) ?_
  refine AllReadyH.cons (o := _) rfl (fun K hK => ?_) AllReadyH.nil
  go_simp
  refine (flag_any m.a _).mono ?_
  rintro e w3 ⟨rfl, rfl⟩
  go_wp2_with fail
  refine hK.out _ _ ⟨(R2.out.cell 1).trans m.at1, (R2.out.cell 2).trans m.at2, (R2.out.cell 3).trans m.at3, (R2.out.cell 4).trans m.at4, (R2.out.cell 5).trans m.at5, (R2.out.cell 6).trans m.at6, (R2.out.cell 7).trans m.at7, (R2.out.cell 8).trans m.at8, (R2.out.cell 9).trans m.at9, (R2.out.cell 10).trans m.at10, R2.out⟩ (fun hHeld => ?_)
  clear hK K
  try simp only [List.getElem_toArray, List.getElem_cons_zero, List.getElem_cons_succ, Act.put, List.setIfInBounds_toArray, List.set_cons_zero, List.set_cons_succ]
  refine wpAnyH_ready (rs := [26]) (by kernel_rfl) (by simp) ?_
  refine AllReadyH.cons (o := _) rfl (fun K hK => ?_) AllReadyH.nil
  go_simp
  refine (flag_any _ _).mono ?_
  rintro e w3 ⟨rfl, rfl⟩
  go_wp2_with fail
  refine hK.out _ _ ⟨(R2.out.cell 1).trans m.at1, (R2.out.cell 2).trans m.at2, (R2.out.cell 3).trans m.at3, (R2.out.cell 4).trans m.at4, (R2.out.cell 5).trans m.at5, (R2.out.cell 6).trans m.at6, (R2.out.cell 7).trans m.at7, (R2.out.cell 8).trans m.at8, (R2.out.cell 9).trans m.at9, (R2.out.cell 10).trans m.at10, R2.out⟩ (fun hHeld => ?_)
  clear hK K
  try simp only [List.getElem_toArray, List.getElem_cons_zero, List.getElem_cons_succ, Act.put, List.setIfInBounds_toArray, List.set_cons_zero, List.set_cons_succ]
  refine wpAnyH_take (i := 27) (oi := _) (v := .agg (nArr m.p.vs)) rfl (by kernel_rfl) (by kernel_rfl) (by kernel_rfl) (fun _ _ _ h => h) (ybd74 (by rfl) _ _ _ _ _ _ _ _ _ _ _ rfl _ _ _ _ _ _ _ _ _ _ _ rfl rfl rfl rfl rfl rfl rfl rfl rfl rfl rfl) (by assumption) ?_
  try simp only [List.getElem_toArray, List.getElem_cons_zero, List.getElem_cons_succ, Act.put, List.setIfInBounds_toArray, List.set_cons_zero, List.set_cons_succ]
  refine wpAnyH_ready (rs := [28]) (by kernel_rfl) (by simp) ?_
  refine AllReadyH.cons (o := _) rfl (fun K hK => ?_) AllReadyH.nil
  refine step_st rfl 74 _ _ rfl (g0 + 1) (nArr m.p.vs) rfl rfl 74 (nArr zer11) (by exact Z2.out) (by rw [nArr_size]; exact size74) rfl (nArr_one _) ?_
  have R3 := hid (R2.out.rowOther (g0 + 1) (nArr m.p.vs) (by omega))
  have Z3 := hid (Z2.out.setRow (nArr m.p.vs))
  have B3 := hid (below_setRow' B2.out (g := g0 + 1) (by omega) (nArr m.p.vs))
  refine hK.out _ _ ⟨(R3.out.cell 1).trans m.at1, (R3.out.cell 2).trans m.at2, (R3.out.cell 3).trans m.at3, (R3.out.cell 4).trans m.at4, (R3.out.cell 5).trans m.at5, (R3.out.cell 6).trans m.at6, (R3.out.cell 7).trans m.at7, (R3.out.cell 8).trans m.at8, (R3.out.cell 9).trans m.at9, (R3.out.cell 10).trans m.at10, R3.out⟩ (fun hHeld => ?_)
  clear hK K
  try simp only [List.getElem_toArray, List.getElem_cons_zero, List.getElem_cons_succ, Act.put, List.setIfInBounds_toArray, List.set_cons_zero, List.set_cons_succ]
  refine wpAnyH_done (by kernel_rfl) ?_ _
  go_wp2_with fail
  exact bodyPost_ret (res74 rfl _ _ (g0 + 1) 74 m.p.vs rfl rfl Z3.out) rfl ⟨rfl, by rw [hg0]; exact B3.out⟩
end Go.Proofs.YtbfjkhafdkhhmaaDoor

namespace Go.Proofs.YtbfjkhafdkhhmaaDoor
open Go.ChangeShapes Go.WideShapes Go.ChangeAt Go.RowKit Go.Deep
set_option linter.unusedVariables false
set_option linter.unusedSimpArgs false

theorem allMay1_any {B : Nat} (o : Ov) (g : Nat) (c : Int) (w : World) (hc : w.cell? ⟨g, 0, none⟩ = some (.int .i64 c)) (hV : CV B w) :
    Calls Tryd.prog 91 #[.agg o.cs, .pointer (some ⟨g, 0, none⟩)] w fun e w' => e = .returned (.bool (!mayB c o.k)) ∧ Below w.heap.size w w' := by
  have HR0 := hid (Row.new w 54 o.cs)
  have B0 := hid (balloc (Below.refl w.heap.size w) (.cells o.cs 54))
  have V0 := hid (hV.below B0.out)
  have C0 := hid ((B0.out.cell (p := ⟨g, 0, none⟩) (World.block_lt_of_cell? w _ hc)).trans hc)
  clear hV hc
  go_enter Tryd.func91, Tryd.ntmps91
  go_upto_region 1 with fail
  generalize hw1 : w.alloc (.cells o.cs 54) = w1 at *
  have c0 := (HR0.out.cell 0).trans o.at0
  have d0 := C0.out
  clear hw1
  go_wp2_with fail
  refine (may_any c o.k _ V0.out).mono ?_
  rintro e w1 ⟨rfl, rfl⟩
  go_wp2_with fail
  go_ret
  exact ⟨rfl, B0.out⟩
/-- Where is the first option that may not be? -/
def notAt (c : Int) (L : List Ov) (r : Int) : Prop := (r = -1 ∧ ∀ o ∈ L, mayB c o.k = true) ∨ ∃ i : Nat, i < L.length ∧ r = i ∧ mayB c (L.getD i Ov.zero).k = false
set_option maxRecDepth 100000 in
set_option maxHeartbeats 800000 in
theorem indexMay_any {B : Nat} (a : Option Addr) (n cap : Nat) (L : List Ov) (g : Nat) (c : Int) (w : World) (hL : Opts w a n cap L) (hc : w.cell? ⟨g, 0, none⟩ = some (.int .i64 c)) (hV : CV B w) :
    Calls Tryd.prog 71 #[.slice a n cap, .func (.func 91) #[] #[.pointer (some ⟨g, 0, none⟩)]] w fun e w' => (∃ r : Int, e = .returned (.int .i64 r) ∧ Hid (notAt c L r)) ∧ Below w.heap.size w w' := by
  have k1 := Nat.le_trans hL.le hL.max
  unfold maxLen at k1
  have HL := hid hL
  have HV := hid hV
  have HC := hid hc
  have ll := hid hL.len
  clear hL hV hc
  go_enter Tryd.func71, Tryd.ntmps71
  go_wp2_with fail
  go_loopw [8] (fun i wr => ∃ j : Nat, j ≤ n ∧ i = .int .i64 j ∧ Hid (∀ i, i < j → mayB c (L.getD i Ov.zero).k = true) ∧ Hid (Below w.heap.size w wr)) (fun i _ => n - (intOf i).toNat)
  case atStart => exact ⟨0, Nat.zero_le _, rfl, (fun i hi => by omega), Below.refl _ _⟩
  case round =>
    obtain ⟨j, hj, rfl, hno, hb⟩ := hrel
    by_cases hlt : j < n
    · have hlt' : (j : Int) < (n : Int) := by omega
      obtain ⟨b1, off1, rfl, hp1⟩ := (HL.out.below hb.out).cell j hlt
      have ok1 := (HL.out.below hb.out).at j hlt
      generalize hoo : L.getD j Ov.zero = o at *
      have HOO := hid hoo
      have P1 := hid hp1
      have A1 := hid ok1.ad
      have V1 := hid (HV.out.below hb.out)
      have C1 := hid ((hb.out.cell (p := ⟨g, 0, none⟩) (World.block_lt_of_cell? w _ HC.out)).trans HC.out)
      clear hp1 ok1 hoo
      go_wp2_with (refine ldOo o43 _ rfl rfl _ _ rfl o A1.out P1.out ?_)
      refine (allMay1_any o g c _ C1.out V1.out).mono ?_
      rintro e w2 ⟨rfl, hb2⟩
      have B2 := hid (bthen hb.out hb2)
      clear hb2
      cases hh : mayB c o.k
      · go_wp2_with fail
        go_ret
        refine ⟨⟨_, rfl, .inr ⟨j, by rw [ll.out]; exact hlt, rfl, by rw [HOO.out]; exact hh⟩⟩, B2.out⟩
      · go_wp2_with fail
        go_roundw
        case rel =>
          refine ⟨j + 1, by omega, by go_num, ?_, B2.out⟩
          intro i hi
          by_cases hij : i = j
          · rw [hij, HOO.out]; exact hh
          · exact hno.out i (by omega)
        case measure => simp [intOf]; omega
    · obtain rfl : j = n := by omega
      go_wp2_with fail
      go_ret
      refine ⟨⟨_, rfl, .inl ⟨rfl, fun o ho => ?_⟩⟩, hb.out⟩
      obtain ⟨i, hi, rfl⟩ := List.mem_iff_getElem.1 ho
      have := hno.out i (by rw [← ll.out]; exact hi)
      simpa [hi] using this
theorem notAt_all {c : Int} {L : List Ov} {r : Int} (h : notAt c L r) : decide (0 ≤ r) = !allM c (pos L) := by
  rcases h with ⟨rfl, h⟩ | ⟨i, hi, rfl, h⟩
  · have : allM c (pos L) = true := by simp [allM, pos]; exact h
    rw [this]; rfl
  · have : allM c (pos L) = false := by
      rw [allM, List.all_eq_false]
      refine ⟨(L.getD i Ov.zero).p, ?_, by simpa [Ov.p] using h⟩
      simp [pos, hi]
      exact ⟨L[i], List.getElem_mem _, rfl⟩
    rw [this]; simp
theorem containsMay_any {B : Nat} (a : Option Addr) (n cap : Nat) (L : List Ov) (g : Nat) (c : Int) (w : World) (hL : Opts w a n cap L) (hc : w.cell? ⟨g, 0, none⟩ = some (.int .i64 c)) (hV : CV B w) :
    Calls Tryd.prog 90 #[.slice a n cap, .func (.func 91) #[] #[.pointer (some ⟨g, 0, none⟩)]] w fun e w' => e = .returned (.bool (!allM c (pos L))) ∧ Below w.heap.size w w' := by
  have HL := hid hL
  have HV := hid hV
  have HC := hid hc
  clear hL hV hc
  go_enter Tryd.func90, Tryd.ntmps90
  go_wp2_with fail
  refine (indexMay_any a n cap L g c _ HL.out HC.out HV.out).mono ?_
  rintro e w1 ⟨⟨r, rfl, hr⟩, hb⟩
  have HB := hid hb
  have HR := hid (notAt_all hr.out)
  clear hr hb
  go_wp2_with fail
  go_ret
  exact ⟨ret_bool HR.out, HB.out⟩
theorem allMay_any {B : Nat} (c : Int) (a : Option Addr) (n cap : Nat) (L : List Ov) (w : World) (hL : Opts w a n cap L) (hV : CV B w) :
    Calls Tryd.prog 77 #[.int .i64 c, .slice a n cap] w fun e w' => e = .returned (.bool (allM c (pos L))) ∧ Below w.heap.size w w' := by
  have hmf : ∀ (fn : Fn) (first cap : Array Value) (w : World), (Instr.makeFunc fn first cap).run Tryd.prog w = .ok (.func fn first cap) w := fun _ _ _ _ => rfl
  have C0 := hid (((Row.new w 3 #[.int .i64 c]).cell 0).trans rfl)
  have B0 := hid (balloc (Below.refl w.heap.size w) (.cells #[.int .i64 c] 3))
  have L0 := hid (hL.below B0.out)
  have V0 := hid (hV.below B0.out)
  clear hL hV
  go_enter Tryd.func77, Tryd.ntmps77
  go_wp2_with fail
  generalize hw1 : w.alloc (.cells #[.int .i64 c] 3) = w1 at *
  clear hw1
  refine (containsMay_any a n cap L w.heap.size c _ L0.out C0.out V0.out).mono ?_
  rintro e w2 ⟨rfl, hb⟩
  have B2 := hid (bthen B0.out hb)
  clear hb
  go_wp2_with fail
  go_ret
  exact ⟨ret_bool (by simp), B2.out⟩
end Go.Proofs.YtbfjkhafdkhhmaaDoor

namespace Go.Proofs.YtbfjkhafdkhhmaaDoor
open Go.ChangeShapes Go.WideShapes Go.ChangeAt Go.RowKit Go.Deep
set_option linter.unusedVariables false
set_option linter.unusedSimpArgs false

/-- A message and values beside each other, in memory of the call's own. -/
structure FAt (W w : World) (g1 g3 : Nat) (m : Mv) (v : List Int) : Prop where
  r1 : Row w g1 29 m.cs
  r3 : Row w g3 74 (nArr v)
  len : v.length = 11
  below : Below W.heap.size W w
  ne : g1 ≠ g3
  lo : W.heap.size ≤ g3
section
variable {W w w' : World} {g1 g3 : Nat} {m : Mv} {v : List Int}
theorem FAt.on (h : FAt W w g1 g3 m v) (hb : Below w.heap.size w w') : FAt W w' g1 g3 m v := ⟨h.r1.below hb, h.r3.below hb, h.len, bthen h.below hb, h.ne, h.lo⟩
theorem FAt.set (h : FAt W w g1 g3 m v) (j : Nat) (x : Int) : FAt W (w.setCell ⟨g3, j, none⟩ (.int .i64 x)) g1 g3 m (v.set j x) :=
  ⟨h.r1.other ⟨g3, j, none⟩ _ h.ne, by have := h.r3.set j (.int .i64 x); rwa [nArr_set] at this, by rw [List.length_set]; exact h.len, bset j _ h.below h.lo, h.ne, h.lo⟩
theorem FAt.cell (h : FAt W w g1 g3 m v) (j : Nat) (hj : j < 11) : w.cell? ⟨g3, j, none⟩ = some (.int .i64 (v.getD j 0)) := (h.r3.cell j).trans (nArr_at v j (by rw [h.len]; exact hj))
end
theorem cKnown_any (m : Mv) (w : World) : Calls Tryd.prog 49 #[.agg m.cs] w fun e w' => e = .returned (.bool (codB m.c)) ∧ Below w.heap.size w w' := by
  have R1 := hid (Row.new w 29 m.cs)
  have B1 := hid (balloc (Below.refl w.heap.size w) (.cells m.cs 29))
  go_enter Tryd.func49, Tryd.ntmps49
  go_upto_region 1 with fail
  generalize hw1 : w.alloc (.cells m.cs 29) = w1 at *
  clear hw1
  have c0 := (R1.out.cell 0).trans m.at0
  go_wp2_with fail
  refine (isCode_any _ _).mono ?_
  rintro e w1 ⟨rfl, rfl⟩
  go_wp2_with fail
  go_ret
  exact ⟨rfl, B1.out⟩
theorem cAllowed_any {B : Nat} (m : Mv) (w : World) (hm : m.ok w) (hV : CV B w) : Calls Tryd.prog 52 #[.agg m.cs] w fun e w' => e = .returned (.bool (allM m.c m.p.o)) ∧ Below w.heap.size w w' := by
  have R1 := hid (Row.new w 29 m.cs)
  have B1 := hid (balloc (Below.refl w.heap.size w) (.cells m.cs 29))
  have L1 := hid (hm.o.below B1.out)
  have V1 := hid (hV.below B1.out)
  have HA := hid hm.ro
  clear hm hV
  go_enter Tryd.func52, Tryd.ntmps52
  go_upto_region 1 with fail
  generalize hw1 : w.alloc (.cells m.cs 29) = w1 at *
  clear hw1
  have c0 := (R1.out.cell 0).trans m.at0
  have c27 := (R1.out.cell 27).trans (Mv.at27 HA.out)
  go_wp2_with fail
  refine (allMay_any m.c m.oa m.on m.oc m.L _ L1.out V1.out).mono ?_
  rintro e w2 ⟨rfl, hb⟩
  have B2 := hid (bthen B1.out hb)
  clear hb
  go_wp2_with fail
  go_ret
  exact ⟨rfl, B2.out⟩
theorem clrP_succ (ps : List Pa) (v : List Int) (j : Nat) (h : j < ps.length) : clrP (ps.take (j + 1)) v = clrF (ps.getD j Pa.none).f (clrP (ps.take j) v) := by
  rw [clrP, clrP, List.take_succ_eq_append_getElem h, List.foldl_append]; simp [h]
theorem clrF_succ (fs : List Fl) (v : List Int) (j : Nat) (h : j < fs.length) : clrF (fs.take (j + 1)) v = (clrF (fs.take j) v).set (fs.getD j Fl.none).p 0 := by
  rw [clrF, clrF, List.take_succ_eq_append_getElem h, List.foldl_append]; simp [h]
theorem cpa_len : ∀ k, k < 4 → (cpa k).length ≤ 6 ∧ ∀ i, i < (cpa k).length → ((cpa k).getD i Pa.none).f.length ≤ 3 ∧ ∀ j, j < ((cpa k).getD i Pa.none).f.length → (((cpa k).getD i Pa.none).f.getD j Fl.none).p < 11 ∧ (((cpa k).getD i Pa.none).f.getD j Fl.none).s < 8 ∧ (((cpa k).getD i Pa.none).f.getD j Fl.none).l < 65536 := by decide
set_option maxRecDepth 100000 in
set_option maxHeartbeats 1600000 in
theorem cFormed_any {B : Nat} (m : Mv) (w : World) (hm : m.ok w) (hV : CV B w) (hc : codB m.c = true) : Calls Tryd.prog 50 #[.agg m.cs] w fun e w' => e = .returned (.bool (frmV m.c.toNat m.p.vs)) ∧ Below w.heap.size w w' := by
  have hz := zvl
  obtain ⟨k, hk, hk4⟩ := cod_nat hc
  have hB := hid hV.le
  have HV := hid hV
  have HA := hid hm.ro
  have HC := hid hk
  have HFr : Hid (frmV k m.p.vs = ((if crt k = true then (clrP (cpa k) m.p.vs).set 10 0 else clrP (cpa k) m.p.vs) == zer11)) := rfl
  have HK4 := hid hk4
  have hk4' : (k : Int) < 4 := by omega
  have R1 := hid (Row.new w 29 m.cs)
  have B1 := hid (balloc (Below.refl w.heap.size w) (.cells m.cs 29))
  have hL := hid (cpa_len k hk4)
  obtain ⟨pa, pn, pc, c1, hP0⟩ := hV.c.parts k hk4
  have hpn : pn ≤ 6 := by rw [← hP0.len]; exact hL.out.1
  have hPL := hid hP0.len
  have c2 := hid (hV.c.root k hk4)
  have C1 := hid c1
  have HP := hid hP0
  rw [show m.c.toNat = k by omega]
  clear hV hm hc hP0 c1 hk
  go_enter Tryd.func50, Tryd.ntmps50
  go_upto_region 1 with fail
  generalize hw1 : w.alloc (.cells m.cs 29) = w1 at *
  generalize hg1 : w.heap.size = g1 at *
  clear hw1
  go_wp2_with (refine ldM m29 _ rfl rfl _ _ rfl m HA.out R1.out.part ?_)
  refine (valuesOf_any m _ HA.out).mono ?_
  rintro e w2 ⟨rfl, hb2⟩
  have R2 := hid (R1.out.below hb2)
  have B2 : Hid (Below g1 w w2) := hid (B1.out.trans (hb2.mono (by rw [← hg1]; exact B1.out.size)))
  clear hb2 R1 B1
  have Z2 := hid (layV_new w2 m.p.vs)
  have BZ := hid (layV_below w2 m.p.vs)
  go_upto_region 2 with (refine st74 _ _ rfl rfl w2.heap.size m.p.vs rfl rfl rfl 74 zer11 rfl (Row.new w2 74 _) ?_)
  have F3 : Hid (FAt w ((w2.alloc (.cells (nArr zer11) 74)).setRow w2.heap.size (nArr m.p.vs)) g1 w2.heap.size m m.p.vs) :=
    ⟨R2.out.below BZ.out, Z2.out, rfl, by rw [hg1]; exact B2.out.trans (BZ.out.mono (by rw [← hg1]; exact B2.out.size)), Nat.ne_of_lt R2.out.lt, B2.out.size⟩
  generalize hw3 : (w2.alloc (.cells (nArr zer11) 74)).setRow w2.heap.size (nArr m.p.vs) = w3 at *
  generalize hg3 : w2.heap.size = g3 at *
  clear hw3 hg3 R2 B2 Z2 BZ hz
  have c0 := (F3.out.r1.cell 0).trans m.at0
  rw [HC.out] at c0
  have HT := hid (cells_below F3.out.below (by rw [hg1]; exact hB.out))
  have c1 : w3.cell? ⟨0, k * 4 + 1, none⟩ = _ := (HT.out _ _ HV.out.c.pos).trans C1.out
  go_wp2_with fail
  go_loopw [16] (fun i wr => ∃ (j : Nat) (v : List Int), j ≤ pn ∧ i = .int .i64 j ∧ Hid (v = clrP ((cpa k).take j) m.p.vs) ∧ Hid (FAt w wr g1 g3 m v)) (fun i _ => pn - (intOf i).toNat)
  case atStart => exact ⟨0, m.p.vs, Nat.zero_le _, rfl, rfl, F3.out⟩
  case round =>
    obtain ⟨j, v, hj, rfl, HVv, F⟩ := hrel
    clear c1 c0
    by_cases hlt : j < pn
    · have hlt' : (j : Int) < (pn : Int) := by omega
      obtain ⟨b, off, ha, hbB, hcz, fa, fn, fc, hcf, hF0⟩ := (HP.out.same (cells_below F.out.below (by rw [hg1]; exact hB.out))).cell j hlt
      have hjl : j < (cpa k).length := by rw [hPL.out]; exact hlt
      have hLj := hid (hL.out.2 j hjl)
      have HS := hid (clrP_succ (cpa k) m.p.vs j hjl)
      rw [← HVv.out] at HS
      generalize (cpa k).getD j Pa.none = p at *
      have HF := hid (hF0.same (w' := w) (fun b o h => ((cells_below F.out.below (by rw [hg1]; exact hB.out)) b o h).symm))
      have HFL := hid hF0.len
      have hfn : fn ≤ 3 := by rw [← HFL.out]; exact hLj.out.1
      subst ha
      clear hF0 hjl
      go_wp2_with fail
      have F4 := hid (F.out.on (balloc (Below.refl wr.heap.size wr) (.cells #[.int .i64 p.z, .slice fa fn fc] 108)))
      generalize wr.alloc (.cells #[.int .i64 p.z, .slice fa fn fc] 108) = w4 at *
      clear hcz hcf
      go_loopw [23] (fun i wr => ∃ (q : Nat) (u : List Int), q ≤ fn ∧ i = .int .i64 q ∧ Hid (u = clrF (p.f.take q) v) ∧ Hid (FAt w wr g1 g3 m u)) (fun i _ => fn - (intOf i).toNat)
      case atStart => exact ⟨0, v, Nat.zero_le _, rfl, rfl, F4.out⟩
      case round =>
        obtain ⟨q, u, hq, rfl, HUu, FF⟩ := hrel
        by_cases hqt : q < fn
        · have hqt' : (q : Int) < (fn : Int) := by omega
          obtain ⟨b2, off2, hfa, hb2, e0, e1, e2⟩ := (HF.out.same (cells_below FF.out.below (by rw [hg1]; exact hB.out))).cell q hqt
          have hqf : q < p.f.length := by rw [HFL.out]; exact hqt
          have hb3 := (hLj.out.2 q hqf).1
          have HS2 := hid (clrF_succ p.f v q hqf)
          rw [← HUu.out] at HS2
          generalize p.f.getD q Fl.none = f at *
          obtain ⟨fp, fs, fl⟩ := f
          simp only at e0 e1 e2 hb3 HS2
          have hp11' : (fp : Int) < 11 := by omega
          subst hfa
          have FO := hid (FF.out.on (balloc (Below.refl wr.heap.size wr) (.cells #[.int .i64 fp, .int .i64 fs, .int .i64 fl] 110)))
          have RF := hid (Row.new wr 110 #[.int .i64 fp, .int .i64 fs, .int .i64 fl])
          clear hqf
          go_upto_region 8 with fail
          generalize wr.alloc (.cells #[.int .i64 fp, .int .i64 fs, .int .i64 fl] 110) = w5 at *
          generalize wr.heap.size = g5 at *
          clear e0 e1 e2
          have d0 := (RF.out.cell 0).trans rfl
          have d3 := FO.out.cell fp hb3
          have f3 := FO.out.r3.frozen fp
          go_wp2_with fail
          go_roundw
          case rel => exact ⟨q + 1, u.set fp 0, by omega, by go_num, by rw [Hid, HS2.out], FO.out.set fp 0⟩
          case measure => simp [intOf]; omega
        · obtain rfl : q = fn := by omega
          rw [List.take_of_length_le (by rw [HFL.out]; exact Nat.le_refl _)] at HUu
          go_wp2_with fail
          go_roundw
          case rel => exact ⟨j + 1, u, by omega, by go_num, by rw [Hid, HS.out]; exact HUu.out, FF.out⟩
          case measure => simp [intOf]; omega
    · obtain rfl : j = pn := by omega
      rw [List.take_of_length_le (by rw [hPL.out]; exact Nat.le_refl _)] at HVv
      rw [← HVv.out] at HFr
      have HT2 := hid (cells_below F.out.below (by rw [hg1]; exact hB.out))
      have c0 := (F.out.r1.cell 0).trans m.at0
      rw [HC.out] at c0
      have c3 : wr.cell? ⟨0, k * 4 + 2, none⟩ = _ := (HT2.out _ _ HV.out.c.pos).trans c2.out
      cases hcr : crt k
      · rw [hcr] at c3
        rw [hcr, if_neg (by decide)] at HFr
        have hq := eq74 v zer11 F.out.len rfl
        go_wp2_with (first | (refine ld74 _ rfl rfl _ _ rfl v F.out.len F.out.r3.part ?_) | (refine bd74z rfl rfl ?_))
        go_ret
        exact ⟨ret_bool HFr.out.symm, F.out.below⟩
      · rw [hcr] at c3
        rw [hcr, if_pos rfl] at HFr
        have d10 := F.out.cell 10 (by decide)
        have f10 := F.out.r3.frozen 10
        have F5 := hid (F.out.set 10 0)
        go_upto_region 13 with fail
        generalize wr.setCell ⟨g3, 10, none⟩ (.int .i64 0) = w5 at *
        clear c3 d10 f10 c0
        have hq := eq74 (v.set 10 0) zer11 F5.out.len rfl
        go_wp2_with (first | (refine ld74 _ rfl rfl _ _ rfl (v.set 10 0) F5.out.len F5.out.r3.part ?_) | (refine bd74z rfl rfl ?_))
        go_ret
        exact ⟨ret_bool HFr.out.symm, F5.out.below⟩
end Go.Proofs.YtbfjkhafdkhhmaaDoor
