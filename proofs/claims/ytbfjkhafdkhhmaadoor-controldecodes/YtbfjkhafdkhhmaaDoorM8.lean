/- The values of a message: the array, valuesOf. · Reading: are all bytes that are left 0? · Reading: skipZeros. · Reading: takeParts. -/
import Derived.Test.YtbfjkhafdkhhmaaDoorM7
import Derived.Test.YtbfjkhafdkhhmaaDoorM5
namespace Go.Proofs.YtbfjkhafdkhhmaaDoor
open Go.ChangeShapes Go.WideShapes Go.ChangeAt Go.RowKit Go.Deep
set_option linter.unusedVariables false
set_option linter.unusedSimpArgs false

theorem nArr_size (l : List Int) : (nArr l).size = l.length := by simp [nArr]
theorem nArr_one (l : List Int) : (nArr l).all (·.oneCell') = true := by simp [nArr, Value.oneCell']
theorem nArr_set (l : List Int) (j : Nat) (x : Int) : (nArr l).setIfInBounds j (.int .i64 x) = nArr (l.set j x) := by
  apply Array.ext_getElem?
  intro i
  simp [nArr, Array.getElem?_setIfInBounds, List.getElem?_set]
theorem zvl : (#[.int .i64 0, .int .i64 0, .int .i64 0, .int .i64 0, .int .i64 0, .int .i64 0, .int .i64 0, .int .i64 0, .int .i64 0, .int .i64 0, .int .i64 0] : Array Value) = nArr zer11 := rfl
theorem vs_len (m : Pm) : m.vs.length = 11 := rfl
theorem size74 : (Tryd.prog.info? 74).map (·.size) = some 11 := by kernel_rfl
theorem built74 (x0 x1 x2 x3 x4 x5 x6 x7 x8 x9 x10 : Int) : Tryd.prog.built 74 [(0, .int .i64 x0), (1, .int .i64 x1), (2, .int .i64 x2), (3, .int .i64 x3), (4, .int .i64 x4), (5, .int .i64 x5), (6, .int .i64 x6), (7, .int .i64 x7), (8, .int .i64 x8), (9, .int .i64 x9), (10, .int .i64 x10)] = some (nArr [x0, x1, x2, x3, x4, x5, x6, x7, x8, x9, x10]) := by kernel_rfl
theorem built74z : Tryd.prog.built 74 [] = some (nArr zer11) := by kernel_rfl
theorem info3n : (Tryd.prog.info? 3).isSome = true := by kernel_rfl
theorem eqItems_n (w : World) (l m : List Int) (h : l.length = m.length) : ∀ (is : List Nat), (∀ i ∈ is, i < l.length) →
    (Op.eqItems 9999 3 (Tryd.prog.cellsOf 3) (nArr l) (nArr m) is).run Tryd.prog w = .ok (is.all fun i => l.getD i 0 == m.getD i 0) w
  | [], _ => by simp [Op.eqItems]
  | i :: is, hi => by
    have h1 : Tryd.prog.cellsOf 3 = 1 := by kernel_rfl
    have hil : i < l.length := hi i (by simp)
    have ih := eqItems_n w l m h is (fun j hj => hi j (by simp [hj]))
    have hp : ∀ l' : List Int, i < l'.length → (part 3 (nArr l') (i * 1)).run Tryd.prog w = .ok (.int .i64 (l'.getD i 0)) w := by
      intro l' hl'
      have hagg : (isAgg 3).run Tryd.prog w = .ok false w := by unfold isAgg; rw [Sem.run_bind, run_underlying Tryd.underlying3 w]; rfl
      simp only [part, Sem.run_bind, hagg, Result.andThen_ok, Bool.false_eq_true, if_false, Nat.mul_one, nArr_at l' i hl', Sem.run_pure]
    simp only [Op.eqItems, Sem.run_bind, h1, hp l hil, hp m (by omega), Result.andThen_ok, run_equalIn_int (P := Tryd.prog) w 9998 3 .i64 .i64 (l.getD i 0) (m.getD i 0) Tryd.underlying3]
    rw [h1] at ih
    cases hb : (l.getD i 0 == m.getD i 0)
    · simp only [List.all_cons, hb, Bool.false_and, Bool.not_false, if_true, Sem.run_pure]
    · simp only [List.all_cons, hb, Bool.true_and, Bool.not_true, Bool.false_eq_true, if_false]; exact ih
theorem eq74 (l m : List Int) (hl : l.length = 11) (hm : m.length = 11) : ∀ w : World, (Op.equalIn 10000 74 (.agg (nArr l)) (.agg (nArr m))).run Tryd.prog w = .ok (l == m) w := fun w => by
  obtain ⟨i, hi⟩ := Option.isSome_iff_exists.1 info3n
  rw [run_equalIn_array w 9999 (nArr l) (nArr m) Tryd.underlying74 hi, eqItems_n w l m (by omega) _ (by intro i hi; simp at hi; omega), all_eq l m 11 hl hm]
theorem ld74 {ops : Array Oper} {rest : List Oper} {o : Oper} {a : Act} {w : World} {Q : Exit → Act → World → Prop} (x : Operand) (ho : o.op = .load 74 x) (hw : Region.wanted o (yielded ops a.tmps) = true) (g off : Nat) (hx : a.eval x = .pointer (some ⟨g, off, none⟩)) (l : List Int) (hl : l.length = 11) (hg : Part w g off (nArr l))
    (h : wpList Tryd.prog ops Q rest (a.put o.dst (.agg (nArr l))) w) : wpList Tryd.prog ops Q (o :: rest) a w :=
  wp_ld 74 x ho hw g off hx (nArr l) _ Tryd.underlying74 rfl (by rw [nArr_size, hl]; exact size74) hg h
theorem st74 {ops : Array Oper} {rest : List Oper} {o : Oper} {a : Act} {w : World} {Q : Exit → Act → World → Prop} (x y : Operand) (ho : o.op = .store 74 x y) (hgd : o.guard = none) (g : Nat) (l : List Int) (hl : l.length = 11) (hx : a.eval x = .pointer (some ⟨g, 0, none⟩)) (hy : a.eval y = .agg (nArr l)) (t' : TypeId) (old : List Int) (hlo : old.length = 11) (hg : Row w g t' (nArr old))
    (hn : wpList Tryd.prog ops Q rest (a.put o.dst undef) (w.setRow g (nArr l))) : wpList Tryd.prog ops Q (o :: rest) a w :=
  wp_st 74 x y ho hgd g (nArr l) hx hy (by rw [nArr_size, hl]; exact size74) (nArr_one _) t' (nArr old) (by rw [nArr_size, nArr_size, hl, hlo]) hg hn
theorem bd74z {ops : Array Oper} {rest : List Oper} {o : Oper} {a : Act} {w : World} {Q : Exit → Act → World → Prop} (ho : o.op = .build 74 #[]) (hg : o.guard = none)
    (hn : wpList Tryd.prog ops Q rest (a.put o.dst (.agg (nArr zer11))) w) : wpList Tryd.prog ops Q (o :: rest) a w :=
  wp_bd 74 _ ho hg (nArr zer11) (by simp only [List.map_toArray, List.map_nil]; exact built74z) hn
theorem ybd74 {ops : Array Oper} {S : World → Prop} {op : Oper} {a : Act} (hw : Region.wanted op (yielded ops a.tmps) = true) (y0 y1 y2 y3 y4 y5 y6 y7 y8 y9 y10 : Operand) (ho : op.op = .build 74 #[(0, y0), (1, y1), (2, y2), (3, y3), (4, y4), (5, y5), (6, y6), (7, y7), (8, y8), (9, y9), (10, y10)]) (x0 x1 x2 x3 x4 x5 x6 x7 x8 x9 x10 : Int) (h0 : a.eval y0 = .int .i64 x0) (h1 : a.eval y1 = .int .i64 x1) (h2 : a.eval y2 = .int .i64 x2) (h3 : a.eval y3 = .int .i64 x3) (h4 : a.eval y4 = .int .i64 x4) (h5 : a.eval y5 = .int .i64 x5) (h6 : a.eval y6 = .int .i64 x6) (h7 : a.eval y7 = .int .i64 x7) (h8 : a.eval y8 = .int .i64 x8) (h9 : a.eval y9 = .int .i64 x9) (h10 : a.eval y10 = .int .i64 x10) : YieldsIf Tryd.prog ops S op (.agg (nArr [x0, x1, x2, x3, x4, x5, x6, x7, x8, x9, x10])) a :=
  .inl ⟨hw, fun w _ => by
    have hf : Tryd.prog.built 74 ((#[(0, y0), (1, y1), (2, y2), (3, y3), (4, y4), (5, y5), (6, y6), (7, y7), (8, y8), (9, y9), (10, y10)] : Array (Nat × Operand)).map fun (i, x) => (i, a.eval x)).toList = some (nArr [x0, x1, x2, x3, x4, x5, x6, x7, x8, x9, x10]) := by
      simp only [List.map_toArray, List.map_cons, List.map_nil, h0, h1, h2, h3, h4, h5, h6, h7, h8, h9, h10]; exact built74 x0 x1 x2 x3 x4 x5 x6 x7 x8 x9 x10
    unfold execOp
    simp only [ho, Sem.run_bind, run_build w 74 _ (nArr [x0, x1, x2, x3, x4, x5, x6, x7, x8, x9, x10]) hf, Result.andThen_ok]
    rfl⟩
theorem ybd26 {ops : Array Oper} {S : World → Prop} {op : Oper} {a : Act} (hw : Region.wanted op (yielded ops a.tmps) = true) (ho : op.op = .build 26 #[]) : YieldsIf Tryd.prog ops S op (.agg (arr zeros)) a :=
  .inl ⟨hw, fun w _ => by
    have hf : Tryd.prog.built 26 ((#[] : Array (Nat × Operand)).map fun (i, x) => (i, a.eval x)).toList = some (arr zeros) := by
      simp only [List.map_toArray, List.map_nil]; exact built41
    unfold execOp
    simp only [ho, Sem.run_bind, run_build w 26 _ (arr zeros) hf, Result.andThen_ok]
    rfl⟩
theorem res74 {fn : Func} {p : Tmp} (hf : fn.results = #[.cell p 74]) (tmps : Array Value) (w : World) (g : Nat) (t' : TypeId) (l : List Int) (hl : l.length = 11)
    (hp : tmps.getD p undef = .pointer (some ⟨g, 0, none⟩)) (hg : Row w g t' (nArr l)) : (results fn tmps).run Tryd.prog w = .ok (.agg (nArr l)) w :=
  results_cell_row hf tmps w g t' (nArr l) (0, 0) _ hp hg Tryd.underlying74 rfl (by rw [nArr_size, hl]; exact size74)
theorem layV_new (w : World) (v : List Int) : Row ((w.alloc (.cells (nArr zer11) 74)).setRow w.heap.size (nArr v)) w.heap.size 74 (nArr v) := (Row.new w 74 _).setRow _
theorem layV_below (w : World) (v : List Int) : Below w.heap.size w ((w.alloc (.cells (nArr zer11) 74)).setRow w.heap.size (nArr v)) := below_setRow' (balloc (Below.refl w.heap.size w) _) (Nat.le_refl _) _
set_option maxRecDepth 100000 in
set_option maxHeartbeats 1600000 in
theorem valuesOf_any (m : Mv) (w : World) (hr : Adr m.ro) : Calls Tryd.prog 32 #[.agg m.cs] w fun e w' => e = .returned (.agg (nArr m.p.vs)) ∧ Below w.heap.size w w' := by
  have hz := zvl
  have hq := eq41 m.ro zeros hr.1 adr_zeros.1
  have HA := hid hr
  have R1 := hid ((Row.new w 29 m.cs).alloc (.cells (nArr zer11) 74))
  have Z1 := hid (Row.new (w.alloc (.cells m.cs 29)) 74 (nArr zer11))
  have B1 := hid (balloc (balloc (Below.refl w.heap.size w) (.cells m.cs 29)) (.cells (nArr zer11) 74))
  have hs1 : (w.alloc (.cells m.cs 29)).heap.size = w.heap.size + 1 := World.size_alloc ..
  rw [hs1] at Z1
  clear hr
  go_enter Tryd.func32, Tryd.ntmps32
  go_upto_region 1 with fail
  generalize hw1 : (w.alloc (.cells m.cs 29)).alloc (.cells (nArr zer11) 74) = w1 at *
  generalize hg0 : w.heap.size = g0 at *
  clear hw1 hs1 hz
  refine wp_region_held_drew (S := fun w' => w'.cell? ⟨g0, 1, none⟩ = some (.int .i64 m.i) ∧ (w'.cell? ⟨g0, 2, none⟩ = some (.int .i64 m.v) ∧ (w'.cell? ⟨g0, 3, none⟩ = some (.int .i64 m.r) ∧ (w'.cell? ⟨g0, 4, none⟩ = some (.int .i64 m.mo) ∧ (w'.cell? ⟨g0, 5, none⟩ = some (.int .i64 m.pf) ∧ (w'.cell? ⟨g0, 6, none⟩ = some (.int .i64 m.d) ∧ (w'.cell? ⟨g0, 7, none⟩ = some (.int .i64 m.sq) ∧ (w'.cell? ⟨g0, 8, none⟩ = some (.int .i64 m.st) ∧ (w'.cell? ⟨g0, 9, none⟩ = some (.bool m.g) ∧ (w'.cell? ⟨g0, 10, none⟩ = some (.bool m.a) ∧ (Hid (Row w' g0 29 m.cs)))))))))))) (by kernel_rfl) ?_ (fun hHeld => ?_)
  · exact ⟨(R1.out.cell 1).trans m.at1, (R1.out.cell 2).trans m.at2, (R1.out.cell 3).trans m.at3, (R1.out.cell 4).trans m.at4, (R1.out.cell 5).trans m.at5, (R1.out.cell 6).trans m.at6, (R1.out.cell 7).trans m.at7, (R1.out.cell 8).trans m.at8, (R1.out.cell 9).trans m.at9, (R1.out.cell 10).trans m.at10, R1.out⟩
  refine wpAnyH_take (i := 0) (oi := _) (v := ?va0) rfl (by kernel_rfl) (by kernel_rfl) (by kernel_rfl) (fun _ _ _ h => h) (Or.inl ⟨by rfl, ?hya0⟩) (by assumption) ?resta0
  case hya0 => (intro w hSw; (try dsimp only at hSw); go_split_ands; go_simp; try (with_reducible rfl))
  try simp only [List.getElem_toArray, List.getElem_cons_zero, List.getElem_cons_succ, Act.put, List.setIfInBounds_toArray, List.set_cons_zero, List.set_cons_succ]
  refine wpAnyH_take (i := 1) (oi := _) (v := ?va1) rfl (by kernel_rfl) (by kernel_rfl) (by kernel_rfl) (fun _ _ _ h => h) (Or.inl ⟨by rfl, ?hya1⟩) (by assumption) ?resta1
  case hya1 => (intro w hSw; (try dsimp only at hSw); go_split_ands; go_simp; try (with_reducible rfl))
  try simp only [List.getElem_toArray, List.getElem_cons_zero, List.getElem_cons_succ, Act.put, List.setIfInBounds_toArray, List.set_cons_zero, List.set_cons_succ]
  refine wpAnyH_take (i := 2) (oi := _) (v := ?va2) rfl (by kernel_rfl) (by kernel_rfl) (by kernel_rfl) (fun _ _ _ h => h) (Or.inl ⟨by rfl, ?hya2⟩) (by assumption) ?resta2
  case hya2 => (intro w hSw; (try dsimp only at hSw); go_split_ands; go_simp; try (with_reducible rfl))
  try simp only [List.getElem_toArray, List.getElem_cons_zero, List.getElem_cons_succ, Act.put, List.setIfInBounds_toArray, List.set_cons_zero, List.set_cons_succ]
  refine wpAnyH_take (i := 3) (oi := _) (v := ?va3) rfl (by kernel_rfl) (by kernel_rfl) (by kernel_rfl) (fun _ _ _ h => h) (Or.inl ⟨by rfl, ?hya3⟩) (by assumption) ?resta3
  case hya3 => (intro w hSw; (try dsimp only at hSw); go_split_ands; go_simp; try (with_reducible rfl))
  try simp only [List.getElem_toArray, List.getElem_cons_zero, List.getElem_cons_succ, Act.put, List.setIfInBounds_toArray, List.set_cons_zero, List.set_cons_succ]
  refine wpAnyH_take (i := 4) (oi := _) (v := ?va4) rfl (by kernel_rfl) (by kernel_rfl) (by kernel_rfl) (fun _ _ _ h => h) (Or.inl ⟨by rfl, ?hya4⟩) (by assumption) ?resta4
  case hya4 => (intro w hSw; (try dsimp only at hSw); go_split_ands; go_simp; try (with_reducible rfl))
  try simp only [List.getElem_toArray, List.getElem_cons_zero, List.getElem_cons_succ, Act.put, List.setIfInBounds_toArray, List.set_cons_zero, List.set_cons_succ]
  refine wpAnyH_take (i := 5) (oi := _) (v := ?va5) rfl (by kernel_rfl) (by kernel_rfl) (by kernel_rfl) (fun _ _ _ h => h) (Or.inl ⟨by rfl, ?hya5⟩) (by assumption) ?resta5
  case hya5 => (intro w hSw; (try dsimp only at hSw); go_split_ands; go_simp; try (with_reducible rfl))
  try simp only [List.getElem_toArray, List.getElem_cons_zero, List.getElem_cons_succ, Act.put, List.setIfInBounds_toArray, List.set_cons_zero, List.set_cons_succ]
  refine wpAnyH_take (i := 6) (oi := _) (v := ?va6) rfl (by kernel_rfl) (by kernel_rfl) (by kernel_rfl) (fun _ _ _ h => h) (Or.inl ⟨by rfl, ?hya6⟩) (by assumption) ?resta6
  case hya6 => (intro w hSw; (try dsimp only at hSw); go_split_ands; go_simp; try (with_reducible rfl))
  try simp only [List.getElem_toArray, List.getElem_cons_zero, List.getElem_cons_succ, Act.put, List.setIfInBounds_toArray, List.set_cons_zero, List.set_cons_succ]
  refine wpAnyH_take (i := 7) (oi := _) (v := ?va7) rfl (by kernel_rfl) (by kernel_rfl) (by kernel_rfl) (fun _ _ _ h => h) (Or.inl ⟨by rfl, ?hya7⟩) (by assumption) ?resta7
  case hya7 => (intro w hSw; (try dsimp only at hSw); go_split_ands; go_simp; try (with_reducible rfl))
  try simp only [List.getElem_toArray, List.getElem_cons_zero, List.getElem_cons_succ, Act.put, List.setIfInBounds_toArray, List.set_cons_zero, List.set_cons_succ]
  refine wpAnyH_take (i := 9) (oi := _) (v := ?va9) rfl (by kernel_rfl) (by kernel_rfl) (by kernel_rfl) (fun _ _ _ h => h) (Or.inl ⟨by rfl, ?hya9⟩) (by assumption) ?resta9
  case hya9 => (intro w hSw; (try dsimp only at hSw); go_split_ands; go_simp; try (with_reducible rfl))
  try simp only [List.getElem_toArray, List.getElem_cons_zero, List.getElem_cons_succ, Act.put, List.setIfInBounds_toArray, List.set_cons_zero, List.set_cons_succ]
  refine wpAnyH_take (i := 10) (oi := _) (v := ?va10) rfl (by kernel_rfl) (by kernel_rfl) (by kernel_rfl) (fun _ _ _ h => h) (Or.inl ⟨by rfl, ?hya10⟩) (by assumption) ?resta10
  case hya10 => (intro w hSw; (try dsimp only at hSw); go_split_ands; go_simp; try (with_reducible rfl))
  try simp only [List.getElem_toArray, List.getElem_cons_zero, List.getElem_cons_succ, Act.put, List.setIfInBounds_toArray, List.set_cons_zero, List.set_cons_succ]
  refine wpAnyH_take (i := 11) (oi := _) (v := ?va11) rfl (by kernel_rfl) (by kernel_rfl) (by kernel_rfl) (fun _ _ _ h => h) (Or.inl ⟨by rfl, ?hya11⟩) (by assumption) ?resta11
  case hya11 => (intro w hSw; (try dsimp only at hSw); go_split_ands; go_simp; try (with_reducible rfl))
  try simp only [List.getElem_toArray, List.getElem_cons_zero, List.getElem_cons_succ, Act.put, List.setIfInBounds_toArray, List.set_cons_zero, List.set_cons_succ]
  refine wpAnyH_take (i := 12) (oi := _) (v := ?va12) rfl (by kernel_rfl) (by kernel_rfl) (by kernel_rfl) (fun _ _ _ h => h) (Or.inl ⟨by rfl, ?hya12⟩) (by assumption) ?resta12
  case hya12 => (intro w hSw; (try dsimp only at hSw); go_split_ands; go_simp; try (with_reducible rfl))
  try simp only [List.getElem_toArray, List.getElem_cons_zero, List.getElem_cons_succ, Act.put, List.setIfInBounds_toArray, List.set_cons_zero, List.set_cons_succ]
  refine wpAnyH_take (i := 13) (oi := _) (v := ?va13) rfl (by kernel_rfl) (by kernel_rfl) (by kernel_rfl) (fun _ _ _ h => h) (Or.inl ⟨by rfl, ?hya13⟩) (by assumption) ?resta13
  case hya13 => (intro w hSw; (try dsimp only at hSw); go_split_ands; go_simp; try (with_reducible rfl))
  try simp only [List.getElem_toArray, List.getElem_cons_zero, List.getElem_cons_succ, Act.put, List.setIfInBounds_toArray, List.set_cons_zero, List.set_cons_succ]
  refine wpAnyH_take (i := 14) (oi := _) (v := ?va14) rfl (by kernel_rfl) (by kernel_rfl) (by kernel_rfl) (fun _ _ _ h => h) (Or.inl ⟨by rfl, ?hya14⟩) (by assumption) ?resta14
  case hya14 => (intro w hSw; (try dsimp only at hSw); go_split_ands; go_simp; try (with_reducible rfl))
  try simp only [List.getElem_toArray, List.getElem_cons_zero, List.getElem_cons_succ, Act.put, List.setIfInBounds_toArray, List.set_cons_zero, List.set_cons_succ]
  refine wpAnyH_take (i := 15) (oi := _) (v := ?va15) rfl (by kernel_rfl) (by kernel_rfl) (by kernel_rfl) (fun _ _ _ h => h) (Or.inl ⟨by rfl, ?hya15⟩) (by assumption) ?resta15
  case hya15 => (intro w hSw; (try dsimp only at hSw); go_split_ands; go_simp; try (with_reducible rfl))
  try simp only [List.getElem_toArray, List.getElem_cons_zero, List.getElem_cons_succ, Act.put, List.setIfInBounds_toArray, List.set_cons_zero, List.set_cons_succ]
  refine wpAnyH_take (i := 16) (oi := _) (v := ?va16) rfl (by kernel_rfl) (by kernel_rfl) (by kernel_rfl) (fun _ _ _ h => h) (Or.inl ⟨by rfl, ?hya16⟩) (by assumption) ?resta16
  case hya16 => (intro w hSw; (try dsimp only at hSw); go_split_ands; go_simp; try (with_reducible rfl))
  try simp only [List.getElem_toArray, List.getElem_cons_zero, List.getElem_cons_succ, Act.put, List.setIfInBounds_toArray, List.set_cons_zero, List.set_cons_succ]
  refine wpAnyH_take (i := 18) (oi := _) (v := ?va18) rfl (by kernel_rfl) (by kernel_rfl) (by kernel_rfl) (fun _ _ _ h => h) (Or.inl ⟨by rfl, ?hya18⟩) (by assumption) ?resta18
  case hya18 => (intro w hSw; (try dsimp only at hSw); go_split_ands; go_simp; try (with_reducible rfl))
  try simp only [List.getElem_toArray, List.getElem_cons_zero, List.getElem_cons_succ, Act.put, List.setIfInBounds_toArray, List.set_cons_zero, List.set_cons_succ]
  refine wpAnyH_take (i := 19) (oi := _) (v := ?va19) rfl (by kernel_rfl) (by kernel_rfl) (by kernel_rfl) (fun _ _ _ h => h) (Or.inl ⟨by rfl, ?hya19⟩) (by assumption) ?resta19
  case hya19 => (intro w hSw; (try dsimp only at hSw); go_split_ands; go_simp; try (with_reducible rfl))
  try simp only [List.getElem_toArray, List.getElem_cons_zero, List.getElem_cons_succ, Act.put, List.setIfInBounds_toArray, List.set_cons_zero, List.set_cons_succ]
  refine wpAnyH_take (i := 20) (oi := _) (v := ?va20) rfl (by kernel_rfl) (by kernel_rfl) (by kernel_rfl) (fun _ _ _ h => h) (Or.inl ⟨by rfl, ?hya20⟩) (by assumption) ?resta20
  case hya20 => (intro w hSw; (try dsimp only at hSw); go_split_ands; go_simp; try (with_reducible rfl))
  try simp only [List.getElem_toArray, List.getElem_cons_zero, List.getElem_cons_succ, Act.put, List.setIfInBounds_toArray, List.set_cons_zero, List.set_cons_succ]
  refine wpAnyH_take (i := 21) (oi := _) (v := ?va21) rfl (by kernel_rfl) (by kernel_rfl) (by kernel_rfl) (fun _ _ _ h => h) (Or.inl ⟨by rfl, ?hya21⟩) (by assumption) ?resta21
  case hya21 => (intro w hSw; (try dsimp only at hSw); go_split_ands; go_simp; try (with_reducible rfl))
  try simp only [List.getElem_toArray, List.getElem_cons_zero, List.getElem_cons_succ, Act.put, List.setIfInBounds_toArray, List.set_cons_zero, List.set_cons_succ]
  refine wpAnyH_take (i := 22) (oi := _) (v := ?va22) rfl (by kernel_rfl) (by kernel_rfl) (by kernel_rfl) (fun _ _ _ h => h) (Or.inl ⟨by rfl, ?hya22⟩) (by assumption) ?resta22
  case hya22 => (intro w hSw; (try dsimp only at hSw); go_split_ands; go_simp; try (with_reducible rfl))
  try simp only [List.getElem_toArray, List.getElem_cons_zero, List.getElem_cons_succ, Act.put, List.setIfInBounds_toArray, List.set_cons_zero, List.set_cons_succ]
  refine wpAnyH_take (i := 23) (oi := _) (v := .agg (arr m.ro)) rfl (by kernel_rfl) (by kernel_rfl) (by kernel_rfl) (fun _ _ _ h => h) (yld41 (by rfl) _ rfl g0 11 rfl m.ro HA.out (fun w h => by have := h.2.2.2.2.2.2.2.2.2.2.out.part.mvA HA.out; simpa using this)) (by assumption) ?_
  try simp only [List.getElem_toArray, List.getElem_cons_zero, List.getElem_cons_succ, Act.put, List.setIfInBounds_toArray, List.set_cons_zero, List.set_cons_succ]
  refine wpAnyH_take (i := 24) (oi := _) (v := .agg (arr zeros)) rfl (by kernel_rfl) (by kernel_rfl) (by kernel_rfl) (fun _ _ _ h => h) (ybd26 (by rfl) rfl) (by assumption) ?_
  try simp only [List.getElem_toArray, List.getElem_cons_zero, List.getElem_cons_succ, Act.put, List.setIfInBounds_toArray, List.set_cons_zero, List.set_cons_succ]
  refine wpAnyH_take (i := 25) (oi := _) (v := ?va25) rfl (by kernel_rfl) (by kernel_rfl) (by kernel_rfl) (fun _ _ _ h => h) (Or.inl ⟨by rfl, ?hya25⟩) (by assumption) ?resta25
  case hya25 => (intro w hSw; (try dsimp only at hSw); go_split_ands; go_simp; try (with_reducible rfl))
  try simp only [List.getElem_toArray, List.getElem_cons_zero, List.getElem_cons_succ, Act.put, List.setIfInBounds_toArray, List.set_cons_zero, List.set_cons_succ]
  refine wpAnyH_ready (rs := [8]) (by kernel_rfl) (by simp) ?_
  refine AllReadyH.cons (o := _) rfl (fun K hK => ?_) AllReadyH.nil
  go_simp
  refine (flag_any m.g _).mono ?_
  rintro e w2 ⟨rfl, rfl⟩
  have R2 : Hid (Row w1.drew g0 29 m.cs) := R1
  have Z2 : Hid (Row w1.drew (g0 + 1) 74 (nArr zer11)) := Z1
  have B2 : Hid (Below g0 w w1.drew) := hid (B1.out.trans ⟨rfl, rfl, rfl, Nat.le_refl _, fun _ _ => rfl⟩)
  generalize w1.drew = w2 at *
  go_wp2_with fail
  refine hK.out _ _ ⟨(R2.out.cell 1).trans m.at1, (R2.out.cell 2).trans m.at2, (R2.out.cell 3).trans m.at3, (R2.out.cell 4).trans m.at4, (R2.out.cell 5).trans m.at5, (R2.out.cell 6).trans m.at6, (R2.out.cell 7).trans m.at7, (R2.out.cell 8).trans m.at8, (R2.out.cell 9).trans m.at9, (R2.out.cell 10).trans m.at10, R2.out⟩ (fun hHeld => ?_)
  clear hK K
  try simp only [List.getElem_toArray, List.getElem_cons_zero, List.getElem_cons_succ, Act.put, List.setIfInBounds_toArray, List.set_cons_zero, List.set_cons_succ]
  refine wpAnyH_ready (rs := [17]) (by kernel_rfl) (by simp) ?_
  refine AllReadyH.cons (o := _) rfl (fun K hK => ?_) AllReadyH.nil
  go_simp
  refine (flag_any m.a _).mono ?_
  rintro e w3 ⟨rfl, rfl⟩
  go_wp2_with fail
  refine hK.out _ _ ⟨(R2.out.cell 1).trans m.at1, (R2.out.cell 2).trans m.at2, (R2.out.cell 3).trans m.at3, (R2.out.cell 4).trans m.at4, (R2.out.cell 5).trans m.at5, (R2.out.cell 6).trans m.at6, (R2.out.cell 7).trans m.at7, (R2.out.cell 8).trans m.at8, (R2.out.cell 9).trans m.at9, (R2.out.cell 10).trans m.at10, R2.out⟩ (fun hHeld => ?_)
  clear hK K
  try simp only [List.getElem_toArray, List.getElem_cons_zero, List.getElem_cons_succ, Act.put, List.setIfInBounds_toArray, List.set_cons_zero, List.set_cons_succ]
  refine wpAnyH_ready (rs := [26]) (by kernel_rfl) (by simp) ?_
  refine AllReadyH.cons (o := _) rfl (fun K hK => ?_) AllReadyH.nil
  go_simp
  refine (flag_any _ _).mono ?_
  rintro e w3 ⟨rfl, rfl⟩
  go_wp2_with fail
  refine hK.out _ _ ⟨(R2.out.cell 1).trans m.at1, (R2.out.cell 2).trans m.at2, (R2.out.cell 3).trans m.at3, (R2.out.cell 4).trans m.at4, (R2.out.cell 5).trans m.at5, (R2.out.cell 6).trans m.at6, (R2.out.cell 7).trans m.at7, (R2.out.cell 8).trans m.at8, (R2.out.cell 9).trans m.at9, (R2.out.cell 10).trans m.at10, R2.out⟩ (fun hHeld => ?_)
  clear hK K
  try simp only [List.getElem_toArray, List.getElem_cons_zero, List.getElem_cons_succ, Act.put, List.setIfInBounds_toArray, List.set_cons_zero, List.set_cons_succ]
  refine wpAnyH_take (i := 27) (oi := _) (v := .agg (nArr m.p.vs)) rfl (by kernel_rfl) (by kernel_rfl) (by kernel_rfl) (fun _ _ _ h => h) (ybd74 (by rfl) _ _ _ _ _ _ _ _ _ _ _ rfl _ _ _ _ _ _ _ _ _ _ _ rfl rfl rfl rfl rfl rfl rfl rfl rfl rfl rfl) (by assumption) ?_
  try simp only [List.getElem_toArray, List.getElem_cons_zero, List.getElem_cons_succ, Act.put, List.setIfInBounds_toArray, List.set_cons_zero, List.set_cons_succ]
  refine wpAnyH_ready (rs := [28]) (by kernel_rfl) (by simp) ?_
  refine AllReadyH.cons (o := _) rfl (fun K hK => ?_) AllReadyH.nil
  refine step_st rfl 74 _ _ rfl (g0 + 1) (nArr m.p.vs) rfl rfl 74 (nArr zer11) (by exact Z2.out) (by rw [nArr_size]; exact size74) rfl (nArr_one _) ?_
  have R3 := hid (R2.out.rowOther (g0 + 1) (nArr m.p.vs) (by omega))
  have Z3 := hid (Z2.out.setRow (nArr m.p.vs))
  have B3 := hid (below_setRow' B2.out (g := g0 + 1) (by omega) (nArr m.p.vs))
  refine hK.out _ _ ⟨(R3.out.cell 1).trans m.at1, (R3.out.cell 2).trans m.at2, (R3.out.cell 3).trans m.at3, (R3.out.cell 4).trans m.at4, (R3.out.cell 5).trans m.at5, (R3.out.cell 6).trans m.at6, (R3.out.cell 7).trans m.at7, (R3.out.cell 8).trans m.at8, (R3.out.cell 9).trans m.at9, (R3.out.cell 10).trans m.at10, R3.out⟩ (fun hHeld => ?_)
  clear hK K
  try simp only [List.getElem_toArray, List.getElem_cons_zero, List.getElem_cons_succ, Act.put, List.setIfInBounds_toArray, List.set_cons_zero, List.set_cons_succ]
  refine wpAnyH_done (by kernel_rfl) ?_ _
  go_wp2_with fail
  exact bodyPost_ret (res74 rfl _ _ (g0 + 1) 74 m.p.vs rfl rfl Z3.out) rfl ⟨rfl, by rw [hg0]; exact B3.out⟩
end Go.Proofs.YtbfjkhafdkhhmaaDoor

namespace Go.Proofs.YtbfjkhafdkhhmaaDoor
open Go.ChangeShapes Go.WideShapes Go.ChangeAt Go.RowKit Go.Deep
set_option linter.unusedVariables false
set_option linter.unusedSimpArgs false

/-- Are there bytes other than 0? -/
def anyN (l : List Int) : Bool := l.any (fun x => x != 0)
theorem isn0_any (x : Int) (w : World) : Calls Tryd.prog 111 #[.int .u8 x] w fun e w' => e = .returned (.bool (x != 0)) ∧ w' = w := by
  go_enter Tryd.func111, Tryd.ntmps111
  go_wp2_with fail
  go_ret
  exact ⟨rfl, rfl⟩
theorem indexFunc8_any (a : Option Addr) (n cap : Nat) (l : List Int) (w : World) (h : Lies .u8 w a n cap l) :
    Calls Tryd.prog 113 #[.slice a n cap, .func (.func 111) #[] #[]] w fun e w' => (∃ r : Int, e = .returned (.int .i64 r) ∧ decide (0 ≤ r) = anyN l) ∧ w' = w := by
  obtain ⟨hl, hlc, hcm, _, hc⟩ := h
  unfold maxLen at hcm
  have HC : Hid _ := hc
  have HL : Hid (l.length = n) := hl
  clear hc hl
  go_enter Tryd.func113, Tryd.ntmps113
  go_wp2_with fail
  go_loop [8] (fun i => ∃ k : Nat, k ≤ n ∧ i = .int .i64 k ∧ Hid (anyN (l.take k) = false)) (fun i => n - (intOf i).toNat)
  case atStart => exact ⟨0, Nat.zero_le _, rfl, by rw [Hid]; simp [anyN]⟩
  case round =>
    obtain ⟨k, hk, rfl, hno⟩ := hrel
    by_cases hlt : k < n
    · obtain ⟨b, off, rfl, hcell⟩ := HC.out k hlt
      have hlt' : (k : Int) < (n : Int) := by omega
      have HM : Hid (l.getD k 0 ∈ l) := by rw [Hid]; simp [show k < l.length by rw [HL.out]; exact hlt]
      have HN : Hid ((l.getD k 0 != 0) = false → anyN (l.take (k + 1)) = false) := by
        intro hz
        rw [anyN, List.take_add_one, List.any_append, show (l.take k).any (fun x => x != 0) = false from hno.out]
        have hk' : k < l.length := by rw [HL.out]; exact hlt
        simp [hk'] at hz ⊢
        exact hz
      generalize l.getD k 0 = z at *
      go_wp2_with fail
      refine (isn0_any z _).mono ?_
      rintro e w1 ⟨rfl, rfl⟩
      cases hz : (z != 0)
      · go_wp2_with fail
        go_round
        case rel => exact ⟨k + 1, by omega, by go_num, HN.out hz⟩
        case measure => simp [intOf]; omega
      · go_wp2_with fail
        go_ret
        refine ⟨⟨_, rfl, ?_⟩, rfl⟩
        have : anyN l = true := List.any_eq_true.2 ⟨z, HM.out, hz⟩
        rw [this]; simp
    · obtain rfl : k = n := by omega
      go_wp2_with fail
      go_ret
      refine ⟨⟨_, rfl, ?_⟩, rfl⟩
      have := hno.out
      rw [List.take_of_length_le (by rw [HL.out]; exact Nat.le_refl _)] at this
      simp [this]
theorem containsFunc8_any (a : Option Addr) (n cap : Nat) (l : List Int) (w : World) (h : Lies .u8 w a n cap l) :
    Calls Tryd.prog 112 #[.slice a n cap, .func (.func 111) #[] #[]] w fun e w' => e = .returned (.bool (anyN l)) ∧ w' = w := by
  have HL := hid h
  clear h
  go_enter Tryd.func112, Tryd.ntmps112
  go_wp2_with fail
  refine (indexFunc8_any a n cap l _ HL.out).mono ?_
  rintro e w1 ⟨⟨r, rfl, hr⟩, rfl⟩
  have HR := hid hr
  clear hr
  go_wp2_with fail
  go_ret
  exact ⟨ret_bool HR.out, rfl⟩
end Go.Proofs.YtbfjkhafdkhhmaaDoor

namespace Go.Proofs.YtbfjkhafdkhhmaaDoor
open Go.ChangeShapes Go.WideShapes Go.ChangeAt Go.RowKit Go.Deep
set_option linter.unusedVariables false
set_option linter.unusedSimpArgs false

/-- What is wrong with a cursor behind Spoil. -/
def spE (er e : Int) : Int := if er = 0 then e else er
theorem spoil_any (w : World) (c : Nat) (a : Option Addr) (len cap at_ : Nat) (l : List Int) (er e : Int) (h : CurAt w c a len cap l at_ er) :
    Calls Tryd.prog 83 #[.pointer (some ⟨c, 0, none⟩), .int .i64 e] w fun e' w' => e' = .returned (.tuple #[]) ∧ CurAt w' c a len cap l at_ (spE er e) ∧ w.grownBy w' (some c) ∧ w'.heap.size = w.heap.size := by
  by_cases her : er = 0
  · subst her
    have : spE 0 e = e := by simp [spE]
    rw [this]
    exact spoil_now w c a len cap at_ l e h
  · have : spE er e = er := by simp [spE, her]
    rw [this]
    refine (spoil_was w c er e h.cell2 her).mono ?_
    rintro e' w' ⟨rfl, rfl⟩
    exact ⟨rfl, h, grownBy_drewN w' 0 _, rfl⟩
theorem rd_all (len at_ : Nat) (h : at_ ≤ len) : rdE 1 ((len : Int) - at_) (len - at_) 0 = 0 ∧ rdN 1 ((len : Int) - at_) (len - at_) 0 = len - at_ := by
  have h1 : rdE 1 ((len : Int) - at_) (len - at_) 0 = 0 := by
    unfold rdE
    have hz : sizeB 1 = true := by decide
    rw [if_pos rfl, if_neg (by rw [hz]; simp; omega), if_neg (by omega)]
  refine ⟨h1, ?_⟩
  rw [rdN, if_pos h1]; omega
/-- bytes(left) with nothing wrong. -/
theorem bytes_left (w : World) (c : Nat) (a : Option Addr) (len cap at_ : Nat) (l : List Int) (h : CurAt w c a len cap l at_ 0) :
    Calls Tryd.prog 84 #[.pointer (some ⟨c, 0, none⟩), .int .i64 ((len : Int) - at_)] w fun e w' => ∃ b cp, e = .returned (.slice b (len - at_) cp) ∧ w'.ownsRow w.heap.size 5 1 (.slice b (len - at_) cp) (len - at_) (u8s (l.drop at_)) ∧
      Lies .u8 w' b (len - at_) cp (l.drop at_) ∧ CurAt w' c a len cap l len 0 ∧ w.grownBy w' (some c) := by
  have hle := h.le
  obtain ⟨hE, hN⟩ := rd_all len at_ h.le
  have hll := h.lies.1
  have hd : (l.drop at_).take (len - at_) = l.drop at_ := List.take_of_length_le (by rw [List.length_drop]; omega)
  have hdl : (l.drop at_).length = len - at_ := by rw [List.length_drop]; omega
  have := bytes_any w c a len cap at_ l 0 ((len : Int) - at_) h
  rw [hE, hN, hd] at this
  refine this.mono ?_
  rintro e w' ⟨v, rfl, hown, hc, hg⟩
  have hown' := ownsRow_u8 hown hdl.symm rfl
  obtain ⟨b, cp, rfl, hl, _⟩ := owns_lies hown'
  rw [hdl] at hl ⊢
  rw [show at_ + (len - at_) = len by omega] at hc
  rw [hdl] at hown
  exact ⟨b, cp, rfl, hown, hl, hc, hg⟩
def zerE (l : List Int) : Int := if anyN l = true then 3 else 0
theorem skipZeros_any (w : World) (p c : Nat) (a : Option Addr) (len cap at_ : Nat) (l : List Int) (gv : Value) (hr : Row w p 153 #[.pointer (some ⟨c, 0, none⟩), gv]) (h : CurAt w c a len cap l at_ 0) :
    Calls Tryd.prog 108 #[.pointer (some ⟨p, 0, none⟩)] w fun e w' => e = .returned (.tuple #[]) ∧ CurAt w' c a len cap l len (zerE (l.drop at_)) ∧ w.grownBy w' (some c) := by
  have hpc : p ≠ c := by
    intro e
    subst e
    have := h.block
    rw [hr] at this
    simp at this
  have R0 := hid hr
  have C0 := hid h
  clear hr h
  go_enter Tryd.func108, Tryd.ntmps108
  go_wp2_with fail
  refine wp_region_held_drew (S := fun w' => w'.cell? ⟨p, 0, none⟩ = some (.pointer (some ⟨c, 0, none⟩))) (by kernel_rfl) ?_ (fun hHeld => ?_)
  · exact R0.out.cell 0
  refine wpAnyH_take (i := 0) (oi := _) (v := ?va0) rfl (by kernel_rfl) (by kernel_rfl) (by kernel_rfl) (fun _ _ _ h => h) (Or.inl ⟨by rfl, ?hya0⟩) (by assumption) ?resta0
  case hya0 => (intro w hSw; (try dsimp only at hSw); go_split_ands; go_simp; try (with_reducible rfl))
  try simp only [List.getElem_toArray, List.getElem_cons_zero, List.getElem_cons_succ, Act.put, List.setIfInBounds_toArray, List.set_cons_zero, List.set_cons_succ]
  refine wpAnyH_take (i := 1) (oi := _) (v := ?va1) rfl (by kernel_rfl) (by kernel_rfl) (by kernel_rfl) (fun _ _ _ h => h) (Or.inl ⟨by rfl, ?hya1⟩) (by assumption) ?resta1
  case hya1 => (intro w hSw; (try dsimp only at hSw); go_split_ands; go_simp; try (with_reducible rfl))
  try simp only [List.getElem_toArray, List.getElem_cons_zero, List.getElem_cons_succ, Act.put, List.setIfInBounds_toArray, List.set_cons_zero, List.set_cons_succ]
  refine wpAnyH_take (i := 2) (oi := _) (v := ?va2) rfl (by kernel_rfl) (by kernel_rfl) (by kernel_rfl) (fun _ _ _ h => h) (Or.inl ⟨by rfl, ?hya2⟩) (by assumption) ?resta2
  case hya2 => (intro w hSw; (try dsimp only at hSw); go_split_ands; go_simp; try (with_reducible rfl))
  try simp only [List.getElem_toArray, List.getElem_cons_zero, List.getElem_cons_succ, Act.put, List.setIfInBounds_toArray, List.set_cons_zero, List.set_cons_succ]
  refine wpAnyH_take (i := 3) (oi := _) (v := ?va3) rfl (by kernel_rfl) (by kernel_rfl) (by kernel_rfl) (fun _ _ _ h => h) (Or.inl ⟨by rfl, ?hya3⟩) (by assumption) ?resta3
  case hya3 => (intro w hSw; (try dsimp only at hSw); go_split_ands; go_simp; try (with_reducible rfl))
  try simp only [List.getElem_toArray, List.getElem_cons_zero, List.getElem_cons_succ, Act.put, List.setIfInBounds_toArray, List.set_cons_zero, List.set_cons_succ]
  refine wpAnyH_take (i := 4) (oi := _) (v := ?va4) rfl (by kernel_rfl) (by kernel_rfl) (by kernel_rfl) (fun _ _ _ h => h) (Or.inl ⟨by rfl, ?hya4⟩) (by assumption) ?resta4
  case hya4 => (intro w hSw; (try dsimp only at hSw); go_split_ands; go_simp; try (with_reducible rfl))
  try simp only [List.getElem_toArray, List.getElem_cons_zero, List.getElem_cons_succ, Act.put, List.setIfInBounds_toArray, List.set_cons_zero, List.set_cons_succ]
  refine wpAnyH_take (i := 5) (oi := _) (v := ?va5) rfl (by kernel_rfl) (by kernel_rfl) (by kernel_rfl) (fun _ _ _ h => h) (Or.inl ⟨by rfl, ?hya5⟩) (by assumption) ?resta5
  case hya5 => (intro w hSw; (try dsimp only at hSw); go_split_ands; go_simp; try (with_reducible rfl))
  try simp only [List.getElem_toArray, List.getElem_cons_zero, List.getElem_cons_succ, Act.put, List.setIfInBounds_toArray, List.set_cons_zero, List.set_cons_succ]
  refine wpAnyH_take (i := 6) (oi := _) (v := ?va6) rfl (by kernel_rfl) (by kernel_rfl) (by kernel_rfl) (fun _ _ _ h => h) (Or.inl ⟨by rfl, ?hya6⟩) (by assumption) ?resta6
  case hya6 => (intro w hSw; (try dsimp only at hSw); go_split_ands; go_simp; try (with_reducible rfl))
  try simp only [List.getElem_toArray, List.getElem_cons_zero, List.getElem_cons_succ, Act.put, List.setIfInBounds_toArray, List.set_cons_zero, List.set_cons_succ]
  refine wpAnyH_take (i := 7) (oi := _) (v := ?va7) rfl (by kernel_rfl) (by kernel_rfl) (by kernel_rfl) (fun _ _ _ h => h) (Or.inl ⟨by rfl, ?hya7⟩) (by assumption) ?resta7
  case hya7 => (intro w hSw; (try dsimp only at hSw); go_split_ands; go_simp; try (with_reducible rfl))
  try simp only [List.getElem_toArray, List.getElem_cons_zero, List.getElem_cons_succ, Act.put, List.setIfInBounds_toArray, List.set_cons_zero, List.set_cons_succ]
  refine wpAnyH_take (i := 10) (oi := _) (v := ?va10) rfl (by kernel_rfl) (by kernel_rfl) (by kernel_rfl) (fun _ _ _ h => h) (Or.inl ⟨by rfl, ?hya10⟩) (by assumption) ?resta10
  case hya10 => (intro w hSw; (try dsimp only at hSw); go_split_ands; go_simp; try (with_reducible rfl))
  try simp only [List.getElem_toArray, List.getElem_cons_zero, List.getElem_cons_succ, Act.put, List.setIfInBounds_toArray, List.set_cons_zero, List.set_cons_succ]
  refine wpAnyH_ready (rs := [8]) (by kernel_rfl) (by simp) ?_
  refine AllReadyH.cons (o := _) rfl (fun K hK => ?_) AllReadyH.nil
  go_simp
  refine (left_any _ c a len cap at_ l 0 (C0.out.drewN _)).mono ?_
  rintro e w1 ⟨rfl, q, rfl⟩
  go_wp2_with fail
  refine hK.out _ _ (R0.out.cell 0) (fun hHeld => ?_)
  clear hK K
  try simp only [List.getElem_toArray, List.getElem_cons_zero, List.getElem_cons_succ, Act.put, List.setIfInBounds_toArray, List.set_cons_zero, List.set_cons_succ]
  refine wpAnyH_ready (rs := [9]) (by kernel_rfl) (by simp) ?_
  refine AllReadyH.cons (o := _) rfl (fun K hK => ?_) AllReadyH.nil
  go_simp
  refine (bytes_left _ c a len cap at_ l (C0.out.drewN _)).mono ?_
  rintro e w2 ⟨b, cp, rfl, hown, hl, hc, hg⟩
  have R2 := hid ((R0.out.drewN _).kept hg (by simp [hpc]))
  have L2 := hid hl
  have C2 := hid hc
  have G2 := hid ((grownBy_drewN w _ (some c)).trans hg)
  clear hown hl hc hg
  go_wp2_with fail
  refine hK.out _ _ (R2.out.cell 0) (fun hHeld => ?_)
  clear hK K
  try simp only [List.getElem_toArray, List.getElem_cons_zero, List.getElem_cons_succ, Act.put, List.setIfInBounds_toArray, List.set_cons_zero, List.set_cons_succ]
  refine wpAnyH_ready (rs := [11]) (by kernel_rfl) (by simp) ?_
  refine AllReadyH.cons (o := _) rfl (fun K hK => ?_) AllReadyH.nil
  go_simp
  refine (containsFunc8_any _ _ _ _ _ L2.out).mono ?_
  rintro e w3 ⟨rfl, rfl⟩
  go_wp2_with fail
  refine hK.out _ _ (R2.out.cell 0) (fun hHeld => ?_)
  clear hK K
  try simp only [List.getElem_toArray, List.getElem_cons_zero, List.getElem_cons_succ, Act.put, List.setIfInBounds_toArray, List.set_cons_zero, List.set_cons_succ]
  refine wpAnyH_done (by kernel_rfl) ?_ _
  cases hz : anyN (l.drop at_)
  · have HZ : Hid (zerE (l.drop at_) = 0) := by simp [Hid, zerE, hz]
    go_wp2_with fail
    go_returns
    exact ⟨rfl, by rw [HZ.out]; exact C2.out, G2.out⟩
  · have HZ : Hid (zerE (l.drop at_) = 3) := by simp [Hid, zerE, hz]
    go_wp2_with fail
    refine (spoil_any _ c a len cap len l 0 3 C2.out).mono ?_
    rintro e w4 ⟨rfl, hc, hg, hs⟩
    have C4 := hid hc
    have G4 := hid (G2.out.trans hg)
    clear hc hg hs
    go_wp2_with fail
    go_returns
    exact ⟨rfl, by rw [HZ.out]; exact C4.out, G4.out⟩
end Go.Proofs.YtbfjkhafdkhhmaaDoor

namespace Go.Proofs.YtbfjkhafdkhhmaaDoor
open Go.ChangeShapes Go.WideShapes Go.ChangeAt Go.RowKit Go.Deep
set_option linter.unusedVariables false
set_option linter.unusedSimpArgs false

def Ov.setA (o : Ov) (F : List Int) : Ov := ⟨o.k, o.n, F, o.t⟩
theorem splice_A {o : Ov} {F : List Int} (h : Adr o.ad) (hF : F.length = 16) : (o.cs.toList.take 2 ++ u8s F ++ o.cs.toList.drop (2 + (u8s F).length)).toArray = (o.setA F).cs := by
  have e : o.cs.toList = [.int .i64 o.k, o.n.v] ++ (u8s o.ad ++ [o.t.v]) := by simp [Ov.cs, arr]
  have l1 : (u8s o.ad).length = 16 := by rw [u8s_len, h.1]
  have l2 : (u8s F).length = 16 := by rw [u8s_len, hF]
  apply Array.ext'
  rw [e, l2]
  have e1 : ([Value.int .i64 o.k, o.n.v] ++ (u8s o.ad ++ [o.t.v])).take 2 = [.int .i64 o.k, o.n.v] := rfl
  have e2 : ([Value.int .i64 o.k, o.n.v] ++ (u8s o.ad ++ [o.t.v])).drop (2 + 16) = [o.t.v] := by
    rw [show 2 + 16 = ([Value.int .i64 o.k, o.n.v] ++ u8s o.ad).length by simp [l1], ← List.append_assoc, List.drop_left]
  rw [e1, e2]
  simp [Ov.cs, Ov.setA, arr]
/-- copy(o.Addr[:], ..) as one step of a region that draws its order. -/
theorem step_copyA {ops : Array Oper} {op : Oper} {a : Act} {w : World} {K : Act → World → Prop} {Q : Exit → Act → World → Prop} {E : Prop} (hgd : op.guard = none) (d s : Operand)
    (hop : op.op = .call { callee := .builtin .copy, args := #[d, s], argTypes := #[33, 33] }) (g dCap sCap : Nat) (sp : Option Addr) (hd : a.eval d = .slice (some ⟨g, 2, none⟩) 16 dCap) (hs : a.eval s = .slice sp 16 sCap)
    (o : Ov) (hA : Adr o.ad) (hr : Row w g 54 o.cs) (F : List Int) (hl : Lies .u8 w sp 16 sCap F)
    (h : K (a.put op.dst (goInt 16)) (w.setRow g (o.setA F).cs)) :
    if Region.wanted op (yielded ops a.tmps) = true then Oper.wp Tryd.prog op a w K Q else E := by
  have hw : Region.wanted op (yielded ops a.tmps) = true := by simp [Region.wanted, hgd]
  rw [if_pos hw]
  have hF : F.length = 16 := hl.1
  have l2 : (u8s F).length = 16 := by rw [u8s_len, hF]
  obtain ⟨b, off, e, _⟩ := hl.2.2.2.2 0 (by omega)
  subst e
  have hrun := run_copy_row (P := Tryd.prog) w 33 33 op.type 5 g 2 16 dCap ⟨b, off, none⟩ 16 sCap o.cs 54 (u8s F) Tryd.underlying33 (by kernel_rfl) hr (by rw [l2]; rfl) (hl.cells _ rfl) (by rw [l2, Ov.size hA]; decide) (ints_oneCell8 F .u8)
  rw [splice_A hA hF, l2] at hrun
  unfold Oper.wp
  simp [execOp, hop, resolve, invoke, builtin, hd, hs, hrun, Result.andThen]
  exact h
/-- Reading one part more: how many bytes were read, the numbers, the address. -/
def stp (l : List Int) (s : Nat × List Int × List Int) (p : Int × Int) : Nat × List Int × List Int :=
  if (p.1 == 16) = true then (s.1 + 16, s.2.1, (l.drop s.1).take 16) else (s.1 + p.1.toNat, s.2.1 ++ [numOf ((l.drop s.1).take p.1.toNat)], s.2.2)
def stps (l : List Int) (P : List (Int × Int)) : Nat × List Int × List Int := P.foldl (stp l) (0, [], zeros)
theorem stps_succ (l : List Int) (P : List (Int × Int)) (j : Nat) (h : j < P.length) : stps l (P.take (j + 1)) = stp l (stps l (P.take j)) (P.getD j (0, 0)) := by
  rw [List.take_succ_eq_append_getElem h, stps, List.foldl_append]; simp [stps, h]
theorem stps_at (l : List Int) (P : List (Int × Int)) (h : ∀ p ∈ P, (p.1 == 16) = true ∨ sizeB p.1 = true) (j : Nat) (hj : j ≤ P.length) : ((stps l (P.take j)).1 : Int) = sumP (P.take j) := by
  induction j with
  | zero => rfl
  | succ j ih =>
    have hj' : j < P.length := by omega
    rw [stps_succ l P j hj', sumP_succ P j hj', ← ih (by omega)]
    have hm : P.getD j (0, 0) ∈ P := by simp [hj']
    rcases h _ hm with hp | hp
    · rw [stp, if_pos hp]
      have : (P.getD j (0, 0)).1 = 16 := by simpa using hp
      rw [this]; simp
    · have hne : ¬ ((P.getD j (0, 0)).1 == 16) = true := by rcases sizeB_cases hp with e | e | e <;> rw [e] <;> decide
      rw [stp, if_neg hne]
      rcases sizeB_cases hp with e | e | e <;> rw [e] <;> simp
theorem stps_adr (l : List Int) (P : List (Int × Int)) (h : ∀ p ∈ P, (p.1 == 16) = true ∨ sizeB p.1 = true) (ho : Oct l) (hl : sumP P = l.length) (j : Nat) (hj : j ≤ P.length) (hle : ∀ i, i ≤ P.length → sumP (P.take i) ≤ sumP P) : Adr (stps l (P.take j)).2.2 := by
  induction j with
  | zero => exact adr_zeros
  | succ j ih =>
    have hj' : j < P.length := by omega
    have ha := stps_at l P h j (by omega)
    have hs := sumP_succ P j hj'
    have hb := hle (j + 1) hj
    rw [stps_succ l P j hj', stp]
    split
    · rename_i h16
      have : (P.getD j (0, 0)).1 = 16 := by simpa using h16
      refine ⟨?_, ho.cut _ _⟩
      rw [List.length_take, List.length_drop]
      omega
    · exact ih (by omega)
theorem rd_n (size : Int) (len at_ : Nat) (hz : sizeB size = true) (h : (at_ : Int) + size ≤ len) : rdE size 1 (len - at_) 0 = 0 ∧ rdN size 1 (len - at_) 0 = size.toNat := by
  have h1 : rdE size 1 (len - at_) 0 = 0 := by
    unfold rdE
    rw [if_pos rfl, if_neg (by rw [hz]; simp), if_neg (by omega)]
  refine ⟨h1, ?_⟩
  rw [rdN, if_pos h1]; simp
theorem rd_b (n len at_ : Nat) (h : at_ + n ≤ len) : rdE 1 n (len - at_) 0 = 0 ∧ rdN 1 n (len - at_) 0 = n := by
  have h1 : rdE 1 n (len - at_) 0 = 0 := by
    unfold rdE
    have hz : sizeB 1 = true := by decide
    rw [if_pos rfl, if_neg (by rw [hz]; simp), if_neg (by omega)]
  refine ⟨h1, ?_⟩
  rw [rdN, if_pos h1]; simp
end Go.Proofs.YtbfjkhafdkhhmaaDoor
