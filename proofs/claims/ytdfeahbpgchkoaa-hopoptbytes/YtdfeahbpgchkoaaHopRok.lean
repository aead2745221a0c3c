/- ref's Decode. -/
import Derived.Test.YtdfeahbpgchkoaaHopDok
namespace Go.Proofs.Ytdfeahbpgchkoaa
open Go.ChangeShapes Go.WideShapes Go.ChangeAt Go.RowKit
set_option linter.unusedVariables false
set_option linter.unusedSimpArgs false

/-- A literal of an option in a drawn region. -/
theorem yldB {ops : Array Oper} {S : World → Prop} {op : Oper} {a : Act} {t : TypeId} (ht : OT t) (hw : Region.wanted op (yielded ops a.tmps) = true) (x0 x1 x2 x3 x4 : Operand) (ho : op.op = .build t #[(0, x0), (1, x1), (2, x2), (3, x3), (4, x4)])
    (h : Ho) (h0 : a.eval x0 = .bool h.d) (h1 : a.eval x1 = .bool h.w) (h2 : a.eval x2 = .bool h.f) (h3 : a.eval x3 = .int .i64 h.i) (h4 : a.eval x4 = .int .i64 h.r) : YieldsIf Try.prog ops S op (.agg h.cs) a :=
  .inl ⟨hw, fun w _ => by
    have hb : Try.prog.built t ((#[(0, x0), (1, x1), (2, x2), (3, x3), (4, x4)] : Array (Nat × Operand)).map fun (i, x) => (i, a.eval x)).toList = some h.cs := by
      simp only [List.map_toArray, List.map_cons, List.map_nil, h0, h1, h2, h3, h4]; exact ht.full h
    unfold execOp
    simp only [ho, Sem.run_bind, run_build w t _ h.cs hb, Result.andThen_ok]
    rfl⟩
theorem Lies.atk {kd : IntKind} {w : World} {b off : Nat} {len cap : Nat} {l : List Int} (h : Lies kd w (some ⟨b, off, none⟩) len cap l) (k : Nat) (hk : k < len) : w.cell? ⟨b, off + k, none⟩ = some (.int kd (l.getD k 0)) := by
  obtain ⟨b', off', e, hc⟩ := h.2.2.2.2 k hk
  simp at e
  obtain ⟨rfl, rfl⟩ := e
  exact hc
set_option maxHeartbeats 3200000 in
set_option maxRecDepth 100000 in
theorem rdc_ok (a : Option Addr) (len cap : Nat) (l : List Int) (w : World) (h : Lies .u8 w a len cap l) (ho : Oct l) (hs : 8 ≤ len) (k1 : l.getD 1 0 = 0) (k2 : l.getD 2 0 = 99) (k3 : l.getD 3 0 = 4) (hk : l.getD 4 0 % 32 = 0) :
    Calls Try.prog 9 #[.slice a len cap] w fun r w' => ∃ a' n' c', r = .returned (.tuple #[.int .i64 (l.getD 0 0), .agg (opO l).cs, .slice a' n' c', .int .i64 0]) ∧ Lies .u8 w' a' n' c' (l.drop 8) ∧ Below w.heap.size w w' := by
  have hz := zho
  have Z1 := hid (Row.new w 23 Ho.zero.cs)
  have B1 := hid (balloc (Below.refl w.heap.size w) (.cells Ho.zero.cs 23))
  have HLs := hid h
  obtain ⟨b, off, rfl, hcell⟩ := (h.below B1.out).at (by omega)
  have hcm : cap ≤ maxLen := h.2.2.1
  have hlc := h.2.1
  have hll := h.1
  unfold maxLen at hcm
  have HLL := hid hll
  have q0 : (w.alloc (.cells Ho.zero.cs 23)).cell? ⟨b, off, none⟩ = _ := hcell 0 (by omega)
  have q1 := hcell 1 (by omega)
  have q2 := hcell 2 (by omega)
  have q3 := hcell 3 (by omega)
  have q4 := hcell 4 (by omega)
  have q5 := hcell 5 (by omega)
  have q6 := hcell 6 (by omega)
  have q7 := hcell 7 (by omega)
  have x0b := ho.at 0 (by omega)
  have x4b := ho.at 4 (by omega)
  have x5b := ho.at 5 (by omega)
  have x6b := ho.at 6 (by omega)
  have x7b := ho.at 7 (by omega)
  have HP : Hid (opO l = ⟨l.getD 4 0 / 128 == 1, l.getD 4 0 / 64 % 2 == 1, l.getD 4 0 / 32 % 2 == 1, l.getD 5 0, 256 * l.getD 6 0 + l.getD 7 0⟩) := rfl
  generalize hPP : opO l = P at *
  have HPP := hid hPP
  clear hPP
  have D8 : Hid ((l.drop 8).length = len - 8) := by rw [Hid, List.length_drop, hll]
  generalize hX0 : l.getD 0 0 = x0 at *
  have HX0 := hid hX0.symm
  clear hX0
  generalize l.getD 1 0 = x1 at *
  generalize l.getD 2 0 = x2 at *
  generalize l.getD 3 0 = x3 at *
  generalize hX4 : l.getD 4 0 = x4 at *
  have HX4 := hid hX4.symm
  clear hX4
  generalize hX5 : l.getD 5 0 = x5 at *
  have HX5 := hid hX5.symm
  clear hX5
  generalize hX6 : l.getD 6 0 = x6 at *
  have HX6 := hid hX6.symm
  clear hX6
  generalize hX7 : l.getD 7 0 = x7 at *
  have HX7 := hid hX7.symm
  clear hX7
  subst k1
  subst k2
  subst k3
  have e4 : (x4 % 32 != 0) = false := by rw [hk]; rfl
  have hs' : decide ((len : Int) < 8) = false := by simp; omega
  have i0 : (0 : Int) < (len : Int) := by omega
  have i0n : 0 < len := by omega
  have i8 : (8 : Int) ≤ (len : Int) := by omega
  have i4 : (4 : Int) < (len : Int) := by omega
  have i5 : (5 : Int) < (len : Int) := by omega
  have i6 : (6 : Int) < (len : Int) := by omega
  have i7 : (7 : Int) < (len : Int) := by omega
  obtain ⟨x4l, x4u⟩ := x4b
  obtain ⟨x5l, x5u⟩ := x5b
  obtain ⟨x6l, x6u⟩ := x6b
  obtain ⟨x7l, x7u⟩ := x7b
  have u1 : IntKind.u8.wrap (x4.tdiv 128) = x4 / 128 := by rw [Int.tdiv_eq_ediv_of_nonneg x4l, wraps_u8 _ (by omega) (by omega)]
  have u2 : IntKind.u8.wrap (x4.tdiv 64) = x4 / 64 := by rw [Int.tdiv_eq_ediv_of_nonneg x4l, wraps_u8 _ (by omega) (by omega)]
  have u3 : IntKind.u8.wrap (x4.tdiv 32) = x4 / 32 := by rw [Int.tdiv_eq_ediv_of_nonneg x4l, wraps_u8 _ (by omega) (by omega)]
  have u4 : (x4 / 64).tmod 2 = x4 / 64 % 2 := Int.tmod_eq_emod_of_nonneg (by omega)
  have u5 : (x4 / 32).tmod 2 = x4 / 32 % 2 := Int.tmod_eq_emod_of_nonneg (by omega)
  have v0 : IntKind.i64.wrap x0 = x0 := w64 _ x0b.1 (by omega)
  have v5 : IntKind.i64.wrap x5 = x5 := w64 _ x5l (by omega)
  have v6 : IntKind.i64.wrap x6 = x6 := w64 _ x6l (by omega)
  have v7 : IntKind.i64.wrap x7 = x7 := w64 _ x7l (by omega)
  have v8 : IntKind.i64.wrap (256 * x6) = 256 * x6 := w64 _ (by omega) (by omega)
  have v9 : IntKind.i64.wrap (256 * x6 + x7) = 256 * x6 + x7 := w64 _ (by omega) (by omega)
  clear h hcell ho hll hk
  go_enter Try.func9, Try.ntmps9
  go_upto_region 1 with fail
  have hs1 : (w.alloc (.cells Ho.zero.cs 23)).heap.size = w.heap.size + 1 := by simp
  generalize w.alloc (.cells Ho.zero.cs 23) = w1 at *
  obtain ⟨g1, hg1⟩ : ∃ g1, g1 = w.heap.size + 1 := ⟨_, rfl⟩
  rw [← hg1] at hs1
  have hg0 : w.heap.size < g1 := by omega
  have HG1 := hid hg1
  clear hg1
  go_upto_region 7 with fail
  clear q1 q2 q3 e4
  refine wp_region_held_drew (S := fun w' => w'.cell? ⟨b, off + 4, none⟩ = some (.int .u8 x4) ∧ w'.cell? ⟨b, off + 5, none⟩ = some (.int .u8 x5) ∧ w'.cell? ⟨b, off + 6, none⟩ = some (.int .u8 x6) ∧ w'.cell? ⟨b, off + 7, none⟩ = some (.int .u8 x7)) (by kernel_rfl) ?_ (fun hHeld => ?_)
  · exact ⟨q4, q5, q6, q7⟩
  refine wpAnyH_take (i := 0) (oi := _) (v := ?va0) rfl (by kernel_rfl) (by kernel_rfl) (by kernel_rfl) (fun _ _ _ h => h) (Or.inl ⟨by rfl, ?hya0⟩) (by assumption) ?resta0
  case hya0 => (intro w hSw; (try dsimp only at hSw); go_split_ands; go_simp; try (with_reducible rfl))
  try simp only [List.getElem_toArray, List.getElem_cons_zero, List.getElem_cons_succ, Act.put, List.setIfInBounds_toArray, List.set_cons_zero, List.set_cons_succ]
  refine wpAnyH_take (i := 1) (oi := _) (v := ?va1) rfl (by kernel_rfl) (by kernel_rfl) (by kernel_rfl) (fun _ _ _ h => h) (Or.inl ⟨by rfl, ?hya1⟩) (by assumption) ?resta1
  case hya1 => (intro w hSw; (try dsimp only at hSw); go_split_ands; go_simp; try (with_reducible rfl))
  try simp only [List.getElem_toArray, List.getElem_cons_zero, List.getElem_cons_succ, Act.put, List.setIfInBounds_toArray, List.set_cons_zero, List.set_cons_succ]
  refine wpAnyH_take (i := 2) (oi := _) (v := ?va2) rfl (by kernel_rfl) (by kernel_rfl) (by kernel_rfl) (fun _ _ _ h => h) (Or.inl ⟨by rfl, ?hya2⟩) (by assumption) ?resta2
  case hya2 => (intro w hSw; (try dsimp only at hSw); go_split_ands; go_simp; try (with_reducible rfl))
  try simp only [List.getElem_toArray, List.getElem_cons_zero, List.getElem_cons_succ, Act.put, List.setIfInBounds_toArray, List.set_cons_zero, List.set_cons_succ]
  refine wpAnyH_take (i := 3) (oi := _) (v := ?va3) rfl (by kernel_rfl) (by kernel_rfl) (by kernel_rfl) (fun _ _ _ h => h) (Or.inl ⟨by rfl, ?hya3⟩) (by assumption) ?resta3
  case hya3 => (intro w hSw; (try dsimp only at hSw); go_split_ands; go_simp; try (with_reducible rfl))
  try simp only [List.getElem_toArray, List.getElem_cons_zero, List.getElem_cons_succ, Act.put, List.setIfInBounds_toArray, List.set_cons_zero, List.set_cons_succ]
  refine wpAnyH_take (i := 4) (oi := _) (v := ?va4) rfl (by kernel_rfl) (by kernel_rfl) (by kernel_rfl) (fun _ _ _ h => h) (Or.inl ⟨by rfl, ?hya4⟩) (by assumption) ?resta4
  case hya4 => (intro w hSw; (try dsimp only at hSw); go_split_ands; go_simp; try (with_reducible rfl))
  try simp only [List.getElem_toArray, List.getElem_cons_zero, List.getElem_cons_succ, Act.put, List.setIfInBounds_toArray, List.set_cons_zero, List.set_cons_succ]
  refine wpAnyH_take (i := 5) (oi := _) (v := ?va5) rfl (by kernel_rfl) (by kernel_rfl) (by kernel_rfl) (fun _ _ _ h => h) (Or.inl ⟨by rfl, ?hya5⟩) (by assumption) ?resta5
  case hya5 => (intro w hSw; (try dsimp only at hSw); go_split_ands; go_simp; try (with_reducible rfl))
  try simp only [List.getElem_toArray, List.getElem_cons_zero, List.getElem_cons_succ, Act.put, List.setIfInBounds_toArray, List.set_cons_zero, List.set_cons_succ]
  refine wpAnyH_take (i := 6) (oi := _) (v := ?va6) rfl (by kernel_rfl) (by kernel_rfl) (by kernel_rfl) (fun _ _ _ h => h) (Or.inl ⟨by rfl, ?hya6⟩) (by assumption) ?resta6
  case hya6 => (intro w hSw; (try dsimp only at hSw); go_split_ands; go_simp; try (with_reducible rfl))
  try simp only [List.getElem_toArray, List.getElem_cons_zero, List.getElem_cons_succ, Act.put, List.setIfInBounds_toArray, List.set_cons_zero, List.set_cons_succ]
  refine wpAnyH_take (i := 7) (oi := _) (v := ?va7) rfl (by kernel_rfl) (by kernel_rfl) (by kernel_rfl) (fun _ _ _ h => h) (Or.inl ⟨by rfl, ?hya7⟩) (by assumption) ?resta7
  case hya7 => (intro w hSw; (try dsimp only at hSw); go_split_ands; go_simp; try (with_reducible rfl))
  try simp only [List.getElem_toArray, List.getElem_cons_zero, List.getElem_cons_succ, Act.put, List.setIfInBounds_toArray, List.set_cons_zero, List.set_cons_succ]
  refine wpAnyH_take (i := 8) (oi := _) (v := ?va8) rfl (by kernel_rfl) (by kernel_rfl) (by kernel_rfl) (fun _ _ _ h => h) (Or.inl ⟨by rfl, ?hya8⟩) (by assumption) ?resta8
  case hya8 => (intro w hSw; (try dsimp only at hSw); go_split_ands; go_simp; try (with_reducible rfl))
  try simp only [List.getElem_toArray, List.getElem_cons_zero, List.getElem_cons_succ, Act.put, List.setIfInBounds_toArray, List.set_cons_zero, List.set_cons_succ]
  refine wpAnyH_take (i := 9) (oi := _) (v := ?va9) rfl (by kernel_rfl) (by kernel_rfl) (by kernel_rfl) (fun _ _ _ h => h) (Or.inl ⟨by rfl, ?hya9⟩) (by assumption) ?resta9
  case hya9 => (intro w hSw; (try dsimp only at hSw); go_split_ands; go_simp; try (with_reducible rfl))
  try simp only [List.getElem_toArray, List.getElem_cons_zero, List.getElem_cons_succ, Act.put, List.setIfInBounds_toArray, List.set_cons_zero, List.set_cons_succ]
  refine wpAnyH_take (i := 10) (oi := _) (v := ?va10) rfl (by kernel_rfl) (by kernel_rfl) (by kernel_rfl) (fun _ _ _ h => h) (Or.inl ⟨by rfl, ?hya10⟩) (by assumption) ?resta10
  case hya10 => (intro w hSw; (try dsimp only at hSw); go_split_ands; go_simp; try (with_reducible rfl))
  try simp only [List.getElem_toArray, List.getElem_cons_zero, List.getElem_cons_succ, Act.put, List.setIfInBounds_toArray, List.set_cons_zero, List.set_cons_succ]
  refine wpAnyH_take (i := 11) (oi := _) (v := ?va11) rfl (by kernel_rfl) (by kernel_rfl) (by kernel_rfl) (fun _ _ _ h => h) (Or.inl ⟨by rfl, ?hya11⟩) (by assumption) ?resta11
  case hya11 => (intro w hSw; (try dsimp only at hSw); go_split_ands; go_simp; try (with_reducible rfl))
  try simp only [List.getElem_toArray, List.getElem_cons_zero, List.getElem_cons_succ, Act.put, List.setIfInBounds_toArray, List.set_cons_zero, List.set_cons_succ]
  refine wpAnyH_take (i := 12) (oi := _) (v := ?va12) rfl (by kernel_rfl) (by kernel_rfl) (by kernel_rfl) (fun _ _ _ h => h) (Or.inl ⟨by rfl, ?hya12⟩) (by assumption) ?resta12
  case hya12 => (intro w hSw; (try dsimp only at hSw); go_split_ands; go_simp; try (with_reducible rfl))
  try simp only [List.getElem_toArray, List.getElem_cons_zero, List.getElem_cons_succ, Act.put, List.setIfInBounds_toArray, List.set_cons_zero, List.set_cons_succ]
  refine wpAnyH_take (i := 13) (oi := _) (v := ?va13) rfl (by kernel_rfl) (by kernel_rfl) (by kernel_rfl) (fun _ _ _ h => h) (Or.inl ⟨by rfl, ?hya13⟩) (by assumption) ?resta13
  case hya13 => (intro w hSw; (try dsimp only at hSw); go_split_ands; go_simp; try (with_reducible rfl))
  try simp only [List.getElem_toArray, List.getElem_cons_zero, List.getElem_cons_succ, Act.put, List.setIfInBounds_toArray, List.set_cons_zero, List.set_cons_succ]
  refine wpAnyH_take (i := 14) (oi := _) (v := ?va14) rfl (by kernel_rfl) (by kernel_rfl) (by kernel_rfl) (fun _ _ _ h => h) (Or.inl ⟨by rfl, ?hya14⟩) (by assumption) ?resta14
  case hya14 => (intro w hSw; (try dsimp only at hSw); go_split_ands; go_simp; try (with_reducible rfl))
  try simp only [List.getElem_toArray, List.getElem_cons_zero, List.getElem_cons_succ, Act.put, List.setIfInBounds_toArray, List.set_cons_zero, List.set_cons_succ]
  refine wpAnyH_take (i := 15) (oi := _) (v := ?va15) rfl (by kernel_rfl) (by kernel_rfl) (by kernel_rfl) (fun _ _ _ h => h) (Or.inl ⟨by rfl, ?hya15⟩) (by assumption) ?resta15
  case hya15 => (intro w hSw; (try dsimp only at hSw); go_split_ands; go_simp; try (with_reducible rfl))
  try simp only [List.getElem_toArray, List.getElem_cons_zero, List.getElem_cons_succ, Act.put, List.setIfInBounds_toArray, List.set_cons_zero, List.set_cons_succ]
  refine wpAnyH_take (i := 16) (oi := _) (v := ?va16) rfl (by kernel_rfl) (by kernel_rfl) (by kernel_rfl) (fun _ _ _ h => h) (Or.inl ⟨by rfl, ?hya16⟩) (by assumption) ?resta16
  case hya16 => (intro w hSw; (try dsimp only at hSw); go_split_ands; go_simp; try (with_reducible rfl))
  try simp only [List.getElem_toArray, List.getElem_cons_zero, List.getElem_cons_succ, Act.put, List.setIfInBounds_toArray, List.set_cons_zero, List.set_cons_succ]
  refine wpAnyH_take (i := 17) (oi := _) (v := ?va17) rfl (by kernel_rfl) (by kernel_rfl) (by kernel_rfl) (fun _ _ _ h => h) (Or.inl ⟨by rfl, ?hya17⟩) (by assumption) ?resta17
  case hya17 => (intro w hSw; (try dsimp only at hSw); go_split_ands; go_simp; try (with_reducible rfl))
  try simp only [List.getElem_toArray, List.getElem_cons_zero, List.getElem_cons_succ, Act.put, List.setIfInBounds_toArray, List.set_cons_zero, List.set_cons_succ]
  refine wpAnyH_take (i := 18) (oi := _) (v := ?va18) rfl (by kernel_rfl) (by kernel_rfl) (by kernel_rfl) (fun _ _ _ h => h) (Or.inl ⟨by rfl, ?hya18⟩) (by assumption) ?resta18
  case hya18 => (intro w hSw; (try dsimp only at hSw); go_split_ands; go_simp; try (with_reducible rfl))
  try simp only [List.getElem_toArray, List.getElem_cons_zero, List.getElem_cons_succ, Act.put, List.setIfInBounds_toArray, List.set_cons_zero, List.set_cons_succ]
  refine wpAnyH_take (i := 19) (oi := _) (v := ?va19) rfl (by kernel_rfl) (by kernel_rfl) (by kernel_rfl) (fun _ _ _ h => h) (Or.inl ⟨by rfl, ?hya19⟩) (by assumption) ?resta19
  case hya19 => (intro w hSw; (try dsimp only at hSw); go_split_ands; go_simp; try (with_reducible rfl))
  try simp only [List.getElem_toArray, List.getElem_cons_zero, List.getElem_cons_succ, Act.put, List.setIfInBounds_toArray, List.set_cons_zero, List.set_cons_succ]
  refine wpAnyH_take (i := 20) (oi := _) (v := ?va20) rfl (by kernel_rfl) (by kernel_rfl) (by kernel_rfl) (fun _ _ _ h => h) (Or.inl ⟨by rfl, ?hya20⟩) (by assumption) ?resta20
  case hya20 => (intro w hSw; (try dsimp only at hSw); go_split_ands; go_simp; try (with_reducible rfl))
  try simp only [List.getElem_toArray, List.getElem_cons_zero, List.getElem_cons_succ, Act.put, List.setIfInBounds_toArray, List.set_cons_zero, List.set_cons_succ]
  refine wpAnyH_take (i := 21) (oi := _) (v := ?va21) rfl (by kernel_rfl) (by kernel_rfl) (by kernel_rfl) (fun _ _ _ h => h) (Or.inl ⟨by rfl, ?hya21⟩) (by assumption) ?resta21
  case hya21 => (intro w hSw; (try dsimp only at hSw); go_split_ands; go_simp; try (with_reducible rfl))
  try simp only [List.getElem_toArray, List.getElem_cons_zero, List.getElem_cons_succ, Act.put, List.setIfInBounds_toArray, List.set_cons_zero, List.set_cons_succ]
  refine wpAnyH_take (i := 22) (oi := _) (v := ?va22) rfl (by kernel_rfl) (by kernel_rfl) (by kernel_rfl) (fun _ _ _ h => h) (Or.inl ⟨by rfl, ?hya22⟩) (by assumption) ?resta22
  case hya22 => (intro w hSw; (try dsimp only at hSw); go_split_ands; go_simp; try (with_reducible rfl))
  try simp only [List.getElem_toArray, List.getElem_cons_zero, List.getElem_cons_succ, Act.put, List.setIfInBounds_toArray, List.set_cons_zero, List.set_cons_succ]
  refine wpAnyH_take (i := 23) (oi := _) (v := ?va23) rfl (by kernel_rfl) (by kernel_rfl) (by kernel_rfl) (fun _ _ _ h => h) (Or.inl ⟨by rfl, ?hya23⟩) (by assumption) ?resta23
  case hya23 => (intro w hSw; (try dsimp only at hSw); go_split_ands; go_simp; try (with_reducible rfl))
  try simp only [List.getElem_toArray, List.getElem_cons_zero, List.getElem_cons_succ, Act.put, List.setIfInBounds_toArray, List.set_cons_zero, List.set_cons_succ]
  refine wpAnyH_take (i := 24) (oi := _) (v := ?va24) rfl (by kernel_rfl) (by kernel_rfl) (by kernel_rfl) (fun _ _ _ h => h) (Or.inl ⟨by rfl, ?hya24⟩) (by assumption) ?resta24
  case hya24 => (intro w hSw; (try dsimp only at hSw); go_split_ands; go_simp; try (with_reducible rfl))
  try simp only [List.getElem_toArray, List.getElem_cons_zero, List.getElem_cons_succ, Act.put, List.setIfInBounds_toArray, List.set_cons_zero, List.set_cons_succ]
  refine wpAnyH_take (i := 25) (oi := _) (v := ?va25) rfl (by kernel_rfl) (by kernel_rfl) (by kernel_rfl) (fun _ _ _ h => h) (Or.inl ⟨by rfl, ?hya25⟩) (by assumption) ?resta25
  case hya25 => (intro w hSw; (try dsimp only at hSw); go_split_ands; go_simp; try (with_reducible rfl))
  try simp only [List.getElem_toArray, List.getElem_cons_zero, List.getElem_cons_succ, Act.put, List.setIfInBounds_toArray, List.set_cons_zero, List.set_cons_succ]
  refine wpAnyH_take (i := 26) (oi := _) (v := ?va26) rfl (by kernel_rfl) (by kernel_rfl) (by kernel_rfl) (fun _ _ _ h => h) (Or.inl ⟨by rfl, ?hya26⟩) (by assumption) ?resta26
  case hya26 => (intro w hSw; (try dsimp only at hSw); go_split_ands; go_simp; try (with_reducible rfl))
  try simp only [List.getElem_toArray, List.getElem_cons_zero, List.getElem_cons_succ, Act.put, List.setIfInBounds_toArray, List.set_cons_zero, List.set_cons_succ]
  refine wpAnyH_take (i := 27) (oi := _) (v := ?va27) rfl (by kernel_rfl) (by kernel_rfl) (by kernel_rfl) (fun _ _ _ h => h) (Or.inl ⟨by rfl, ?hya27⟩) (by assumption) ?resta27
  case hya27 => (intro w hSw; (try dsimp only at hSw); go_split_ands; go_simp; try (with_reducible rfl))
  try simp only [List.getElem_toArray, List.getElem_cons_zero, List.getElem_cons_succ, Act.put, List.setIfInBounds_toArray, List.set_cons_zero, List.set_cons_succ]
  refine wpAnyH_take (i := 28) (oi := _) (v := ?va28) rfl (by kernel_rfl) (by kernel_rfl) (by kernel_rfl) (fun _ _ _ h => h) (Or.inl ⟨by rfl, ?hya28⟩) (by assumption) ?resta28
  case hya28 => (intro w hSw; (try dsimp only at hSw); go_split_ands; go_simp; try (with_reducible rfl))
  try simp only [List.getElem_toArray, List.getElem_cons_zero, List.getElem_cons_succ, Act.put, List.setIfInBounds_toArray, List.set_cons_zero, List.set_cons_succ]
  refine wpAnyH_take (i := 29) (oi := _) (v := ?va29) rfl (by kernel_rfl) (by kernel_rfl) (by kernel_rfl) (fun _ _ _ h => h) (Or.inl ⟨by rfl, ?hya29⟩) (by assumption) ?resta29
  case hya29 => (intro w hSw; (try dsimp only at hSw); go_split_ands; go_simp; try (with_reducible rfl))
  try simp only [List.getElem_toArray, List.getElem_cons_zero, List.getElem_cons_succ, Act.put, List.setIfInBounds_toArray, List.set_cons_zero, List.set_cons_succ]
  refine wpAnyH_take (i := 30) (oi := _) (v := ?va30) rfl (by kernel_rfl) (by kernel_rfl) (by kernel_rfl) (fun _ _ _ h => h) (Or.inl ⟨by rfl, ?hya30⟩) (by assumption) ?resta30
  case hya30 => (intro w hSw; (try dsimp only at hSw); go_split_ands; go_simp; try (with_reducible rfl))
  try simp only [List.getElem_toArray, List.getElem_cons_zero, List.getElem_cons_succ, Act.put, List.setIfInBounds_toArray, List.set_cons_zero, List.set_cons_succ]
  refine wpAnyH_take (i := 31) (oi := _) (v := .agg P.cs) rfl (by kernel_rfl) (by kernel_rfl) (by kernel_rfl) (fun _ _ _ h => h) (yldB or_ (by rfl) _ _ _ _ _ rfl P (by rw [HP.out]; rfl) (by rw [HP.out]; rfl) (by rw [HP.out]; rfl) (by rw [HP.out]; rfl) (by rw [HP.out]; rfl)) (by assumption) ?_
  try simp only [List.getElem_toArray, List.getElem_cons_zero, List.getElem_cons_succ, Act.put, List.setIfInBounds_toArray, List.set_cons_zero, List.set_cons_succ]
  clear q4 q5 q6 q7 u1 u2 u3 u4 u5
  refine wpAnyH_ready (rs := [32]) (by kernel_rfl) (by simp) ?_
  refine AllReadyH.cons (o := _) rfl (fun K hK => ?_) AllReadyH.nil
  go_simp
  have N2 : Hid (Row (w1.alloc (.cells Ho.zero.cs 23)).drew g1 23 Ho.zero.cs) := by
    have := Row.new w1 23 Ho.zero.cs
    rw [hs1] at this
    exact this.drewN 1
  have B2 : Hid (Below w.heap.size w (w1.alloc (.cells Ho.zero.cs 23)).drew) := bdrew (balloc B1.out (.cells Ho.zero.cs 23)) 1
  have Z2 : Hid (Row (w1.alloc (.cells Ho.zero.cs 23)).drew w.heap.size 23 Ho.zero.cs) := (Z1.out.below (balloc (Below.refl w1.heap.size w1) (.cells Ho.zero.cs 23))).drewN 1
  have J2 := hid (HLs.out.below B2.out)
  generalize (w1.alloc (.cells Ho.zero.cs 23)).drew = w2 at *
  refine hK.out _ _ ⟨by rw [HX4.out]; exact J2.out.atk 4 (by omega), by rw [HX5.out]; exact J2.out.atk 5 (by omega), by rw [HX6.out]; exact J2.out.atk 6 (by omega), by rw [HX7.out]; exact J2.out.atk 7 (by omega)⟩ (fun hHeld => ?_)
  clear hK K
  try simp only [List.getElem_toArray, List.getElem_cons_zero, List.getElem_cons_succ, Act.put, List.setIfInBounds_toArray, List.set_cons_zero, List.set_cons_succ]
  refine wpAnyH_ready (rs := [33]) (by kernel_rfl) (by simp) ?_
  refine AllReadyH.cons (o := _) rfl (fun K hK => ?_) AllReadyH.nil
  refine step_st rfl 23 _ _ rfl g1 P.cs rfl rfl 23 Ho.zero.cs N2.out or_.info rfl P.one ?_
  have N3 := hid (N2.out.setRow P.cs)
  have Z3 := hid (Z2.out.rowOther g1 P.cs (by omega))
  have B3 := hid (below_setRow' B2.out (g := g1) (by omega) P.cs)
  have J3 := hid (HLs.out.below B3.out)
  generalize w2.setRow g1 P.cs = w3 at *
  refine hK.out _ _ ⟨by rw [HX4.out]; exact J3.out.atk 4 (by omega), by rw [HX5.out]; exact J3.out.atk 5 (by omega), by rw [HX6.out]; exact J3.out.atk 6 (by omega), by rw [HX7.out]; exact J3.out.atk 7 (by omega)⟩ (fun hHeld => ?_)
  clear hK K
  try simp only [List.getElem_toArray, List.getElem_cons_zero, List.getElem_cons_succ, Act.put, List.setIfInBounds_toArray, List.set_cons_zero, List.set_cons_succ]
  refine wpAnyH_done (by kernel_rfl) ?_ _
  clear hHeld N2 B2 Z2 J2 B1 Z1
  go_upto_region 8 with fail
  have q0' : w3.cell? ⟨b, off, none⟩ = some (.int .u8 x0) := by rw [HX0.out]; exact J3.out.atk 0 (by omega)
  by_cases hc8 : cap = 8
  · subst hc8
    have hl8 : len = 8 := by omega
    subst hl8
    refine wp_region_held_drew (S := fun w' => w'.cell? ⟨b, off, none⟩ = some (.int .u8 x0) ∧ Row w' g1 23 P.cs) (by kernel_rfl) ?_ (fun hHeld => ?_)
    · exact ⟨q0', N3.out⟩
    refine wpAnyH_take (i := 0) (oi := _) (v := ?vc0) rfl (by kernel_rfl) (by kernel_rfl) (by kernel_rfl) (fun _ _ _ h => h) (Or.inl ⟨by rfl, ?hyc0⟩) (by assumption) ?restc0
    case hyc0 => (intro w hSw; (try dsimp only at hSw); go_split_ands; go_simp; try (with_reducible rfl))
    try simp only [List.getElem_toArray, List.getElem_cons_zero, List.getElem_cons_succ, Act.put, List.setIfInBounds_toArray, List.set_cons_zero, List.set_cons_succ]
    refine wpAnyH_take (i := 1) (oi := _) (v := ?vc1) rfl (by kernel_rfl) (by kernel_rfl) (by kernel_rfl) (fun _ _ _ h => h) (Or.inl ⟨by rfl, ?hyc1⟩) (by assumption) ?restc1
    case hyc1 => (intro w hSw; (try dsimp only at hSw); go_split_ands; go_simp; try (with_reducible rfl))
    try simp only [List.getElem_toArray, List.getElem_cons_zero, List.getElem_cons_succ, Act.put, List.setIfInBounds_toArray, List.set_cons_zero, List.set_cons_succ]
    refine wpAnyH_take (i := 2) (oi := _) (v := ?vc2) rfl (by kernel_rfl) (by kernel_rfl) (by kernel_rfl) (fun _ _ _ h => h) (Or.inl ⟨by rfl, ?hyc2⟩) (by assumption) ?restc2
    case hyc2 => (intro w hSw; (try dsimp only at hSw); go_split_ands; go_simp; try (with_reducible rfl))
    try simp only [List.getElem_toArray, List.getElem_cons_zero, List.getElem_cons_succ, Act.put, List.setIfInBounds_toArray, List.set_cons_zero, List.set_cons_succ]
    refine wpAnyH_take (i := 3) (oi := _) (v := ?vc3) rfl (by kernel_rfl) (by kernel_rfl) (by kernel_rfl) (fun _ _ _ h => h) (Or.inl ⟨by rfl, ?hyc3⟩) (by assumption) ?restc3
    case hyc3 => (intro w hSw; (try dsimp only at hSw); go_split_ands; go_simp; try (with_reducible rfl))
    try simp only [List.getElem_toArray, List.getElem_cons_zero, List.getElem_cons_succ, Act.put, List.setIfInBounds_toArray, List.set_cons_zero, List.set_cons_succ]
    refine wpAnyH_take (i := 4) (oi := _) (v := .agg P.cs) rfl (by kernel_rfl) (by kernel_rfl) (by kernel_rfl) (fun _ _ _ h => h) (yldO or_ (by rfl) _ rfl g1 rfl P _ (fun w h => h.2)) (by assumption) ?_
    try simp only [List.getElem_toArray, List.getElem_cons_zero, List.getElem_cons_succ, Act.put, List.setIfInBounds_toArray, List.set_cons_zero, List.set_cons_succ]
    refine wpAnyH_take (i := 5) (oi := _) (v := ?vc5) rfl (by kernel_rfl) (by kernel_rfl) (by kernel_rfl) (fun _ _ _ h => h) (Or.inl ⟨by rfl, ?hyc5⟩) (by assumption) ?restc5
    case hyc5 => (intro w hSw; (try dsimp only at hSw); go_split_ands; go_simp; try (with_reducible rfl))
    try simp only [List.getElem_toArray, List.getElem_cons_zero, List.getElem_cons_succ, Act.put, List.setIfInBounds_toArray, List.set_cons_zero, List.set_cons_succ]
    refine wpAnyH_take (i := 6) (oi := _) (v := ?vc6) rfl (by kernel_rfl) (by kernel_rfl) (by kernel_rfl) (fun _ _ _ h => h) (Or.inl ⟨by rfl, ?hyc6⟩) (by assumption) ?restc6
    case hyc6 => (intro w hSw; (try dsimp only at hSw); go_split_ands; go_simp; try (with_reducible rfl))
    try simp only [List.getElem_toArray, List.getElem_cons_zero, List.getElem_cons_succ, Act.put, List.setIfInBounds_toArray, List.set_cons_zero, List.set_cons_succ]
    refine wpAnyH_take (i := 7) (oi := _) (v := ?vc7) rfl (by kernel_rfl) (by kernel_rfl) (by kernel_rfl) (fun _ _ _ h => h) (Or.inl ⟨by rfl, ?hyc7⟩) (by assumption) ?restc7
    case hyc7 => (intro w hSw; (try dsimp only at hSw); go_split_ands; go_simp; try (with_reducible rfl))
    try simp only [List.getElem_toArray, List.getElem_cons_zero, List.getElem_cons_succ, Act.put, List.setIfInBounds_toArray, List.set_cons_zero, List.set_cons_succ]
    refine wpAnyH_ready (rs := [8]) (by kernel_rfl) (by simp) ?_
    refine AllReadyH.cons (o := _) rfl (fun K hK => ?_) AllReadyH.nil
    refine step_st rfl 23 _ _ rfl w.heap.size P.cs rfl rfl 23 Ho.zero.cs (Z3.out.drewN 1) or_.info rfl P.one ?_
    have bE : Below w.heap.size w ((w3.drewN 1).setRow w.heap.size P.cs) := below_setRow' (bdrew B3.out 1) (Nat.le_refl _) _
    refine hK.out _ _ ⟨by rw [HX0.out]; exact (HLs.out.below bE).atk 0 (by omega), (N3.out.drewN 1).rowOther w.heap.size P.cs (by omega)⟩ (fun hHeld => ?_)
    clear hK K
    try simp only [List.getElem_toArray, List.getElem_cons_zero, List.getElem_cons_succ, Act.put, List.setIfInBounds_toArray, List.set_cons_zero, List.set_cons_succ]
    refine wpAnyH_take (i := 9) (oi := _) (v := ?vd9) rfl (by kernel_rfl) (by kernel_rfl) (by kernel_rfl) (fun _ _ _ h => h) (Or.inl ⟨by rfl, ?hyd9⟩) (by assumption) ?restd9
    case hyd9 => (intro w hSw; (try dsimp only at hSw); go_split_ands; go_simp; try (with_reducible rfl))
    try simp only [List.getElem_toArray, List.getElem_cons_zero, List.getElem_cons_succ, Act.put, List.setIfInBounds_toArray, List.set_cons_zero, List.set_cons_succ]
    refine wpAnyH_take (i := 10) (oi := _) (v := ?vd10) rfl (by kernel_rfl) (by kernel_rfl) (by kernel_rfl) (fun _ _ _ h => h) (Or.inl ⟨by rfl, ?hyd10⟩) (by assumption) ?restd10
    case hyd10 => (intro w hSw; (try dsimp only at hSw); go_split_ands; go_simp; try (with_reducible rfl))
    try simp only [List.getElem_toArray, List.getElem_cons_zero, List.getElem_cons_succ, Act.put, List.setIfInBounds_toArray, List.set_cons_zero, List.set_cons_succ]
    refine wpAnyH_done (by kernel_rfl) ?_ _
    go_wp2_with fail
    refine bodyPost_ret (resOd or_ rfl _ _ w.heap.size 23 P (.int .i64 x0) (.slice (some ⟨b, off, none⟩) 0 0) (.int .i64 0) rfl rfl rfl rfl (Row.setRow (Z3.out.drewN 1) _)) rfl ⟨_, _, _, rfl, ?_, bE⟩
    rw [List.drop_eq_nil_of_le (by rw [HLL.out]; omega)]
    exact ⟨rfl, Nat.le_refl _, by decide, (fun h => by cases h), fun k hk => by omega⟩
  · have hc8' : ¬ (8 = cap) := fun e => hc8 e.symm
    refine wp_region_held_drew (S := fun w' => w'.cell? ⟨b, off, none⟩ = some (.int .u8 x0) ∧ Row w' g1 23 P.cs) (by kernel_rfl) ?_ (fun hHeld => ?_)
    · exact ⟨q0', N3.out⟩
    refine wpAnyH_take (i := 0) (oi := _) (v := ?ve0) rfl (by kernel_rfl) (by kernel_rfl) (by kernel_rfl) (fun _ _ _ h => h) (Or.inl ⟨by rfl, ?hye0⟩) (by assumption) ?reste0
    case hye0 => (intro w hSw; (try dsimp only at hSw); go_split_ands; go_simp; try (with_reducible rfl))
    try simp only [List.getElem_toArray, List.getElem_cons_zero, List.getElem_cons_succ, Act.put, List.setIfInBounds_toArray, List.set_cons_zero, List.set_cons_succ]
    refine wpAnyH_take (i := 1) (oi := _) (v := ?ve1) rfl (by kernel_rfl) (by kernel_rfl) (by kernel_rfl) (fun _ _ _ h => h) (Or.inl ⟨by rfl, ?hye1⟩) (by assumption) ?reste1
    case hye1 => (intro w hSw; (try dsimp only at hSw); go_split_ands; go_simp; try (with_reducible rfl))
    try simp only [List.getElem_toArray, List.getElem_cons_zero, List.getElem_cons_succ, Act.put, List.setIfInBounds_toArray, List.set_cons_zero, List.set_cons_succ]
    refine wpAnyH_take (i := 2) (oi := _) (v := ?ve2) rfl (by kernel_rfl) (by kernel_rfl) (by kernel_rfl) (fun _ _ _ h => h) (Or.inl ⟨by rfl, ?hye2⟩) (by assumption) ?reste2
    case hye2 => (intro w hSw; (try dsimp only at hSw); go_split_ands; go_simp; try (with_reducible rfl))
    try simp only [List.getElem_toArray, List.getElem_cons_zero, List.getElem_cons_succ, Act.put, List.setIfInBounds_toArray, List.set_cons_zero, List.set_cons_succ]
    refine wpAnyH_take (i := 3) (oi := _) (v := ?ve3) rfl (by kernel_rfl) (by kernel_rfl) (by kernel_rfl) (fun _ _ _ h => h) (Or.inl ⟨by rfl, ?hye3⟩) (by assumption) ?reste3
    case hye3 => (intro w hSw; (try dsimp only at hSw); go_split_ands; go_simp; try (with_reducible rfl))
    try simp only [List.getElem_toArray, List.getElem_cons_zero, List.getElem_cons_succ, Act.put, List.setIfInBounds_toArray, List.set_cons_zero, List.set_cons_succ]
    refine wpAnyH_take (i := 4) (oi := _) (v := .agg P.cs) rfl (by kernel_rfl) (by kernel_rfl) (by kernel_rfl) (fun _ _ _ h => h) (yldO or_ (by rfl) _ rfl g1 rfl P _ (fun w h => h.2)) (by assumption) ?_
    try simp only [List.getElem_toArray, List.getElem_cons_zero, List.getElem_cons_succ, Act.put, List.setIfInBounds_toArray, List.set_cons_zero, List.set_cons_succ]
    refine wpAnyH_take (i := 5) (oi := _) (v := ?ve5) rfl (by kernel_rfl) (by kernel_rfl) (by kernel_rfl) (fun _ _ _ h => h) (Or.inl ⟨by rfl, ?hye5⟩) (by assumption) ?reste5
    case hye5 => (intro w hSw; (try dsimp only at hSw); go_split_ands; go_simp; try (with_reducible rfl))
    try simp only [List.getElem_toArray, List.getElem_cons_zero, List.getElem_cons_succ, Act.put, List.setIfInBounds_toArray, List.set_cons_zero, List.set_cons_succ]
    refine wpAnyH_take (i := 6) (oi := _) (v := ?ve6) rfl (by kernel_rfl) (by kernel_rfl) (by kernel_rfl) (fun _ _ _ h => h) (Or.inl ⟨by rfl, ?hye6⟩) (by assumption) ?reste6
    case hye6 => (intro w hSw; (try dsimp only at hSw); go_split_ands; go_simp; try (with_reducible rfl))
    try simp only [List.getElem_toArray, List.getElem_cons_zero, List.getElem_cons_succ, Act.put, List.setIfInBounds_toArray, List.set_cons_zero, List.set_cons_succ]
    refine wpAnyH_take (i := 7) (oi := _) (v := ?ve7) rfl (by kernel_rfl) (by kernel_rfl) (by kernel_rfl) (fun _ _ _ h => h) (Or.inl ⟨by rfl, ?hye7⟩) (by assumption) ?reste7
    case hye7 => (intro w hSw; (try dsimp only at hSw); go_split_ands; go_simp; try (with_reducible rfl))
    try simp only [List.getElem_toArray, List.getElem_cons_zero, List.getElem_cons_succ, Act.put, List.setIfInBounds_toArray, List.set_cons_zero, List.set_cons_succ]
    refine wpAnyH_ready (rs := [8]) (by kernel_rfl) (by simp) ?_
    refine AllReadyH.cons (o := _) rfl (fun K hK => ?_) AllReadyH.nil
    refine step_st rfl 23 _ _ rfl w.heap.size P.cs rfl rfl 23 Ho.zero.cs (Z3.out.drewN 1) or_.info rfl P.one ?_
    have bE : Below w.heap.size w ((w3.drewN 1).setRow w.heap.size P.cs) := below_setRow' (bdrew B3.out 1) (Nat.le_refl _) _
    refine hK.out _ _ ⟨by rw [HX0.out]; exact (HLs.out.below bE).atk 0 (by omega), (N3.out.drewN 1).rowOther w.heap.size P.cs (by omega)⟩ (fun hHeld => ?_)
    clear hK K
    try simp only [List.getElem_toArray, List.getElem_cons_zero, List.getElem_cons_succ, Act.put, List.setIfInBounds_toArray, List.set_cons_zero, List.set_cons_succ]
    refine wpAnyH_take (i := 9) (oi := _) (v := ?vf9) rfl (by kernel_rfl) (by kernel_rfl) (by kernel_rfl) (fun _ _ _ h => h) (Or.inl ⟨by rfl, ?hyf9⟩) (by assumption) ?restf9
    case hyf9 => (intro w hSw; (try dsimp only at hSw); go_split_ands; go_simp; try (with_reducible rfl))
    try simp only [List.getElem_toArray, List.getElem_cons_zero, List.getElem_cons_succ, Act.put, List.setIfInBounds_toArray, List.set_cons_zero, List.set_cons_succ]
    refine wpAnyH_take (i := 10) (oi := _) (v := ?vf10) rfl (by kernel_rfl) (by kernel_rfl) (by kernel_rfl) (fun _ _ _ h => h) (Or.inl ⟨by rfl, ?hyf10⟩) (by assumption) ?restf10
    case hyf10 => (intro w hSw; (try dsimp only at hSw); go_split_ands; go_simp; try (with_reducible rfl))
    try simp only [List.getElem_toArray, List.getElem_cons_zero, List.getElem_cons_succ, Act.put, List.setIfInBounds_toArray, List.set_cons_zero, List.set_cons_succ]
    refine wpAnyH_done (by kernel_rfl) ?_ _
    go_wp2_with fail
    refine bodyPost_ret (resOd or_ rfl _ _ w.heap.size 23 P (.int .i64 x0) (.slice (some ⟨b, off + 8, none⟩) (len - 8) (cap - 8)) (.int .i64 0) rfl rfl rfl rfl (Row.setRow (Z3.out.drewN 1) _)) rfl ⟨_, _, _, rfl, ?_, bE⟩
    have hc := (HLs.out.below bE).cut 8 (len - 8) cap (by omega) (by omega) (Nat.le_refl _) (a' := some ⟨b, off + 8, none⟩) (fun _ => by simp [Addr.add_lit]) (fun e => absurd e hc8)
    rwa [List.take_of_length_le (by rw [List.length_drop, HLL.out]; omega)] at hc
theorem refDecode_any (a : Option Addr) (len cap : Nat) (l : List Int) (w : World) (h : Lies .u8 w a len cap l) (ho : Oct l) :
    Calls Try.prog 9 #[.slice a len cap] w fun r w' => ∃ a' n' c', r = .returned (.tuple #[.int .i64 (dcN l), .agg (dcO l).cs, .slice a' n' c', .int .i64 (dcE l)]) ∧ Lies .u8 w' a' n' c' (dcR l) ∧ Below w.heap.size w w' := by
  have hl := h.1
  have bad : ∀ x : Int, x ≠ 0 → dcE l = x → (Calls Try.prog 9 #[.slice a len cap] w fun r w' => r = .returned (.tuple #[.int .i64 0, .agg Ho.zero.cs, .slice none 0 0, .int .i64 x]) ∧ Below w.heap.size w w') →
      Calls Try.prog 9 #[.slice a len cap] w fun r w' => ∃ a' n' c', r = .returned (.tuple #[.int .i64 (dcN l), .agg (dcO l).cs, .slice a' n' c', .int .i64 (dcE l)]) ∧ Lies .u8 w' a' n' c' (dcR l) ∧ Below w.heap.size w w' := by
    intro x hx hE hc
    refine hc.mono ?_
    rintro r w' ⟨rfl, hb⟩
    rw [dcN, dcO, dcR, hE, if_neg hx, if_neg hx, if_neg hx]
    exact ⟨none, 0, 0, rfl, Lies.nil _ _, hb⟩
  by_cases h8 : len < 8
  · exact bad 4 (by decide) (by rw [dcE, if_pos (by omega)]) (rdc_short a len cap l w h ho h8)
  · by_cases hk : l.getD 1 0 = 0 ∧ l.getD 2 0 = 99 ∧ l.getD 3 0 = 4
    · by_cases hf : l.getD 4 0 % 32 = 0
      · have hE : dcE l = 0 := by rw [dcE, if_neg (by omega), if_pos hk, if_pos hf]
        rw [dcN, dcO, dcR, hE, if_pos rfl, if_pos rfl, if_pos rfl]
        exact rdc_ok a len cap l w h ho (by omega) hk.1 hk.2.1 hk.2.2 hf
      · exact bad 3 (by decide) (by rw [dcE, if_neg (by omega), if_pos hk, if_neg hf]) (rdc_form a len cap l w h ho (by omega) hk.1 hk.2.1 hk.2.2 hf)
    · exact bad 6 (by decide) (by rw [dcE, if_neg (by omega), if_neg hk]) (rdc_kind a len cap l w h ho (by omega) hk)
end Go.Proofs.Ytdfeahbpgchkoaa
