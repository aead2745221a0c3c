/- What addr's Has answers. -/
import Derived.Test.YtoijfnkbjdekoaaDoorCut
import Derived.Deep.RegionHeld3
namespace Go.Proofs.YtoijfnkbjdekoaaDoor
open Go.ChangeShapes Go.WideShapes Go.ChangeAt Go.RowKit
set_option linter.unusedVariables false
set_option linter.unusedSimpArgs false

/-- Bytes as a list of cells. -/
def cl (l : List Int) : List Value := l.map (Value.int .u8)
theorem cl_arr (l : List Int) : (cl l).toArray = u8s l := rfl
theorem cl_len (l : List Int) : (cl l).length = l.length := by simp [cl]
theorem Part.range {w : World} {b off : Nat} {l : List Int} (h : Part w b off (u8s l)) : w.rangeAt b off (cl l) := fun j v hv => h j v (by simpa [u8s, cl] using hv)
theorem range_below {w w' : World} {B b off : Nat} {l : List Value} (h : w.rangeAt b off l) (hb : Below B w w') (hB : b < B) : w'.rangeAt b off l := fun j v hv => (hb.cell (p := ⟨b, off + j, none⟩) hB).trans (h j v hv)
theorem below_drop {B : Nat} {w w' : World} {q : Nat} (h : Below B (w.drewN q) w') : Below B w w' := ⟨h.os, h.tape, h.output, h.size, h.block⟩

theorem below_drewN {B : Nat} {a w : World} (h : Below B a w) (q : Nat) : Below B a (w.drewN q) := ⟨h.os, h.tape, h.output, h.size, h.block⟩
theorem below_new (w : World) (o : Obj) : Below w.heap.size w (w.alloc o) := (Below.refl _ _).alloc (Nat.le_refl _) o
theorem below_new2 (w : World) (o o' : Obj) : Below w.heap.size w ((w.alloc o).alloc o') := (below_new w o).alloc (by simp) o'
theorem below_new3 (w : World) (o o' o'' : Obj) : Below w.heap.size w (((w.alloc o).alloc o').alloc o'') := (below_new2 w o o').alloc (by simp; omega) o''

/-- Has a prefix an address? -/
def hasB (p : List Int) (n : Int) (a : List Int) : Bool := bitsB n && cutL n a == p

set_option maxRecDepth 1000000 in
set_option maxHeartbeats 1600000 in
theorem has_any (p : List Int) (n : Int) (l : List Int) (w : World) (hp : Adr p) (ha : Adr l) :
    Calls Tryd.prog 26 #[.agg (pfx p n), .agg (u8s l)] w fun e w' => e = .returned (.bool (hasB p n l)) ∧ Below w.heap.size w w' := by
  have hR : Row ((w.alloc (.cells (pfx p n) 42)).alloc (.cells (u8s l) 25)) w.heap.size 42 (pfx p n) := (Row.new w 42 _).alloc _
  have hbt := hR.bits hp.1
  cases h : bitsB n
  · have hh : hasB p n l = false := by simp [hasB, h]
    go_enter Tryd.func26, Tryd.ntmps26
    go_wp2
    clear hp ha hR
    go_quiet ((go_at_call 36; exact Calls.quiet_of_same ((isBits_any _ _).mono (by rintro e w ⟨rfl, rfl⟩; exact ⟨by rw [h], rfl⟩))))
    go_wp2
    go_ret
    exact ⟨ret_bool hh.symm, below_drewN (below_new2 w _ _) _⟩
  · have hR2 : Row ((w.alloc (.cells (pfx p n) 42)).alloc (.cells (u8s l) 25)) (w.heap.size + 1) 25 (u8s l) := by simpa using Row.new (w.alloc (.cells (pfx p n) 42)) 25 (u8s l)
    have hq := eq25 (cutL n l) p (by rw [cutL_len]; exact ha.1) hp.1
    have r1 : ((w.alloc (.cells (pfx p n) 42)).alloc (.cells (u8s l) 25)).rangeAt w.heap.size 0 (cl p) := hR.pre.range
    have r2 : ((w.alloc (.cells (pfx p n) 42)).alloc (.cells (u8s l) 25)).rangeAt (w.heap.size + 1) 0 (cl l) := hR2.part.range
    have s1 : (Tryd.prog.info? 25).map (·.size) = some (cl p).length := by rw [cl_len, hp.1]; exact size25
    have s2 : (Tryd.prog.info? 25).map (·.size) = some (cl l).length := by rw [cl_len, ha.1]; exact size25
    have hu := Tryd.underlying25
    have f1 := cl_arr p
    have f2 := cl_arr l
    have HA : Hid (Adr l) := ha
    have HB : Hid (0 ≤ n ∧ n ≤ 128) := bitsB_yes h
    have HH : Hid (bitsB n = true) := h
    clear hp ha hR hR2 h
    go_enter Tryd.func26, Tryd.ntmps26
    go_wp2
    refine wp_region_held_drew (S := (fun w' => w'.rangeAt w.heap.size 0 (cl p) ∧ w'.rangeAt (w.heap.size + 1) 0 (cl l) ∧ w'.cell? ⟨w.heap.size, 16, none⟩ = some (.int .i64 n))) (by kernel_rfl) ?_ (fun hHeld => ?_)
    · exact ⟨r1, r2, hbt⟩
    refine wpAnyH_take (i := 0) (oi := _) (v := ?v0) rfl (by kernel_rfl) (by kernel_rfl) (by kernel_rfl) (fun _ _ _ h => h) (Or.inl ⟨by rfl, ?hy0⟩) (by assumption) ?rest0
    case hy0 => (intro w hSw; (try dsimp only at hSw); go_split_ands; go_simp; try (with_reducible rfl))
    try simp only [List.getElem_toArray, List.getElem_cons_zero, List.getElem_cons_succ, Act.put, List.setIfInBounds_toArray, List.set_cons_zero, List.set_cons_succ]
    refine wpAnyH_take (i := 1) (oi := _) (v := ?v1) rfl (by kernel_rfl) (by kernel_rfl) (by kernel_rfl) (fun _ _ _ h => h) (Or.inl ⟨by rfl, ?hy1⟩) (by assumption) ?rest1
    case hy1 => (intro w hSw; (try dsimp only at hSw); go_split_ands; go_simp; try (with_reducible rfl))
    try simp only [List.getElem_toArray, List.getElem_cons_zero, List.getElem_cons_succ, Act.put, List.setIfInBounds_toArray, List.set_cons_zero, List.set_cons_succ]
    refine wpAnyH_ready (rs := [2]) (by kernel_rfl) (by simp) ?_
    refine AllReadyH.cons (o := _) rfl (fun K hK => ?_) AllReadyH.nil
    go_simp
    refine (isBits_any _ _).mono ?_; rintro e w1 ⟨rfl, rfl⟩; rw [HH.out]
    go_wp2_with fail
    refine hK.out _ _ hHeld (fun hHeld => ?_)
    clear hK K
    try simp only [Act.put, List.setIfInBounds_toArray, List.set_cons_zero, List.set_cons_succ]
    refine wpAnyH_take (i := 3) (oi := _) (v := ?v3) rfl (by kernel_rfl) (by kernel_rfl) (by kernel_rfl) (fun _ _ _ h => h) (Or.inl ⟨by rfl, ?hy3⟩) (by assumption) ?rest3
    case hy3 => (intro w hSw; (try dsimp only at hSw); go_split_ands; go_simp; try (with_reducible rfl))
    try simp only [List.getElem_toArray, List.getElem_cons_zero, List.getElem_cons_succ, Act.put, List.setIfInBounds_toArray, List.set_cons_zero, List.set_cons_succ]
    refine wpAnyH_take (i := 4) (oi := _) (v := .agg (u8s l)) rfl (by kernel_rfl) (by kernel_rfl) (by kernel_rfl) (fun _ _ _ h => h) (yieldsIf_load_mid (by rfl) 25 _ rfl (w.heap.size + 1) 0 rfl (cl l) _ (fun w h => h.2.1) Tryd.underlying25 rfl s2) (by assumption) ?_
    try simp only [List.getElem_toArray, List.getElem_cons_zero, List.getElem_cons_succ, Act.put, List.setIfInBounds_toArray, List.set_cons_zero, List.set_cons_succ]
    refine wpAnyH_take (i := 5) (oi := _) (v := ?v5) rfl (by kernel_rfl) (by kernel_rfl) (by kernel_rfl) (fun _ _ _ h => h) (Or.inl ⟨by rfl, ?hy5⟩) (by assumption) ?rest5
    case hy5 => (intro w hSw; (try dsimp only at hSw); go_split_ands; go_simp; try (with_reducible rfl))
    try simp only [List.getElem_toArray, List.getElem_cons_zero, List.getElem_cons_succ, Act.put, List.setIfInBounds_toArray, List.set_cons_zero, List.set_cons_succ]
    refine wpAnyH_take (i := 6) (oi := _) (v := ?v6) rfl (by kernel_rfl) (by kernel_rfl) (by kernel_rfl) (fun _ _ _ h => h) (Or.inl ⟨by rfl, ?hy6⟩) (by assumption) ?rest6
    case hy6 => (intro w hSw; (try dsimp only at hSw); go_split_ands; go_simp; try (with_reducible rfl))
    try simp only [List.getElem_toArray, List.getElem_cons_zero, List.getElem_cons_succ, Act.put, List.setIfInBounds_toArray, List.set_cons_zero, List.set_cons_succ]
    refine wpAnyH_take (i := 8) (oi := _) (v := ?v8) rfl (by kernel_rfl) (by kernel_rfl) (by kernel_rfl) (fun _ _ _ h => h) (Or.inl ⟨by rfl, ?hy8⟩) (by assumption) ?rest8
    case hy8 => (intro w hSw; (try dsimp only at hSw); go_split_ands; go_simp; try (with_reducible rfl))
    try simp only [List.getElem_toArray, List.getElem_cons_zero, List.getElem_cons_succ, Act.put, List.setIfInBounds_toArray, List.set_cons_zero, List.set_cons_succ]
    refine wpAnyH_take (i := 9) (oi := _) (v := .agg (u8s p)) rfl (by kernel_rfl) (by kernel_rfl) (by kernel_rfl) (fun _ _ _ h => h) (yieldsIf_load_mid (by rfl) 25 _ rfl w.heap.size 0 rfl (cl p) _ (fun w h => h.1) Tryd.underlying25 rfl s1) (by assumption) ?_
    try simp only [List.getElem_toArray, List.getElem_cons_zero, List.getElem_cons_succ, Act.put, List.setIfInBounds_toArray, List.set_cons_zero, List.set_cons_succ]
    refine wpAnyH_ready (rs := [7]) (by kernel_rfl) (by simp) ?_
    refine AllReadyH.cons (o := _) rfl (fun K hK => ?_) AllReadyH.nil
    go_simp
    refine (cut_any l n _ HA.out HB.out.1 HB.out.2).mono ?_; rintro e w2 ⟨rfl, hb2⟩; have B2 : Hid (Below (w.heap.size + 2) ((w.alloc (.cells (pfx p n) 42)).alloc (.cells (u8s l) 25)) w2) := ⟨hb2.os, hb2.tape, hb2.output, hb2.size, fun k hk => hb2.block k (by simpa using hk)⟩; clear hb2; have q1 : w2.rangeAt w.heap.size 0 (cl p) := range_below r1 B2.out (by omega); have q2 : w2.rangeAt (w.heap.size + 1) 0 (cl l) := range_below r2 B2.out (by omega); have q3 : w2.cell? ⟨w.heap.size, 16, none⟩ = some (.int .i64 n) := (B2.out.cell (p := ⟨w.heap.size, 16, none⟩) (by show w.heap.size < _; omega)).trans hbt
    go_wp2_with fail
    refine hK.out _ _ ⟨q1, q2, q3⟩ (fun hHeld => ?_)
    clear hK K
    try simp only [Act.put, List.setIfInBounds_toArray, List.set_cons_zero, List.set_cons_succ]
    refine wpAnyH_take (i := 10) (oi := _) (v := ?v10) rfl (by kernel_rfl) (by kernel_rfl) (by kernel_rfl) (fun _ _ _ h => h) (Or.inl ⟨by rfl, ?hy10⟩) (by assumption) ?rest10
    case hy10 => (intro w hSw; (try dsimp only at hSw); go_split_ands; go_simp; try (with_reducible rfl))
    try simp only [List.getElem_toArray, List.getElem_cons_zero, List.getElem_cons_succ, Act.put, List.setIfInBounds_toArray, List.set_cons_zero, List.set_cons_succ]
    refine wpAnyH_take (i := 11) (oi := _) (v := ?v11) rfl (by kernel_rfl) (by kernel_rfl) (by kernel_rfl) (fun _ _ _ h => h) (Or.inl ⟨by rfl, ?hy11⟩) (by assumption) ?rest11
    case hy11 => (intro w hSw; (try dsimp only at hSw); go_split_ands; go_simp; try (with_reducible rfl))
    try simp only [List.getElem_toArray, List.getElem_cons_zero, List.getElem_cons_succ, Act.put, List.setIfInBounds_toArray, List.set_cons_zero, List.set_cons_succ]
    refine wpAnyH_take (i := 12) (oi := _) (v := ?v12) rfl (by kernel_rfl) (by kernel_rfl) (by kernel_rfl) (fun _ _ _ h => h) (Or.inl ⟨by rfl, ?hy12⟩) (by assumption) ?rest12
    case hy12 => (intro w hSw; (try dsimp only at hSw); go_split_ands; go_simp; try (with_reducible rfl))
    try simp only [List.getElem_toArray, List.getElem_cons_zero, List.getElem_cons_succ, Act.put, List.setIfInBounds_toArray, List.set_cons_zero, List.set_cons_succ]
    refine wpAnyH_done (by kernel_rfl) ?_ _
    all_goals
      go_wp2
      go_ret
      refine ⟨ret_bool (by rw [hasB, HH.out, Bool.true_and]), ?_⟩
      exact (below_new2 w _ _).trans (B2.out.mono (by omega))
end Go.Proofs.YtoijfnkbjdekoaaDoor
