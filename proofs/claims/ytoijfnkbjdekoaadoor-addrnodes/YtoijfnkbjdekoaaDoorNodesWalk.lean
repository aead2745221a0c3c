/- AddrNodes: its walk. -/
import Derived.Test.YtoijfnkbjdekoaaDoorPnode
import Derived.Test.YtoijfnkbjdekoaaDoorDoor
import Derived.Deep.CutRange
namespace Go.Proofs.YtoijfnkbjdekoaaDoor
open Go.ChangeShapes Go.WideShapes Go.ChangeAt Go.RowKit
set_option linter.unusedVariables false
set_option linter.unusedSimpArgs false

/-- What is said of a want and of what the program answers. -/
def Wants (l : List Int) (want : Int) : Prop := (nodB l = true ∧ want = nodN l ∧ 0 ≤ want ∧ nodE l = 0) ∨ (nodB l = false ∧ want = -1 ∧ nodE l = 8)
theorem refNode_is (l : List Int) (w : World) (ha : Adr l) :
    Calls Tryd.prog 19 #[.agg (u8s l)] w fun e w' => ∃ want, e = .returned (.int .i64 want) ∧ Wants l want ∧ Below w.heap.size w w' := by
  refine (refNode_any l w ha).mono ?_
  rintro e w' (⟨k, hk, rfl, hs, hf, hb⟩ | ⟨rfl, hno, hb⟩)
  · obtain ⟨h1, h2⟩ := nod_key l ha k hk hs hf
    refine ⟨(k : Int), rfl, Or.inl ⟨h1, ?_, by omega, ?_⟩, hb⟩
    · rw [nodN, if_pos h1, h2]
    · rw [nodE, if_pos h1]
  · have h1 := nod_no l ha hno
    exact ⟨-1, rfl, Or.inr ⟨h1, rfl, by rw [nodE, h1]; rfl⟩, hb⟩

theorem glob_lo (p : List Int) (n : Int) (i : Nat) (h : i < 8) : (globL p n).getD i 0 = p.getD i 0 := by
  simp only [globL, List.getD_eq_getElem?_getD]
  rw [List.getElem?_set_ne (by omega), List.getElem?_set_ne (by omega)]
theorem glob_hi (p : List Int) (n : Int) (hp : p.length = 16) (h0 : ∀ i, 8 ≤ i → i < 16 → p.getD i 0 = 0) (i : Nat) (h8 : 8 ≤ i) (h : i < 16) : (globL p n).getD i 0 = (lnk n).getD i 0 := by
  obtain ⟨a0, a1, a2, a3, a4, a5, a6, a7, a8, a9, a10, a11, a12, a13, a14, a15, rfl⟩ := letters hp
  have h0' := h0 i h8 h
  have hi : i = 8 ∨ i = 9 ∨ i = 10 ∨ i = 11 ∨ i = 12 ∨ i = 13 ∨ i = 14 ∨ i = 15 := by omega
  rcases hi with rfl | rfl | rfl | rfl | rfl | rfl | rfl | rfl
  · exact h0'
  · exact h0'
  · exact h0'
  · exact h0'
  · exact h0'
  · rfl
  · exact h0'
  · rfl

set_option maxRecDepth 1000000 in
set_option maxHeartbeats 6400000 in
theorem nodes_walk (n : Int) (p : List Int) (b : Int) (l : List Int) (w : World) (hn : (Lit.int .i64 n).wf = true) (hpb : Adr p ∧ (Lit.int .i64 b).wf = true) (ha : Adr l) (hV : Vars w) :
    Calls Tryd.prog 5 #[.int .i64 n, .agg (pfx p b), .agg (u8s l)] w fun e w' => e = .returned (.bool true) ∧ Below w.heap.size w w' := by
  obtain ⟨hp, _⟩ := hpb
  have hz := zadr
  have hzp := zpfx
  have RP0 : Row ((w.alloc (.cells (pfx p b) 39)).alloc (.cells (u8s l) 22)) w.heap.size 39 (pfx p b) := (Row.new w 39 _).alloc _
  have RA0 : Row ((w.alloc (.cells (pfx p b) 39)).alloc (.cells (u8s l) 22)) (w.heap.size + 1) 22 (u8s l) := by simpa using Row.new (w.alloc (.cells (pfx p b) 39)) 22 (u8s l)
  have B0 := below_new2 w (.cells (pfx p b) 39) (.cells (u8s l) 22)
  have CL : Hid (∀ w' : World, Calls Tryd.prog 16 #[.int .i64 n] w' fun e w'' => e = .returned (.tuple #[.agg (u8s (globA feL 64 n)), .int .i64 (globE feL 64 n)]) ∧ Below w'.heap.size w' w'') := fun w' => link_any n w'
  have CG : Hid (∀ w' : World, Calls Tryd.prog 17 #[.agg (pfx p b), .int .i64 n] w' fun e w'' => e = .returned (.tuple #[.agg (u8s (globA p b n)), .int .i64 (globE p b n)]) ∧ Below w'.heap.size w' w'') := fun w' => global_any p b n w' hp
  have CN : Hid (∀ w' : World, Calls Tryd.prog 18 #[.agg (u8s l)] w' fun e w'' => e = .returned (.tuple #[.int .i64 (nodN l), .int .i64 (nodE l)]) ∧ Below w'.heap.size w' w'') := fun w' => node_any l w' ha
  have CW : Hid (∀ w' : World, Calls Tryd.prog 19 #[.agg (u8s l)] w' fun e w'' => ∃ want, e = .returned (.int .i64 want) ∧ Wants l want ∧ Below w'.heap.size w' w'') := fun w' => refNode_is l w' ha
  have CR : Hid (∀ w' : World, Calls Tryd.prog 22 #[.agg (pfx p b)] w' fun e w'' => e = .returned (.bool (rightB p b)) ∧ Below w'.heap.size w' w'') := fun w' => refRight_is p b w' hp
  have hLA : Adr (globA feL 64 n) := adr_globA adr_fe
  have hGA : Adr (globA p b n) := adr_globA hp
  have HLA : Hid (globA feL 64 n = if 0 ≤ n ∧ n < 64 then lnk n else zeros) := by
    have hr : rightB feL 64 = true := by kernel_rfl
    show globA feL 64 n = _
    rw [globA, globB, hr]
    by_cases h : 0 ≤ n ∧ n < 64
    · simp [h, lnk_glob]
    · simp only [decide_eq_false h, Bool.false_and, if_neg h]; rfl
  have HLE : Hid (globE feL 64 n = if 0 ≤ n ∧ n < 64 then 0 else 1) := by
    have hr : rightB feL 64 = true := by kernel_rfl
    show globE feL 64 n = _
    rw [globE, globB, hr]
    by_cases h : 0 ≤ n ∧ n < 64
    · simp [h]
    · simp only [decide_eq_false h, Bool.false_and, if_neg h]; rfl
  have HGB : Hid (globB p b n = (decide (0 ≤ n ∧ n < 64) && rightB p b && decide (b = 64))) := rfl
  have HGA : Hid (globA p b n = if globB p b n then globL p n else zeros) := rfl
  have HGE : Hid (globE p b n = if globB p b n then 0 else 1) := rfl
  have HRt : Hid (rightB p b = true → b = 64 → ∀ i, 8 ≤ i → i < 16 → p.getD i 0 = 0) := by
    intro h1 h2 i h8 h16
    subst h2
    have : cutL 64 p = p := by
      have : (bitsB 64 && cutL 64 p == p) = true := h1
      simpa [bitsB] using this
    have e := cut64_gen p hp
    rw [this] at e
    rw [e, List.getD_eq_getElem?_getD, List.getElem?_append_right (by simp; omega)]
    rw [List.getElem?_replicate]
    split <;> rfl
  generalize globA feL 64 n = LA at *
  generalize globE feL 64 n = LE at *
  generalize globA p b n = GA at *
  generalize globE p b n = GE at *
  generalize globB p b n = gB at *
  generalize rightB p b = rB at *
  have HA : Hid (Adr l) := ha
  have szl : (Tryd.prog.info? 22).map (·.size) = some (cl l).length := by rw [cl_len, ha.1]; exact size22
  obtain ⟨l0, hl0⟩ : ∃ l0, l.getD 0 0 = l0 := ⟨_, rfl⟩
  have HL0 : Hid (l.getD 0 0 = l0) := hl0
  have c00 : (u8s l)[0]? = some (.int .u8 l0) := by rw [← hl0]; exact u8s_at _ _ (by rw [ha.1]; omega)
  clear hl0
  clear hn
  go_enter Tryd.func5, Tryd.ntmps5
  go_wp2_with fail
  refine (CL.out _).mono ?_
  rintro e w1 ⟨rfl, hb1⟩
  have RP1 := RP0.below hb1 (by simp; omega)
  have RA1 := RA0.below hb1 (by simp)
  have B1 : Hid (Below w.heap.size w w1) := B0.trans (hb1.mono (by simp; omega))
  clear hb1 RP0 RA0 B0
  have hbt := RP1.bits hp.1
  go_wp2_with (first
    | (refine st25 _ _ rfl rfl w1.heap.size LA hLA.1 rfl rfl 25 _ (by rfl) (Row.new w1 25 (u8s zeros)) ?_; have RL2 : Row ((w1.alloc (.cells (u8s zeros) 25)).setRow w1.heap.size (u8s LA)) w1.heap.size 25 (u8s LA) := (Row.new w1 25 _).setRow _; have RP2 : Row ((w1.alloc (.cells (u8s zeros) 25)).setRow w1.heap.size (u8s LA)) w.heap.size 39 (pfx p b) := (RP1.alloc _).rowOther _ _ (Nat.ne_of_lt RP1.lt); have RA2 : Row ((w1.alloc (.cells (u8s zeros) 25)).setRow w1.heap.size (u8s LA)) (w.heap.size + 1) 22 (u8s l) := (RA1.alloc _).rowOther _ _ (Nat.ne_of_lt RA1.lt); have B2 : Hid (Below w.heap.size w ((w1.alloc (.cells (u8s zeros) 25)).setRow w1.heap.size (u8s LA))) := below_setRow (B1.out.alloc B1.out.size _) B1.out.size _; generalize ((w1.alloc (.cells (u8s zeros) 25)).setRow w1.heap.size (u8s LA)) = w2 at *; have hbt2 := RP2.bits hp.1)
    | (refine ld22 _ rfl rfl w.heap.size 0 rfl p hp.1 RP2.pre ?_)
    | (refine bd42 _ _ rfl rfl p b hp.1 rfl rfl ?_)
    | (refine st42 _ _ rfl rfl w2.heap.size p b hp.1 rfl rfl 42 _ (by rfl) (Row.new w2 42 (pfx zeros 0)) ?_; have RQ3 : Row ((w2.alloc (.cells (pfx zeros 0) 42)).setRow w2.heap.size (pfx p b)) w2.heap.size 42 (pfx p b) := (Row.new w2 42 _).setRow _; have RL3 : Row ((w2.alloc (.cells (pfx zeros 0) 42)).setRow w2.heap.size (pfx p b)) w1.heap.size 25 (u8s LA) := (RL2.alloc _).rowOther _ _ (Nat.ne_of_lt RL2.lt); have RP3 : Row ((w2.alloc (.cells (pfx zeros 0) 42)).setRow w2.heap.size (pfx p b)) w.heap.size 39 (pfx p b) := (RP2.alloc _).rowOther _ _ (Nat.ne_of_lt RP2.lt); have RA3 : Row ((w2.alloc (.cells (pfx zeros 0) 42)).setRow w2.heap.size (pfx p b)) (w.heap.size + 1) 22 (u8s l) := (RA2.alloc _).rowOther _ _ (Nat.ne_of_lt RA2.lt); have B3 : Hid (Below w.heap.size w ((w2.alloc (.cells (pfx zeros 0) 42)).setRow w2.heap.size (pfx p b))) := below_setRow (B2.out.alloc B2.out.size _) B2.out.size _; generalize ((w2.alloc (.cells (pfx zeros 0) 42)).setRow w2.heap.size (pfx p b)) = w3 at *)
    | (refine ld42 _ rfl rfl w2.heap.size 0 rfl p b hp.1 RQ3.part ?_))
  refine (CG.out _).mono ?_
  rintro e w4 ⟨rfl, hb4⟩
  have RP4 := RP3.below hb4 RP3.lt
  have RA4 := RA3.below hb4 RA3.lt
  have RL4 := RL3.below hb4 RL3.lt
  have B4 : Hid (Below w.heap.size w w4) := B3.out.trans (hb4.mono B3.out.size)
  clear hb4 hbt hbt2 RP1 RA1 RL2 RP2 RA2 RQ3 RL3 RP3 RA3
  go_wp2_with (first
    | (refine st25 _ _ rfl rfl w4.heap.size GA hGA.1 rfl rfl 25 _ (by rfl) (Row.new w4 25 (u8s zeros)) ?_; have RG5 : Row ((w4.alloc (.cells (u8s zeros) 25)).setRow w4.heap.size (u8s GA)) w4.heap.size 25 (u8s GA) := (Row.new w4 25 _).setRow _; have RL5 : Row ((w4.alloc (.cells (u8s zeros) 25)).setRow w4.heap.size (u8s GA)) w1.heap.size 25 (u8s LA) := (RL4.alloc _).rowOther _ _ (Nat.ne_of_lt RL4.lt); have RP5 : Row ((w4.alloc (.cells (u8s zeros) 25)).setRow w4.heap.size (u8s GA)) w.heap.size 39 (pfx p b) := (RP4.alloc _).rowOther _ _ (Nat.ne_of_lt RP4.lt); have RA5 : Row ((w4.alloc (.cells (u8s zeros) 25)).setRow w4.heap.size (u8s GA)) (w.heap.size + 1) 22 (u8s l) := (RA4.alloc _).rowOther _ _ (Nat.ne_of_lt RA4.lt); have B5 : Hid (Below w.heap.size w ((w4.alloc (.cells (u8s zeros) 25)).setRow w4.heap.size (u8s GA))) := below_setRow (B4.out.alloc B4.out.size _) B4.out.size _; generalize ((w4.alloc (.cells (u8s zeros) 25)).setRow w4.heap.size (u8s GA)) = w5 at *)
    | (refine ld22 _ rfl rfl (w.heap.size + 1) 0 rfl l ha.1 RA5.part ?_))
  refine (CN.out _).mono ?_
  rintro e w6 ⟨rfl, hb6⟩
  have RP6 := RP5.below hb6 RP5.lt
  have RA6 := RA5.below hb6 RA5.lt
  have RL6 := RL5.below hb6 RL5.lt
  have RG6 := RG5.below hb6 RG5.lt
  have B6 : Hid (Below w.heap.size w w6) := B5.out.trans (hb6.mono B5.out.size)
  clear hb6 RP4 RA4 RL4 RP5 RA5 RL5 RG5
  go_wp2_with (first
    | (refine ld22 _ rfl rfl (w.heap.size + 1) 0 rfl l ha.1 RA6.part ?_))
  refine (CW.out _).mono ?_
  rintro e w8 ⟨want, rfl, hwant, hb8⟩
  have RP8 : Hid (Row w8 w.heap.size 39 (pfx p b)) := RP6.below hb8 RP6.lt
  have RA8 : Hid (Row w8 (w.heap.size + 1) 22 (u8s l)) := RA6.below hb8 RA6.lt
  have RL8 : Hid (Row w8 w1.heap.size 25 (u8s LA)) := RL6.below hb8 RL6.lt
  have RG8 : Hid (Row w8 w4.heap.size 25 (u8s GA)) := RG6.below hb8 RG6.lt
  have B8 : Hid (Below w.heap.size w w8) := B6.out.trans (hb8.mono B6.out.size)
  have RAl : Hid (w.heap.size + 1 < w8.heap.size) := RA8.out.lt
  have ca0 : w8.cell? ⟨w.heap.size + 1, 0, none⟩ = some (.int .u8 l0) := by rw [RA8.out.cell, c00]
  clear hb8 RP6 RA6 RL6 RG6 c00
  go_wp2_with fail
  go_cut [12, 13, 14, 32, 34, 35, 36, 38, 65] from 39 to 65 (fun _ _ _ _ _ _ _ _ v wx => v = .bool false ∧ Hid (Row wx w.heap.size 39 (pfx p b)) ∧ Hid (Row wx w1.heap.size 25 (u8s LA)) ∧ Hid (Row wx w4.heap.size 25 (u8s GA)) ∧ Hid (Below w.heap.size w wx))
  case first =>
    have fin : ∀ w9, Below w8.heap.size w8 w9 → Hid (Row w9 w.heap.size 39 (pfx p b)) ∧ Hid (Row w9 w1.heap.size 25 (u8s LA)) ∧ Hid (Row w9 w4.heap.size 25 (u8s GA)) ∧ Hid (Below w.heap.size w w9) := fun w9 h => ⟨RP8.out.below h RP8.out.lt, RL8.out.below h RL8.out.lt, RG8.out.below h RG8.out.lt, B8.out.trans (h.mono B8.out.size)⟩
    have FIN : Hid (∀ w9, Below w8.heap.size w8 w9 → Hid (Row w9 w.heap.size 39 (pfx p b)) ∧ Hid (Row w9 w1.heap.size 25 (u8s LA)) ∧ Hid (Row w9 w4.heap.size 25 (u8s GA)) ∧ Hid (Below w.heap.size w w9)) := fin
    clear fin
    rcases hwant with ⟨x1, x2, x3, x4⟩ | ⟨x1, x2, x3⟩
    · have y1 : decide (want < 0) = false := decide_eq_false (by omega)
      rw [x4]
      rw [← x2]
      clear x1 x2 x4 CN CW
      refine wp_region_held_drew (S := (fun w' => w'.rangeAt (w.heap.size + 1) 0 (cl l) ∧ w'.cell? ⟨w.heap.size + 1, 0, none⟩ = some (.int .u8 l0) ∧ w8.heap.size ≤ w'.heap.size)) (by kernel_rfl) ?_ (fun hHeld => ?_)
      · exact ⟨RA8.out.part.range, ca0, Nat.le_refl _⟩
      refine wpAnyH_take (i := 0) (oi := _) (v := ?vb0) rfl (by kernel_rfl) (by kernel_rfl) (by kernel_rfl) (fun _ _ _ h => h) (Or.inl ⟨by rfl, ?hyb0⟩) (by assumption) ?restb0
      case hyb0 => (intro w hSw; (try dsimp only at hSw); go_split_ands; go_simp; try (with_reducible rfl))
      try simp only [List.getElem_toArray, List.getElem_cons_zero, List.getElem_cons_succ, Act.put, List.setIfInBounds_toArray, List.set_cons_zero, List.set_cons_succ]
      refine wpAnyH_take (i := 1) (oi := _) (v := ?vb1) rfl (by kernel_rfl) (by kernel_rfl) (by kernel_rfl) (fun _ _ _ h => h) (Or.inl ⟨by rfl, ?hyb1⟩) (by assumption) ?restb1
      case hyb1 => (intro w hSw; (try dsimp only at hSw); go_split_ands; go_simp; try (with_reducible rfl))
      try simp only [List.getElem_toArray, List.getElem_cons_zero, List.getElem_cons_succ, Act.put, List.setIfInBounds_toArray, List.set_cons_zero, List.set_cons_succ]
      refine wpAnyH_take (i := 2) (oi := _) (v := ?vb2) rfl (by kernel_rfl) (by kernel_rfl) (by kernel_rfl) (fun _ _ _ h => h) (Or.inl ⟨by rfl, ?hyb2⟩) (by assumption) ?restb2
      case hyb2 => (intro w hSw; (try dsimp only at hSw); go_split_ands; go_simp; try (with_reducible rfl))
      try simp only [List.getElem_toArray, List.getElem_cons_zero, List.getElem_cons_succ, Act.put, List.setIfInBounds_toArray, List.set_cons_zero, List.set_cons_succ]
      refine wpAnyH_take (i := 3) (oi := _) (v := undef) rfl (by kernel_rfl) (by kernel_rfl) (by kernel_rfl) (fun _ _ _ h => h) (Or.inr ⟨by rfl, rfl⟩) (by assumption) ?_
      try simp only [List.getElem_toArray, List.getElem_cons_zero, List.getElem_cons_succ, Act.put, List.setIfInBounds_toArray, List.set_cons_zero, List.set_cons_succ]
      refine wpAnyH_take (i := 4) (oi := _) (v := undef) rfl (by kernel_rfl) (by kernel_rfl) (by kernel_rfl) (fun _ _ _ h => h) (Or.inr ⟨by rfl, rfl⟩) (by assumption) ?_
      try simp only [List.getElem_toArray, List.getElem_cons_zero, List.getElem_cons_succ, Act.put, List.setIfInBounds_toArray, List.set_cons_zero, List.set_cons_succ]
      refine wpAnyH_take (i := 5) (oi := _) (v := ?vb5) rfl (by kernel_rfl) (by kernel_rfl) (by kernel_rfl) (fun _ _ _ h => h) (Or.inl ⟨by rfl, ?hyb5⟩) (by assumption) ?restb5
      case hyb5 => (intro w hSw; (try dsimp only at hSw); go_split_ands; go_simp; try (with_reducible rfl))
      try simp only [List.getElem_toArray, List.getElem_cons_zero, List.getElem_cons_succ, Act.put, List.setIfInBounds_toArray, List.set_cons_zero, List.set_cons_succ]
      refine wpAnyH_take (i := 6) (oi := _) (v := ?vb6) rfl (by kernel_rfl) (by kernel_rfl) (by kernel_rfl) (fun _ _ _ h => h) (Or.inl ⟨by rfl, ?hyb6⟩) (by assumption) ?restb6
      case hyb6 => (intro w hSw; (try dsimp only at hSw); go_split_ands; go_simp; try (with_reducible rfl))
      try simp only [List.getElem_toArray, List.getElem_cons_zero, List.getElem_cons_succ, Act.put, List.setIfInBounds_toArray, List.set_cons_zero, List.set_cons_succ]
      refine wpAnyH_take (i := 7) (oi := _) (v := ?vb7) rfl (by kernel_rfl) (by kernel_rfl) (by kernel_rfl) (fun _ _ _ h => h) (Or.inl ⟨by rfl, ?hyb7⟩) (by assumption) ?restb7
      case hyb7 => (intro w hSw; (try dsimp only at hSw); go_split_ands; go_simp; try (with_reducible rfl))
      try simp only [List.getElem_toArray, List.getElem_cons_zero, List.getElem_cons_succ, Act.put, List.setIfInBounds_toArray, List.set_cons_zero, List.set_cons_succ]
      refine wpAnyH_take (i := 8) (oi := _) (v := ?vb8) rfl (by kernel_rfl) (by kernel_rfl) (by kernel_rfl) (fun _ _ _ h => h) (Or.inl ⟨by rfl, ?hyb8⟩) (by assumption) ?restb8
      case hyb8 => (intro w hSw; (try dsimp only at hSw); go_split_ands; go_simp; try (with_reducible rfl))
      try simp only [List.getElem_toArray, List.getElem_cons_zero, List.getElem_cons_succ, Act.put, List.setIfInBounds_toArray, List.set_cons_zero, List.set_cons_succ]
      refine wpAnyH_take (i := 9) (oi := _) (v := ?vb9) rfl (by kernel_rfl) (by kernel_rfl) (by kernel_rfl) (fun _ _ _ h => h) (Or.inl ⟨by rfl, ?hyb9⟩) (by assumption) ?restb9
      case hyb9 => (intro w hSw; (try dsimp only at hSw); go_split_ands; go_simp; try (with_reducible rfl))
      try simp only [List.getElem_toArray, List.getElem_cons_zero, List.getElem_cons_succ, Act.put, List.setIfInBounds_toArray, List.set_cons_zero, List.set_cons_succ]
      refine wpAnyH_take (i := 10) (oi := _) (v := ?vb10) rfl (by kernel_rfl) (by kernel_rfl) (by kernel_rfl) (fun _ _ _ h => h) (Or.inl ⟨by rfl, ?hyb10⟩) (by assumption) ?restb10
      case hyb10 => (intro w hSw; (try dsimp only at hSw); go_split_ands; go_simp; try (with_reducible rfl))
      try simp only [List.getElem_toArray, List.getElem_cons_zero, List.getElem_cons_succ, Act.put, List.setIfInBounds_toArray, List.set_cons_zero, List.set_cons_succ]
      refine wpAnyH_take (i := 11) (oi := _) (v := ?vb11) rfl (by kernel_rfl) (by kernel_rfl) (by kernel_rfl) (fun _ _ _ h => h) (Or.inl ⟨by rfl, ?hyb11⟩) (by assumption) ?restb11
      case hyb11 => (intro w hSw; (try dsimp only at hSw); go_split_ands; go_simp; try (with_reducible rfl))
      try simp only [List.getElem_toArray, List.getElem_cons_zero, List.getElem_cons_succ, Act.put, List.setIfInBounds_toArray, List.set_cons_zero, List.set_cons_succ]
      refine wpAnyH_take (i := 12) (oi := _) (v := ?vb12) rfl (by kernel_rfl) (by kernel_rfl) (by kernel_rfl) (fun _ _ _ h => h) (Or.inl ⟨by rfl, ?hyb12⟩) (by assumption) ?restb12
      case hyb12 => (intro w hSw; (try dsimp only at hSw); go_split_ands; go_simp; try (with_reducible rfl))
      try simp only [List.getElem_toArray, List.getElem_cons_zero, List.getElem_cons_succ, Act.put, List.setIfInBounds_toArray, List.set_cons_zero, List.set_cons_succ]
      refine wpAnyH_take (i := 13) (oi := _) (v := ?vb13) rfl (by kernel_rfl) (by kernel_rfl) (by kernel_rfl) (fun _ _ _ h => h) (Or.inl ⟨by rfl, ?hyb13⟩) (by assumption) ?restb13
      case hyb13 => (intro w hSw; (try dsimp only at hSw); go_split_ands; go_simp; try (with_reducible rfl))
      try simp only [List.getElem_toArray, List.getElem_cons_zero, List.getElem_cons_succ, Act.put, List.setIfInBounds_toArray, List.set_cons_zero, List.set_cons_succ]
      refine wpAnyH_take (i := 14) (oi := _) (v := ?vb14) rfl (by kernel_rfl) (by kernel_rfl) (by kernel_rfl) (fun _ _ _ h => h) (Or.inl ⟨by rfl, ?hyb14⟩) (by assumption) ?restb14
      case hyb14 => (intro w hSw; (try dsimp only at hSw); go_split_ands; go_simp; try (with_reducible rfl))
      try simp only [List.getElem_toArray, List.getElem_cons_zero, List.getElem_cons_succ, Act.put, List.setIfInBounds_toArray, List.set_cons_zero, List.set_cons_succ]
      refine wpAnyH_take (i := 15) (oi := _) (v := ?vb15) rfl (by kernel_rfl) (by kernel_rfl) (by kernel_rfl) (fun _ _ _ h => h) (Or.inl ⟨by rfl, ?hyb15⟩) (by assumption) ?restb15
      case hyb15 => (intro w hSw; (try dsimp only at hSw); go_split_ands; go_simp; try (with_reducible rfl))
      try simp only [List.getElem_toArray, List.getElem_cons_zero, List.getElem_cons_succ, Act.put, List.setIfInBounds_toArray, List.set_cons_zero, List.set_cons_succ]
      refine wpAnyH_take (i := 16) (oi := _) (v := ?vb16) rfl (by kernel_rfl) (by kernel_rfl) (by kernel_rfl) (fun _ _ _ h => h) (Or.inl ⟨by rfl, ?hyb16⟩) (by assumption) ?restb16
      case hyb16 => (intro w hSw; (try dsimp only at hSw); go_split_ands; go_simp; try (with_reducible rfl))
      try simp only [List.getElem_toArray, List.getElem_cons_zero, List.getElem_cons_succ, Act.put, List.setIfInBounds_toArray, List.set_cons_zero, List.set_cons_succ]
      refine wpAnyH_take (i := 17) (oi := _) (v := ?vb17) rfl (by kernel_rfl) (by kernel_rfl) (by kernel_rfl) (fun _ _ _ h => h) (Or.inl ⟨by rfl, ?hyb17⟩) (by assumption) ?restb17
      case hyb17 => (intro w hSw; (try dsimp only at hSw); go_split_ands; go_simp; try (with_reducible rfl))
      try simp only [List.getElem_toArray, List.getElem_cons_zero, List.getElem_cons_succ, Act.put, List.setIfInBounds_toArray, List.set_cons_zero, List.set_cons_succ]
      refine wpAnyH_take (i := 18) (oi := _) (v := ?vb18) rfl (by kernel_rfl) (by kernel_rfl) (by kernel_rfl) (fun _ _ _ h => h) (Or.inl ⟨by rfl, ?hyb18⟩) (by assumption) ?restb18
      case hyb18 => (intro w hSw; (try dsimp only at hSw); go_split_ands; go_simp; try (with_reducible rfl))
      try simp only [List.getElem_toArray, List.getElem_cons_zero, List.getElem_cons_succ, Act.put, List.setIfInBounds_toArray, List.set_cons_zero, List.set_cons_succ]
      refine wpAnyH_take (i := 19) (oi := _) (v := ?vb19) rfl (by kernel_rfl) (by kernel_rfl) (by kernel_rfl) (fun _ _ _ h => h) (Or.inl ⟨by rfl, ?hyb19⟩) (by assumption) ?restb19
      case hyb19 => (intro w hSw; (try dsimp only at hSw); go_split_ands; go_simp; try (with_reducible rfl))
      try simp only [List.getElem_toArray, List.getElem_cons_zero, List.getElem_cons_succ, Act.put, List.setIfInBounds_toArray, List.set_cons_zero, List.set_cons_succ]
      refine wpAnyH_take (i := 20) (oi := _) (v := .agg (u8s l)) rfl (by kernel_rfl) (by kernel_rfl) (by kernel_rfl) (fun _ _ _ h => h) (yieldsIf_load_mid (by rfl) 22 _ rfl (w.heap.size + 1) 0 rfl (cl l) _ (fun w h => h.1) Tryd.underlying22 rfl szl) (by assumption) ?_
      try simp only [List.getElem_toArray, List.getElem_cons_zero, List.getElem_cons_succ, Act.put, List.setIfInBounds_toArray, List.set_cons_zero, List.set_cons_succ]
      refine wpAnyH_take (i := 22) (oi := _) (v := ?vb22) rfl (by kernel_rfl) (by kernel_rfl) (by kernel_rfl) (fun _ _ _ h => h) (Or.inl ⟨by rfl, ?hyb22⟩) (by assumption) ?restb22
      case hyb22 => (intro w hSw; (try dsimp only at hSw); go_split_ands; go_simp; try (with_reducible rfl))
      try simp only [List.getElem_toArray, List.getElem_cons_zero, List.getElem_cons_succ, Act.put, List.setIfInBounds_toArray, List.set_cons_zero, List.set_cons_succ]
      refine wpAnyH_take (i := 23) (oi := _) (v := ?vb23) rfl (by kernel_rfl) (by kernel_rfl) (by kernel_rfl) (fun _ _ _ h => h) (Or.inl ⟨by rfl, ?hyb23⟩) (by assumption) ?restb23
      case hyb23 => (intro w hSw; (try dsimp only at hSw); go_split_ands; go_simp; try (with_reducible rfl))
      try simp only [List.getElem_toArray, List.getElem_cons_zero, List.getElem_cons_succ, Act.put, List.setIfInBounds_toArray, List.set_cons_zero, List.set_cons_succ]
      refine wpAnyH_take (i := 24) (oi := _) (v := ?vb24) rfl (by kernel_rfl) (by kernel_rfl) (by kernel_rfl) (fun _ _ _ h => h) (Or.inl ⟨by rfl, ?hyb24⟩) (by assumption) ?restb24
      case hyb24 => (intro w hSw; (try dsimp only at hSw); go_split_ands; go_simp; try (with_reducible rfl))
      try simp only [List.getElem_toArray, List.getElem_cons_zero, List.getElem_cons_succ, Act.put, List.setIfInBounds_toArray, List.set_cons_zero, List.set_cons_succ]
      refine wpAnyH_ready (rs := [21]) (by kernel_rfl) (by simp) ?_
      refine AllReadyH.cons (o := _) rfl (fun K hK => ?_) AllReadyH.nil
      go_simp
      have hmc := multicast_any l w8.drew HA.out; rw [HL0.out] at hmc; refine hmc.mono ?_; clear hmc; rintro e w9 ⟨rfl, hb9⟩; have B9 : Hid (Below _ _ w9) := hb9; have s1 := range_below hHeld.1 B9.out (Nat.lt_of_lt_of_le RAl.out hHeld.2.2); have s2 : w9.cell? ⟨w.heap.size + 1, 0, none⟩ = some (.int .u8 l0) := (B9.out.cell (p := ⟨w.heap.size + 1, 0, none⟩) (Nat.lt_of_lt_of_le RAl.out hHeld.2.2)).trans hHeld.2.1; have s3 : w8.heap.size ≤ w9.heap.size := Nat.le_trans hHeld.2.2 B9.out.size; have s4 : Hid (Below w8.heap.size w8 w9) := ⟨B9.out.os, B9.out.tape, B9.out.output, B9.out.size, B9.out.block⟩; clear hb9 hHeld
      go_wp2_with fail
      refine hK.out _ _ ⟨s1, s2, s3⟩ (fun hHeld => ?_)
      clear hK K
      try simp only [Act.put, List.setIfInBounds_toArray, List.set_cons_zero, List.set_cons_succ]
      refine wpAnyH_take (i := 25) (oi := _) (v := ?vb25) rfl (by kernel_rfl) (by kernel_rfl) (by kernel_rfl) (fun _ _ _ h => h) (Or.inl ⟨by rfl, ?hyb25⟩) (by assumption) ?restb25
      case hyb25 => (intro w hSw; (try dsimp only at hSw); go_split_ands; go_simp; try (with_reducible rfl))
      try simp only [List.getElem_toArray, List.getElem_cons_zero, List.getElem_cons_succ, Act.put, List.setIfInBounds_toArray, List.set_cons_zero, List.set_cons_succ]
      refine wpAnyH_take (i := 26) (oi := _) (v := ?vb26) rfl (by kernel_rfl) (by kernel_rfl) (by kernel_rfl) (fun _ _ _ h => h) (Or.inl ⟨by rfl, ?hyb26⟩) (by assumption) ?restb26
      case hyb26 => (intro w hSw; (try dsimp only at hSw); go_split_ands; go_simp; try (with_reducible rfl))
      try simp only [List.getElem_toArray, List.getElem_cons_zero, List.getElem_cons_succ, Act.put, List.setIfInBounds_toArray, List.set_cons_zero, List.set_cons_succ]
      refine wpAnyH_done (by kernel_rfl) ?_ _
      go_wp2_with fail
      go_meet
      case rel => exact ⟨rfl, FIN.out w9 s4.out⟩
    · subst x2
      rw [x3]
      clear x1 x3 CN CW
      refine wp_region_held_drew (S := (fun w' => w'.rangeAt (w.heap.size + 1) 0 (cl l) ∧ w'.cell? ⟨w.heap.size + 1, 0, none⟩ = some (.int .u8 l0) ∧ w8.heap.size ≤ w'.heap.size)) (by kernel_rfl) ?_ (fun hHeld => ?_)
      · exact ⟨RA8.out.part.range, ca0, Nat.le_refl _⟩
      refine wpAnyH_take (i := 0) (oi := _) (v := ?va0) rfl (by kernel_rfl) (by kernel_rfl) (by kernel_rfl) (fun _ _ _ h => h) (Or.inl ⟨by rfl, ?hya0⟩) (by assumption) ?resta0
      case hya0 => (intro w hSw; (try dsimp only at hSw); go_split_ands; go_simp; try (with_reducible rfl))
      try simp only [List.getElem_toArray, List.getElem_cons_zero, List.getElem_cons_succ, Act.put, List.setIfInBounds_toArray, List.set_cons_zero, List.set_cons_succ]
      refine wpAnyH_take (i := 1) (oi := _) (v := ?va1) rfl (by kernel_rfl) (by kernel_rfl) (by kernel_rfl) (fun _ _ _ h => h) (Or.inl ⟨by rfl, ?hya1⟩) (by assumption) ?resta1
      case hya1 => (intro w hSw; (try dsimp only at hSw); go_split_ands; go_simp; try (with_reducible rfl))
      try simp only [List.getElem_toArray, List.getElem_cons_zero, List.getElem_cons_succ, Act.put, List.setIfInBounds_toArray, List.set_cons_zero, List.set_cons_succ]
      refine wpAnyH_take (i := 2) (oi := _) (v := ?va2) rfl (by kernel_rfl) (by kernel_rfl) (by kernel_rfl) (fun _ _ _ h => h) (Or.inl ⟨by rfl, ?hya2⟩) (by assumption) ?resta2
      case hya2 => (intro w hSw; (try dsimp only at hSw); go_split_ands; go_simp; try (with_reducible rfl))
      try simp only [List.getElem_toArray, List.getElem_cons_zero, List.getElem_cons_succ, Act.put, List.setIfInBounds_toArray, List.set_cons_zero, List.set_cons_succ]
      refine wpAnyH_take (i := 3) (oi := _) (v := ?va3) rfl (by kernel_rfl) (by kernel_rfl) (by kernel_rfl) (fun _ _ _ h => h) (Or.inl ⟨by rfl, ?hya3⟩) (by assumption) ?resta3
      case hya3 => (intro w hSw; (try dsimp only at hSw); go_split_ands; go_simp; try (with_reducible rfl))
      try simp only [List.getElem_toArray, List.getElem_cons_zero, List.getElem_cons_succ, Act.put, List.setIfInBounds_toArray, List.set_cons_zero, List.set_cons_succ]
      refine wpAnyH_take (i := 4) (oi := _) (v := ?va4) rfl (by kernel_rfl) (by kernel_rfl) (by kernel_rfl) (fun _ _ _ h => h) (Or.inl ⟨by rfl, ?hya4⟩) (by assumption) ?resta4
      case hya4 => (intro w hSw; (try dsimp only at hSw); go_split_ands; go_simp; try (with_reducible rfl))
      try simp only [List.getElem_toArray, List.getElem_cons_zero, List.getElem_cons_succ, Act.put, List.setIfInBounds_toArray, List.set_cons_zero, List.set_cons_succ]
      refine wpAnyH_take (i := 5) (oi := _) (v := ?va5) rfl (by kernel_rfl) (by kernel_rfl) (by kernel_rfl) (fun _ _ _ h => h) (Or.inl ⟨by rfl, ?hya5⟩) (by assumption) ?resta5
      case hya5 => (intro w hSw; (try dsimp only at hSw); go_split_ands; go_simp; try (with_reducible rfl))
      try simp only [List.getElem_toArray, List.getElem_cons_zero, List.getElem_cons_succ, Act.put, List.setIfInBounds_toArray, List.set_cons_zero, List.set_cons_succ]
      refine wpAnyH_take (i := 6) (oi := _) (v := ?va6) rfl (by kernel_rfl) (by kernel_rfl) (by kernel_rfl) (fun _ _ _ h => h) (Or.inl ⟨by rfl, ?hya6⟩) (by assumption) ?resta6
      case hya6 => (intro w hSw; (try dsimp only at hSw); go_split_ands; go_simp; try (with_reducible rfl))
      try simp only [List.getElem_toArray, List.getElem_cons_zero, List.getElem_cons_succ, Act.put, List.setIfInBounds_toArray, List.set_cons_zero, List.set_cons_succ]
      refine wpAnyH_take (i := 7) (oi := _) (v := ?va7) rfl (by kernel_rfl) (by kernel_rfl) (by kernel_rfl) (fun _ _ _ h => h) (Or.inl ⟨by rfl, ?hya7⟩) (by assumption) ?resta7
      case hya7 => (intro w hSw; (try dsimp only at hSw); go_split_ands; go_simp; try (with_reducible rfl))
      try simp only [List.getElem_toArray, List.getElem_cons_zero, List.getElem_cons_succ, Act.put, List.setIfInBounds_toArray, List.set_cons_zero, List.set_cons_succ]
      refine wpAnyH_take (i := 8) (oi := _) (v := ?va8) rfl (by kernel_rfl) (by kernel_rfl) (by kernel_rfl) (fun _ _ _ h => h) (Or.inl ⟨by rfl, ?hya8⟩) (by assumption) ?resta8
      case hya8 => (intro w hSw; (try dsimp only at hSw); go_split_ands; go_simp; try (with_reducible rfl))
      try simp only [List.getElem_toArray, List.getElem_cons_zero, List.getElem_cons_succ, Act.put, List.setIfInBounds_toArray, List.set_cons_zero, List.set_cons_succ]
      refine wpAnyH_take (i := 9) (oi := _) (v := ?va9) rfl (by kernel_rfl) (by kernel_rfl) (by kernel_rfl) (fun _ _ _ h => h) (Or.inl ⟨by rfl, ?hya9⟩) (by assumption) ?resta9
      case hya9 => (intro w hSw; (try dsimp only at hSw); go_split_ands; go_simp; try (with_reducible rfl))
      try simp only [List.getElem_toArray, List.getElem_cons_zero, List.getElem_cons_succ, Act.put, List.setIfInBounds_toArray, List.set_cons_zero, List.set_cons_succ]
      refine wpAnyH_take (i := 10) (oi := _) (v := undef) rfl (by kernel_rfl) (by kernel_rfl) (by kernel_rfl) (fun _ _ _ h => h) (Or.inr ⟨by rfl, rfl⟩) (by assumption) ?_
      try simp only [List.getElem_toArray, List.getElem_cons_zero, List.getElem_cons_succ, Act.put, List.setIfInBounds_toArray, List.set_cons_zero, List.set_cons_succ]
      refine wpAnyH_take (i := 11) (oi := _) (v := undef) rfl (by kernel_rfl) (by kernel_rfl) (by kernel_rfl) (fun _ _ _ h => h) (Or.inr ⟨by rfl, rfl⟩) (by assumption) ?_
      try simp only [List.getElem_toArray, List.getElem_cons_zero, List.getElem_cons_succ, Act.put, List.setIfInBounds_toArray, List.set_cons_zero, List.set_cons_succ]
      refine wpAnyH_take (i := 12) (oi := _) (v := undef) rfl (by kernel_rfl) (by kernel_rfl) (by kernel_rfl) (fun _ _ _ h => h) (Or.inr ⟨by rfl, rfl⟩) (by assumption) ?_
      try simp only [List.getElem_toArray, List.getElem_cons_zero, List.getElem_cons_succ, Act.put, List.setIfInBounds_toArray, List.set_cons_zero, List.set_cons_succ]
      refine wpAnyH_take (i := 13) (oi := _) (v := undef) rfl (by kernel_rfl) (by kernel_rfl) (by kernel_rfl) (fun _ _ _ h => h) (Or.inr ⟨by rfl, rfl⟩) (by assumption) ?_
      try simp only [List.getElem_toArray, List.getElem_cons_zero, List.getElem_cons_succ, Act.put, List.setIfInBounds_toArray, List.set_cons_zero, List.set_cons_succ]
      refine wpAnyH_take (i := 14) (oi := _) (v := undef) rfl (by kernel_rfl) (by kernel_rfl) (by kernel_rfl) (fun _ _ _ h => h) (Or.inr ⟨by rfl, rfl⟩) (by assumption) ?_
      try simp only [List.getElem_toArray, List.getElem_cons_zero, List.getElem_cons_succ, Act.put, List.setIfInBounds_toArray, List.set_cons_zero, List.set_cons_succ]
      refine wpAnyH_take (i := 15) (oi := _) (v := undef) rfl (by kernel_rfl) (by kernel_rfl) (by kernel_rfl) (fun _ _ _ h => h) (Or.inr ⟨by rfl, rfl⟩) (by assumption) ?_
      try simp only [List.getElem_toArray, List.getElem_cons_zero, List.getElem_cons_succ, Act.put, List.setIfInBounds_toArray, List.set_cons_zero, List.set_cons_succ]
      refine wpAnyH_take (i := 16) (oi := _) (v := undef) rfl (by kernel_rfl) (by kernel_rfl) (by kernel_rfl) (fun _ _ _ h => h) (Or.inr ⟨by rfl, rfl⟩) (by assumption) ?_
      try simp only [List.getElem_toArray, List.getElem_cons_zero, List.getElem_cons_succ, Act.put, List.setIfInBounds_toArray, List.set_cons_zero, List.set_cons_succ]
      refine wpAnyH_take (i := 17) (oi := _) (v := ?va17) rfl (by kernel_rfl) (by kernel_rfl) (by kernel_rfl) (fun _ _ _ h => h) (Or.inl ⟨by rfl, ?hya17⟩) (by assumption) ?resta17
      case hya17 => (intro w hSw; (try dsimp only at hSw); go_split_ands; go_simp; try (with_reducible rfl))
      try simp only [List.getElem_toArray, List.getElem_cons_zero, List.getElem_cons_succ, Act.put, List.setIfInBounds_toArray, List.set_cons_zero, List.set_cons_succ]
      refine wpAnyH_take (i := 18) (oi := _) (v := ?va18) rfl (by kernel_rfl) (by kernel_rfl) (by kernel_rfl) (fun _ _ _ h => h) (Or.inl ⟨by rfl, ?hya18⟩) (by assumption) ?resta18
      case hya18 => (intro w hSw; (try dsimp only at hSw); go_split_ands; go_simp; try (with_reducible rfl))
      try simp only [List.getElem_toArray, List.getElem_cons_zero, List.getElem_cons_succ, Act.put, List.setIfInBounds_toArray, List.set_cons_zero, List.set_cons_succ]
      refine wpAnyH_take (i := 19) (oi := _) (v := ?va19) rfl (by kernel_rfl) (by kernel_rfl) (by kernel_rfl) (fun _ _ _ h => h) (Or.inl ⟨by rfl, ?hya19⟩) (by assumption) ?resta19
      case hya19 => (intro w hSw; (try dsimp only at hSw); go_split_ands; go_simp; try (with_reducible rfl))
      try simp only [List.getElem_toArray, List.getElem_cons_zero, List.getElem_cons_succ, Act.put, List.setIfInBounds_toArray, List.set_cons_zero, List.set_cons_succ]
      refine wpAnyH_take (i := 20) (oi := _) (v := .agg (u8s l)) rfl (by kernel_rfl) (by kernel_rfl) (by kernel_rfl) (fun _ _ _ h => h) (yieldsIf_load_mid (by rfl) 22 _ rfl (w.heap.size + 1) 0 rfl (cl l) _ (fun w h => h.1) Tryd.underlying22 rfl szl) (by assumption) ?_
      try simp only [List.getElem_toArray, List.getElem_cons_zero, List.getElem_cons_succ, Act.put, List.setIfInBounds_toArray, List.set_cons_zero, List.set_cons_succ]
      refine wpAnyH_take (i := 22) (oi := _) (v := ?va22) rfl (by kernel_rfl) (by kernel_rfl) (by kernel_rfl) (fun _ _ _ h => h) (Or.inl ⟨by rfl, ?hya22⟩) (by assumption) ?resta22
      case hya22 => (intro w hSw; (try dsimp only at hSw); go_split_ands; go_simp; try (with_reducible rfl))
      try simp only [List.getElem_toArray, List.getElem_cons_zero, List.getElem_cons_succ, Act.put, List.setIfInBounds_toArray, List.set_cons_zero, List.set_cons_succ]
      refine wpAnyH_take (i := 23) (oi := _) (v := ?va23) rfl (by kernel_rfl) (by kernel_rfl) (by kernel_rfl) (fun _ _ _ h => h) (Or.inl ⟨by rfl, ?hya23⟩) (by assumption) ?resta23
      case hya23 => (intro w hSw; (try dsimp only at hSw); go_split_ands; go_simp; try (with_reducible rfl))
      try simp only [List.getElem_toArray, List.getElem_cons_zero, List.getElem_cons_succ, Act.put, List.setIfInBounds_toArray, List.set_cons_zero, List.set_cons_succ]
      refine wpAnyH_take (i := 24) (oi := _) (v := ?va24) rfl (by kernel_rfl) (by kernel_rfl) (by kernel_rfl) (fun _ _ _ h => h) (Or.inl ⟨by rfl, ?hya24⟩) (by assumption) ?resta24
      case hya24 => (intro w hSw; (try dsimp only at hSw); go_split_ands; go_simp; try (with_reducible rfl))
      try simp only [List.getElem_toArray, List.getElem_cons_zero, List.getElem_cons_succ, Act.put, List.setIfInBounds_toArray, List.set_cons_zero, List.set_cons_succ]
      refine wpAnyH_ready (rs := [21]) (by kernel_rfl) (by simp) ?_
      refine AllReadyH.cons (o := _) rfl (fun K hK => ?_) AllReadyH.nil
      go_simp
      have hmc := multicast_any l w8.drew HA.out; rw [HL0.out] at hmc; refine hmc.mono ?_; clear hmc; rintro e w9 ⟨rfl, hb9⟩; have B9 : Hid (Below _ _ w9) := hb9; have s1 := range_below hHeld.1 B9.out (Nat.lt_of_lt_of_le RAl.out hHeld.2.2); have s2 : w9.cell? ⟨w.heap.size + 1, 0, none⟩ = some (.int .u8 l0) := (B9.out.cell (p := ⟨w.heap.size + 1, 0, none⟩) (Nat.lt_of_lt_of_le RAl.out hHeld.2.2)).trans hHeld.2.1; have s3 : w8.heap.size ≤ w9.heap.size := Nat.le_trans hHeld.2.2 B9.out.size; have s4 : Hid (Below w8.heap.size w8 w9) := ⟨B9.out.os, B9.out.tape, B9.out.output, B9.out.size, B9.out.block⟩; clear hb9 hHeld
      go_wp2_with fail
      refine hK.out _ _ ⟨s1, s2, s3⟩ (fun hHeld => ?_)
      clear hK K
      try simp only [Act.put, List.setIfInBounds_toArray, List.set_cons_zero, List.set_cons_succ]
      refine wpAnyH_take (i := 25) (oi := _) (v := ?va25) rfl (by kernel_rfl) (by kernel_rfl) (by kernel_rfl) (fun _ _ _ h => h) (Or.inl ⟨by rfl, ?hya25⟩) (by assumption) ?resta25
      case hya25 => (intro w hSw; (try dsimp only at hSw); go_split_ands; go_simp; try (with_reducible rfl))
      try simp only [List.getElem_toArray, List.getElem_cons_zero, List.getElem_cons_succ, Act.put, List.setIfInBounds_toArray, List.set_cons_zero, List.set_cons_succ]
      refine wpAnyH_take (i := 26) (oi := _) (v := ?va26) rfl (by kernel_rfl) (by kernel_rfl) (by kernel_rfl) (fun _ _ _ h => h) (Or.inl ⟨by rfl, ?hya26⟩) (by assumption) ?resta26
      case hya26 => (intro w hSw; (try dsimp only at hSw); go_split_ands; go_simp; try (with_reducible rfl))
      try simp only [List.getElem_toArray, List.getElem_cons_zero, List.getElem_cons_succ, Act.put, List.setIfInBounds_toArray, List.set_cons_zero, List.set_cons_succ]
      refine wpAnyH_done (by kernel_rfl) ?_ _
      go_wp2_with fail
      go_meet
      case rel => exact ⟨rfl, FIN.out w9 s4.out⟩
  case rest =>
    obtain ⟨rfl, RPc, RLc, RGc, Bc⟩ := hcut
    have HV : Hid (Vars w) := hV
    clear hV hwant CL CG CN CW ca0 RP8 RA8 RL8 RG8 B8 RAl B1 B2 B3 B4 B5 B6 szl HA HL0
    by_cases hin : 0 ≤ n ∧ n < 64
    · have HLn : Hid (lnk n = LA) := by rw [Hid, HLA.out, if_pos hin]
      have hLE : LE = 0 := by rw [HLE.out, if_pos hin]
      subst hLE
      obtain ⟨hn0, hn1⟩ := hin
      have d1 : ¬ n < 0 := by omega
      have d2 : ¬ 63 < n := by omega
      have szL : (Tryd.prog.info? 25).map (·.size) = some (cl LA).length := by rw [cl_len, hLA.1]; exact size25
      have q := eq25 LA LA hLA.1 hLA.1
      rw [beq_self_eq_true] at q
      have HGB1 : Hid (gB = (rB && decide (b = 64))) := by rw [Hid, HGB.out, decide_eq_true ⟨hn0, hn1⟩]; rfl
      clear HGB HLA HLE
      go_wp2_with fail
      refine wp_region_held_drew (S := (fun w' => w'.rangeAt w1.heap.size 0 (cl LA))) (by kernel_rfl) ?_ (fun hHeld => ?_)
      · exact RLc.out.part.range
      refine wpAnyH_take (i := 0) (oi := _) (v := ?vc0) rfl (by kernel_rfl) (by kernel_rfl) (by kernel_rfl) (fun _ _ _ h => h) (Or.inl ⟨by rfl, ?hyc0⟩) (by assumption) ?restc0
      case hyc0 => (intro w hSw; (try dsimp only at hSw); go_split_ands; go_simp; try (with_reducible rfl))
      try simp only [List.getElem_toArray, List.getElem_cons_zero, List.getElem_cons_succ, Act.put, List.setIfInBounds_toArray, List.set_cons_zero, List.set_cons_succ]
      refine wpAnyH_take (i := 1) (oi := _) (v := ?vc1) rfl (by kernel_rfl) (by kernel_rfl) (by kernel_rfl) (fun _ _ _ h => h) (Or.inl ⟨by rfl, ?hyc1⟩) (by assumption) ?restc1
      case hyc1 => (intro w hSw; (try dsimp only at hSw); go_split_ands; go_simp; try (with_reducible rfl))
      try simp only [List.getElem_toArray, List.getElem_cons_zero, List.getElem_cons_succ, Act.put, List.setIfInBounds_toArray, List.set_cons_zero, List.set_cons_succ]
      refine wpAnyH_take (i := 2) (oi := _) (v := ?vc2) rfl (by kernel_rfl) (by kernel_rfl) (by kernel_rfl) (fun _ _ _ h => h) (Or.inl ⟨by rfl, ?hyc2⟩) (by assumption) ?restc2
      case hyc2 => (intro w hSw; (try dsimp only at hSw); go_split_ands; go_simp; try (with_reducible rfl))
      try simp only [List.getElem_toArray, List.getElem_cons_zero, List.getElem_cons_succ, Act.put, List.setIfInBounds_toArray, List.set_cons_zero, List.set_cons_succ]
      refine wpAnyH_take (i := 3) (oi := _) (v := .agg (u8s LA)) rfl (by kernel_rfl) (by kernel_rfl) (by kernel_rfl) (fun _ _ _ h => h) (yieldsIf_load_mid (by rfl) 25 _ rfl w1.heap.size 0 rfl (cl LA) _ (fun w h => h) Tryd.underlying25 rfl szL) (by assumption) ?_
      try simp only [List.getElem_toArray, List.getElem_cons_zero, List.getElem_cons_succ, Act.put, List.setIfInBounds_toArray, List.set_cons_zero, List.set_cons_succ]
      refine wpAnyH_take (i := 4) (oi := _) (v := ?vc4) rfl (by kernel_rfl) (by kernel_rfl) (by kernel_rfl) (fun _ _ _ h => h) (Or.inl ⟨by rfl, ?hyc4⟩) (by assumption) ?restc4
      case hyc4 => (intro w hSw; (try dsimp only at hSw); go_split_ands; go_simp; try (with_reducible rfl))
      try simp only [List.getElem_toArray, List.getElem_cons_zero, List.getElem_cons_succ, Act.put, List.setIfInBounds_toArray, List.set_cons_zero, List.set_cons_succ]
      refine wpAnyH_ready (rs := [5]) (by kernel_rfl) (by simp) ?_
      refine AllReadyH.cons (o := _) rfl (fun K hK => ?_) AllReadyH.nil
      go_simp
      have hlk := refLink_any n (wc.drew) hn0 hn1; rw [HLn.out] at hlk; refine hlk.mono ?_; clear hlk; rintro e w10 ⟨rfl, hb10⟩; have B10 : Hid (Below wc.heap.size wc w10) := ⟨hb10.os, hb10.tape, hb10.output, hb10.size, hb10.block⟩; have s1 := range_below hHeld hb10 RLc.out.lt; clear hb10 hHeld
      go_wp2_with fail
      refine hK.out _ _ s1 (fun hHeld => ?_)
      clear hK K
      try simp only [Act.put, List.setIfInBounds_toArray, List.set_cons_zero, List.set_cons_succ]
      refine wpAnyH_take (i := 6) (oi := _) (v := ?vc6) rfl (by kernel_rfl) (by kernel_rfl) (by kernel_rfl) (fun _ _ _ h => h) (Or.inl ⟨by rfl, ?hyc6⟩) (by assumption) ?restc6
      case hyc6 => (intro w hSw; (try dsimp only at hSw); go_split_ands; go_simp; try (with_reducible rfl))
      try simp only [List.getElem_toArray, List.getElem_cons_zero, List.getElem_cons_succ, Act.put, List.setIfInBounds_toArray, List.set_cons_zero, List.set_cons_succ]
      refine wpAnyH_take (i := 7) (oi := _) (v := ?vc7) rfl (by kernel_rfl) (by kernel_rfl) (by kernel_rfl) (fun _ _ _ h => h) (Or.inl ⟨by rfl, ?hyc7⟩) (by assumption) ?restc7
      case hyc7 => (intro w hSw; (try dsimp only at hSw); go_split_ands; go_simp; try (with_reducible rfl))
      try simp only [List.getElem_toArray, List.getElem_cons_zero, List.getElem_cons_succ, Act.put, List.setIfInBounds_toArray, List.set_cons_zero, List.set_cons_succ]
      refine wpAnyH_done (by kernel_rfl) ?_ _
      have RP10 : Hid (Row w10 w.heap.size 39 (pfx p b)) := RPc.out.below B10.out RPc.out.lt
      have RG10 : Hid (Row w10 w4.heap.size 25 (u8s GA)) := RGc.out.below B10.out RGc.out.lt
      have RL10 : Hid (Row w10 w1.heap.size 25 (u8s LA)) := RLc.out.below B10.out RLc.out.lt
      have BB10 : Hid (Below w.heap.size w w10) := Bc.out.trans (B10.out.mono Bc.out.size)
      clear RPc RLc RGc Bc B10 hHeld s1 szL
      have hbt10 := RP10.out.bits hp.1
      go_wp2_with (first
        | (refine ld39 _ rfl rfl w.heap.size 0 rfl p b hp.1 RP10.out.part ?_))
      refine (CR.out _).mono ?_
      rintro e w11 ⟨rfl, hb11⟩
      have RP11 : Hid (Row w11 w.heap.size 39 (pfx p b)) := RP10.out.below hb11 RP10.out.lt
      have RG11 : Hid (Row w11 w4.heap.size 25 (u8s GA)) := RG10.out.below hb11 RG10.out.lt
      have RL11 : Hid (Row w11 w1.heap.size 25 (u8s LA)) := RL10.out.below hb11 RL10.out.lt
      have B11 : Hid (Below w.heap.size w w11) := BB10.out.trans (hb11.mono BB10.out.size)
      clear hbt10 hb11 RP10 RG10 RL10 BB10 q
      have hbt := RP11.out.bits hp.1
      have NOT : Hid (gB = false → GE = 1 ∧ GA = zeros) := fun h => by rw [HGE.out, HGA.out, h]; exact ⟨rfl, rfl⟩
      have q := eq25 zeros zeros rfl rfl
      rw [beq_self_eq_true] at q
      cases rB
      · obtain ⟨x1, x2⟩ := NOT.out (by rw [HGB1.out]; rfl)
        subst x1
        subst x2
        clear HGA HGE HGB1 NOT HRt CR
        go_wp2_with (first
          | (go_at_call 14; refine (known_any _ (HV.out.grow B11.out)).mono ?_; rintro e w12 ⟨rfl, hb12⟩; have RG12 := RG11.out.below hb12 RG11.out.lt; have B12 : Hid (Below w.heap.size w w12) := B11.out.trans (hb12.mono B11.out.size); clear hb12)
          | (refine ld25 _ rfl rfl w4.heap.size 0 rfl zeros rfl RG12.part ?_))
        go_ret
        exact ⟨rfl, B12.out⟩
      · by_cases hb64 : b = 64
        · have hg : gB = true := by rw [HGB1.out, hb64]; rfl
          have hGE : GE = 0 := by rw [HGE.out, hg]; rfl
          have HGL : Hid (GA = globL p n) := by rw [Hid, HGA.out, hg]; rfl
          have HZ : Hid (∀ i, 8 ≤ i → i < 16 → p.getD i 0 = 0) := HRt.out rfl hb64
          subst hGE
          subst hb64
          have GLO : Hid (∀ i, i < 8 → GA.getD i 0 = p.getD i 0) := fun i hi => by rw [HGL.out]; exact glob_lo p n i hi
          have GHI : Hid (∀ i, 8 ≤ i → i < 16 → GA.getD i 0 = LA.getD i 0) := fun i h8 hi => by rw [HGL.out, ← HLn.out]; exact glob_hi p n hp.1 HZ.out i h8 hi
          clear HGA HGE HGB1 NOT HRt CR HGL HZ HLn hg q
          go_wp2_with fail
          go_loopw [15] (fun vi wr => ∃ (k q : Nat), vi = .int .i64 (k : Int) ∧ k ≤ 16 ∧ wr = w11.drewN q)
            (fun vi _ => 16 - (intOf vi).toNat)
          case atStart => exact ⟨0, 0, rfl, by omega, rfl⟩
          case round =>
            obtain ⟨k, q, rfl, hk, rfl⟩ := hrel
            by_cases hlt : k < 16
            · have i1 : (k : Int) < 16 := by omega
              have cg : w11.cell? ⟨w4.heap.size, k, none⟩ = some (.int .u8 (GA.getD k 0)) := by rw [RG11.out.cell, u8s_at _ _ (by rw [hGA.1]; exact hlt)]
              by_cases h8 : k < 8
              · have i2 : (k : Int) < 8 := by omega
                have i2' : decide ((k : Int) < 8) = true := decide_eq_true i2
                have i3 : decide ((k : Int) ≥ 8) = false := decide_eq_false (by omega)
                have i4 : decide (8 ≤ (k : Int)) = false := decide_eq_false (by omega)
                have cp : w11.cell? ⟨w.heap.size, k, none⟩ = some (.int .u8 (p.getD k 0)) := by
                  have := RP11.out.pre k _ (u8s_at p k (by rw [hp.1]; exact hlt)); rwa [Nat.zero_add] at this
                rw [GLO.out k h8] at cg
                generalize p.getD k 0 = x at *
                go_wp2_with fail
                go_quiet (fail)
                go_wp2_with fail
                go_roundw
                case rel => exact ⟨k + 1, _, by go_num, by omega, rfl⟩
                case measure => simp [intOf]; omega
              · have i2' : decide ((k : Int) < 8) = false := decide_eq_false (by omega)
                have i3 : decide ((k : Int) ≥ 8) = true := decide_eq_true (by omega)
                have i4 : decide (8 ≤ (k : Int)) = true := decide_eq_true (by omega)
                have cl' : w11.cell? ⟨w1.heap.size, k, none⟩ = some (.int .u8 (LA.getD k 0)) := by rw [RL11.out.cell, u8s_at _ _ (by rw [hLA.1]; exact hlt)]
                rw [GHI.out k (by omega) hlt] at cg
                generalize LA.getD k 0 = x at *
                go_wp2_with fail
                go_quiet (fail)
                go_wp2_with fail
                go_roundw
                case rel => exact ⟨k + 1, _, by go_num, by omega, rfl⟩
                case measure => simp [intOf]; omega
            · have i1 : ¬ (k : Int) < 16 := by omega
              have B12 : Hid (Below w.heap.size w (w11.drewN q)) := below_drewN B11.out q
              go_wp2_with (first
                | (go_at_call 14; refine (known_any _ (HV.out.grow B12.out)).mono ?_; rintro e w12 ⟨rfl, hb12⟩; have B13 : Hid (Below w.heap.size w w12) := B12.out.trans (hb12.mono B12.out.size); clear hb12))
              go_ret
              exact ⟨rfl, B13.out⟩
        · have e64 : (b == 64) = false := by simpa using hb64
          obtain ⟨x1, x2⟩ := NOT.out (by rw [HGB1.out, decide_eq_false hb64]; rfl)
          subst x1
          subst x2
          clear HGA HGE HGB1 NOT HRt CR
          go_wp2_with (first
            | (go_at_call 14; refine (known_any _ (HV.out.grow B11.out)).mono ?_; rintro e w12 ⟨rfl, hb12⟩; have RG12 := RG11.out.below hb12 RG11.out.lt; have B12 : Hid (Below w.heap.size w w12) := B11.out.trans (hb12.mono B11.out.size); clear hb12)
            | (refine ld25 _ rfl rfl w4.heap.size 0 rfl zeros rfl RG12.part ?_))
          go_ret
          exact ⟨rfl, B12.out⟩
    · have hLE : LE = 1 := by rw [HLE.out, if_neg hin]
      have hg : gB = false := by rw [HGB.out, decide_eq_false hin]; rfl
      have hGE : GE = 1 := by rw [HGE.out, hg]; rfl
      subst hLE
      subst hGE
      clear HLA HLE HGA HGE HGB HRt CR hg
      by_cases hneg : n < 0
      · go_wp2_with (first
          | (go_at_call 14; refine (known_any _ (HV.out.grow Bc.out)).mono ?_; rintro e w12 ⟨rfl, hb12⟩; have B13 : Hid (Below w.heap.size w w12) := Bc.out.trans (hb12.mono Bc.out.size); clear hb12))
        go_ret
        exact ⟨rfl, B13.out⟩
      · have hbig : 63 < n := by omega
        go_wp2_with (first
          | (go_at_call 14; refine (known_any _ (HV.out.grow Bc.out)).mono ?_; rintro e w12 ⟨rfl, hb12⟩; have B13 : Hid (Below w.heap.size w w12) := Bc.out.trans (hb12.mono Bc.out.size); clear hb12))
        go_ret
        exact ⟨rfl, B13.out⟩
end Go.Proofs.YtoijfnkbjdekoaaDoor
