/- AddrTexts: its walk. -/
import Derived.Test.YtoijfnkbjdekoaaDoorText
namespace Go.Proofs.YtoijfnkbjdekoaaDoor
open Go.ChangeShapes Go.WideShapes Go.ChangeAt Go.RowKit
set_option linter.unusedVariables false
set_option linter.unusedSimpArgs false

theorem range23 {w : World} {b : Nat} {t : TypeId} {l : List Int} (h : Row w b t (i64s l)) : w.rangeAt b 0 (i64c l) := fun j v hv => h.part j v (by simpa [i64s, i64c] using hv)
theorem eqItems_i64 (w : World) (l : List Int) : ∀ (is : List Nat), (∀ i ∈ is, i < l.length) →
    (Op.eqItems 9999 3 (Tryd.prog.cellsOf 3) (i64s l) (i64s l) is).run Tryd.prog w = .ok true w
  | [], _ => by simp [Op.eqItems]
  | i :: is, hi => by
    have h1 : Tryd.prog.cellsOf 3 = 1 := by kernel_rfl
    have hil : i < l.length := hi i (by simp)
    have ih := eqItems_i64 w l is (fun j hj => hi j (by simp [hj]))
    have hp : (part 3 (i64s l) (i * 1)).run Tryd.prog w = .ok (.int .i64 (l.getD i 0)) w := by
      have hagg : (isAgg 3).run Tryd.prog w = .ok false w := by unfold isAgg; rw [Sem.run_bind, run_underlying Tryd.underlying3 w]; rfl
      simp only [part, Sem.run_bind, hagg, Result.andThen_ok, Bool.false_eq_true, if_false, Nat.mul_one, i64s_at l i hil, Sem.run_pure]
    simp only [Op.eqItems, Sem.run_bind, h1, hp, Result.andThen_ok, run_equalIn_int (P := Tryd.prog) w 9998 3 .i64 .i64 (l.getD i 0) (l.getD i 0) Tryd.underlying3]
    rw [h1] at ih
    simp only [beq_self_eq_true, Bool.not_true, Bool.false_eq_true, if_false]
    exact ih
theorem eq23 (l : List Int) (hl : l.length = 8) (w : World) : (Op.equalIn 10000 23 (.agg (i64s l)) (.agg (i64s l))).run Tryd.prog w = .ok true w := by
  obtain ⟨i, hi⟩ := Option.isSome_iff_exists.1 info3'
  rw [run_equalIn_array w 9999 (i64s l) (i64s l) Tryd.underlying23 hi]
  exact eqItems_i64 w l _ (by intro i hi; simp at hi; omega)

set_option maxRecDepth 1000000 in
set_option maxHeartbeats 6400000 in
theorem texts_core (l g A : List Int) (s t x : ByteArray) (E : Int) (w : World) (ha : Adr l) (hA : Adr A) (hg : g.length = 8) (hsz : s.size ≤ maxLen) (hx : s.extract 0 (min (s.size : Int) 60).toNat = x) (HV : Hid (Vars w))
    (C8 : Hid (∀ w' : World, Calls Tryd.prog 8 #[.agg (u8s l)] w' fun e w'' => e = .returned (.agg (i64s g)) ∧ Below w'.heap.size w' w''))
    (C9 : Hid (∀ (w' : World) (b : Nat), Row w' b 23 (i64s g) → Calls Tryd.prog 9 #[.slice (some ⟨b, 0, none⟩) 8 8] w' fun e w'' => e = .returned (.tuple #[.agg (u8s l), .int .i64 0]) ∧ Below w'.heap.size w' w''))
    (C11 : Hid (∀ w' : World, Vars w' → Calls Tryd.prog 11 #[.agg (u8s l)] w' fun e w'' => e = .returned (.string t) ∧ Below w'.heap.size w' w''))
    (C10 : Hid (∀ w' : World, Vars w' → Calls Tryd.prog 10 #[.string t] w' fun e w'' => e = .returned (.tuple #[.agg (u8s l), .int .i64 0]) ∧ Below w'.heap.size w' w''))
    (C10x : Hid (∀ w' : World, Vars w' → Calls Tryd.prog 10 #[.string x] w' fun e w'' => e = .returned (.tuple #[.agg (u8s A), .int .i64 E]) ∧ Below w'.heap.size w' w''))
    (C12 : Hid (∀ w' : World, Calls Tryd.prog 12 #[.agg (u8s l)] w' fun e w'' => e = .returned (.agg (i64s g)) ∧ Below w'.heap.size w' w''))
    (C13 : Hid (∀ w' : World, Calls Tryd.prog 13 #[.agg (u8s l)] w' fun e w'' => e = .returned (.string t) ∧ Below w'.heap.size w' w''))
    (C13A : Hid (E = 0 → ∀ w' : World, Calls Tryd.prog 13 #[.agg (u8s A)] w' fun e w'' => e = .returned (.string x) ∧ Below w'.heap.size w' w''))
    (C14 : Hid (∀ w' : World, Vars w' → Calls Tryd.prog 14 #[] w' fun e w'' => e = .returned (.bool true) ∧ Below w'.heap.size w' w''))
    (HE : E = 0 ∨ (E = 3 ∧ A = zeros ∧ (x.toList == t.toList) = false)) :
    Calls Tryd.prog 3 #[.agg (u8s l), .string s] w fun e w' => e = .returned (.bool true) ∧ Below w.heap.size w w' := by
  have hz := zadr
  have hz8 := z8
  have RA0 : Hid (Row (w.alloc (.cells (u8s l) 22)) w.heap.size 22 (u8s l)) := Row.new w 22 _
  have B0 : Hid (Below w.heap.size w (w.alloc (.cells (u8s l) 22))) := below_new w _
  go_enter Tryd.func3, Tryd.ntmps3
  go_wp2_with (first
    | (refine ld22 _ rfl rfl w.heap.size 0 rfl l ha.1 RA0.out.part ?_)
    | (go_at_call 8; refine (C8.out _).mono ?_; rintro e w1 ⟨rfl, hb1⟩; have RA1 : Hid (Row w1 w.heap.size 22 (u8s l)) := RA0.out.below hb1 RA0.out.lt; have B1 : Hid (Below w.heap.size w w1) := B0.out.trans (hb1.mono B0.out.size); clear hb1 B0 RA0)
    | (refine st23 _ _ rfl rfl w1.heap.size g hg rfl rfl 23 _ (by rfl) (Row.new w1 23 (i64s z8L)) ?_; have RG2 : Hid (Row ((w1.alloc (.cells (i64s z8L) 23)).setRow w1.heap.size (i64s g)) w1.heap.size 23 (i64s g)) := (Row.new w1 23 _).setRow _; have RA2 : Hid (Row ((w1.alloc (.cells (i64s z8L) 23)).setRow w1.heap.size (i64s g)) w.heap.size 22 (u8s l)) := (RA1.out.alloc _).rowOther _ _ (Nat.ne_of_lt RA1.out.lt); have B2 : Hid (Below w.heap.size w ((w1.alloc (.cells (i64s z8L) 23)).setRow w1.heap.size (i64s g))) := below_setRow (B1.out.alloc B1.out.size _) B1.out.size _; generalize ((w1.alloc (.cells (i64s z8L) 23)).setRow w1.heap.size (i64s g)) = w2 at *; clear B1 RA1; have s1 := slice23_all w1.heap.size)
    | (go_at_call 9; refine (C9.out _ _ RG2.out).mono ?_; rintro e w3 ⟨rfl, hb3⟩; have RA3 : Hid (Row w3 w.heap.size 22 (u8s l)) := RA2.out.below hb3 RA2.out.lt; have RG3 : Hid (Row w3 w1.heap.size 23 (i64s g)) := RG2.out.below hb3 RG2.out.lt; have B3 : Hid (Below w.heap.size w w3) := B2.out.trans (hb3.mono B2.out.size); clear hb3 B2 RA2 RG2)
    | (refine st25 _ _ rfl rfl w3.heap.size l ha.1 rfl rfl 25 _ (by rfl) (Row.new w3 25 (u8s zeros)) ?_; have RB4 : Hid (Row ((w3.alloc (.cells (u8s zeros) 25)).setRow w3.heap.size (u8s l)) w3.heap.size 25 (u8s l)) := (Row.new w3 25 _).setRow _; have RA4 : Hid (Row ((w3.alloc (.cells (u8s zeros) 25)).setRow w3.heap.size (u8s l)) w.heap.size 22 (u8s l)) := (RA3.out.alloc _).rowOther _ _ (Nat.ne_of_lt RA3.out.lt); have RG4 : Hid (Row ((w3.alloc (.cells (u8s zeros) 25)).setRow w3.heap.size (u8s l)) w1.heap.size 23 (i64s g)) := (RG3.out.alloc _).rowOther _ _ (Nat.ne_of_lt RG3.out.lt); have B4 : Hid (Below w.heap.size w ((w3.alloc (.cells (u8s zeros) 25)).setRow w3.heap.size (u8s l))) := below_setRow (B3.out.alloc B3.out.size _) B3.out.size _; generalize ((w3.alloc (.cells (u8s zeros) 25)).setRow w3.heap.size (u8s l)) = w4 at *; clear B3 RA3 RG3)
    | (refine ld22 _ rfl rfl w.heap.size 0 rfl l ha.1 RA4.out.part ?_)
    | (go_at_call 11; refine (C11.out _ (HV.out.grow B4.out)).mono ?_; rintro e w5 ⟨rfl, hb5⟩; have RA5 : Hid (Row w5 w.heap.size 22 (u8s l)) := RA4.out.below hb5 RA4.out.lt; have RG5 : Hid (Row w5 w1.heap.size 23 (i64s g)) := RG4.out.below hb5 RG4.out.lt; have RB5 : Hid (Row w5 w3.heap.size 25 (u8s l)) := RB4.out.below hb5 RB4.out.lt; have B5 : Hid (Below w.heap.size w w5) := B4.out.trans (hb5.mono B4.out.size); clear hb5 B4 RA4 RG4 RB4)
    | (go_at_call 10; refine (C10.out _ (HV.out.grow B5.out)).mono ?_; rintro e w6 ⟨rfl, hb6⟩; have RA6 : Hid (Row w6 w.heap.size 22 (u8s l)) := RA5.out.below hb6 RA5.out.lt; have RG6 : Hid (Row w6 w1.heap.size 23 (i64s g)) := RG5.out.below hb6 RG5.out.lt; have RB6 : Hid (Row w6 w3.heap.size 25 (u8s l)) := RB5.out.below hb6 RB5.out.lt; have B6 : Hid (Below w.heap.size w w6) := B5.out.trans (hb6.mono B5.out.size); clear hb6 B5 RA5 RG5 RB5)
    | (refine st25 _ _ rfl rfl w6.heap.size l ha.1 rfl rfl 25 _ (by rfl) (Row.new w6 25 (u8s zeros)) ?_; have RC7 : Hid (Row ((w6.alloc (.cells (u8s zeros) 25)).setRow w6.heap.size (u8s l)) w6.heap.size 25 (u8s l)) := (Row.new w6 25 _).setRow _; have RA7 : Hid (Row ((w6.alloc (.cells (u8s zeros) 25)).setRow w6.heap.size (u8s l)) w.heap.size 22 (u8s l)) := (RA6.out.alloc _).rowOther _ _ (Nat.ne_of_lt RA6.out.lt); have RG7 : Hid (Row ((w6.alloc (.cells (u8s zeros) 25)).setRow w6.heap.size (u8s l)) w1.heap.size 23 (i64s g)) := (RG6.out.alloc _).rowOther _ _ (Nat.ne_of_lt RG6.out.lt); have RB7 : Hid (Row ((w6.alloc (.cells (u8s zeros) 25)).setRow w6.heap.size (u8s l)) w3.heap.size 25 (u8s l)) := (RB6.out.alloc _).rowOther _ _ (Nat.ne_of_lt RB6.out.lt); have B7 : Hid (Below w.heap.size w ((w6.alloc (.cells (u8s zeros) 25)).setRow w6.heap.size (u8s l))) := below_setRow (B6.out.alloc B6.out.size _) B6.out.size _; generalize ((w6.alloc (.cells (u8s zeros) 25)).setRow w6.heap.size (u8s l)) = w7 at *; clear B6 RA6 RG6 RB6)
    | (go_at_call 10; refine (C10x.out _ (HV.out.grow B7.out)).mono ?_; rintro e w8 ⟨rfl, hb8⟩; have RA8 : Hid (Row w8 w.heap.size 22 (u8s l)) := RA7.out.below hb8 RA7.out.lt; have RG8 : Hid (Row w8 w1.heap.size 23 (i64s g)) := RG7.out.below hb8 RG7.out.lt; have RB8 : Hid (Row w8 w3.heap.size 25 (u8s l)) := RB7.out.below hb8 RB7.out.lt; have RC8 : Hid (Row w8 w6.heap.size 25 (u8s l)) := RC7.out.below hb8 RC7.out.lt; have B8 : Hid (Below w.heap.size w w8) := B7.out.trans (hb8.mono B7.out.size); clear hb8 B7 RA7 RG7 RB7 RC7)
    | (refine st25 _ _ rfl rfl w8.heap.size A hA.1 rfl rfl 25 _ (by rfl) (Row.new w8 25 (u8s zeros)) ?_; have RD9 : Hid (Row ((w8.alloc (.cells (u8s zeros) 25)).setRow w8.heap.size (u8s A)) w8.heap.size 25 (u8s A)) := (Row.new w8 25 _).setRow _; have RA9 : Hid (Row ((w8.alloc (.cells (u8s zeros) 25)).setRow w8.heap.size (u8s A)) w.heap.size 22 (u8s l)) := (RA8.out.alloc _).rowOther _ _ (Nat.ne_of_lt RA8.out.lt); have RG9 : Hid (Row ((w8.alloc (.cells (u8s zeros) 25)).setRow w8.heap.size (u8s A)) w1.heap.size 23 (i64s g)) := (RG8.out.alloc _).rowOther _ _ (Nat.ne_of_lt RG8.out.lt); have RB9 : Hid (Row ((w8.alloc (.cells (u8s zeros) 25)).setRow w8.heap.size (u8s A)) w3.heap.size 25 (u8s l)) := (RB8.out.alloc _).rowOther _ _ (Nat.ne_of_lt RB8.out.lt); have RC9 : Hid (Row ((w8.alloc (.cells (u8s zeros) 25)).setRow w8.heap.size (u8s A)) w6.heap.size 25 (u8s l)) := (RC8.out.alloc _).rowOther _ _ (Nat.ne_of_lt RC8.out.lt); have B9 : Hid (Below w.heap.size w ((w8.alloc (.cells (u8s zeros) 25)).setRow w8.heap.size (u8s A))) := below_setRow (B8.out.alloc B8.out.size _) B8.out.size _; generalize ((w8.alloc (.cells (u8s zeros) 25)).setRow w8.heap.size (u8s A)) = w9 at *; clear B8 RA8 RG8 RB8 RC8))
  have HV9 : Hid (Vars w9) := HV.out.grow B9.out
  have RAD : Hid (w9.rangeAt w.heap.size 0 (cl l)) := RA9.out.part.range
  have RBD : Hid (w9.rangeAt w3.heap.size 0 (cl l)) := RB9.out.part.range
  have RCD : Hid (w9.rangeAt w6.heap.size 0 (cl l)) := RC9.out.part.range
  have RGD : Hid (w9.rangeAt w1.heap.size 0 (i64c g)) := range23 RG9.out
  have hal : w.heap.size < w9.heap.size := RA9.out.lt
  have hbl : w3.heap.size < w9.heap.size := RB9.out.lt
  have hcl : w6.heap.size < w9.heap.size := RC9.out.lt
  have hgl2 : w1.heap.size < w9.heap.size := RG9.out.lt
  clear RB9 RC9 RG9
  have sz22 : (Tryd.prog.info? 22).map (·.size) = some (cl l).length := by rw [cl_len, ha.1]; exact size22
  have sz25 : (Tryd.prog.info? 25).map (·.size) = some (cl l).length := by rw [cl_len, ha.1]; exact size25
  have sz23 : (Tryd.prog.info? 23).map (·.size) = some (i64c g).length := by rw [i64c, List.length_map, hg]; exact size23
  have KEEP : Hid (∀ x y : World, Hid (Below w9.heap.size w9 x) → Below x.heap.size x y → Hid (Below w9.heap.size w9 y)) := fun x y h hxy => h.out.trans (hxy.mono h.out.size)
  have q23 := eq23 g hg
  have q25 := eq25 l l ha.1 ha.1
  rw [beq_self_eq_true] at q25
  refine wp_region_held_drew (S := (fun w' => Hid (Below w9.heap.size w9 w'))) (by kernel_rfl) ?_ (fun hHeld => ?_)
  · exact (Below.refl _ _).drew
  refine wpAnyH_take (i := 0) (oi := _) (v := .agg (i64s g)) rfl (by kernel_rfl) (by kernel_rfl) (by kernel_rfl) (fun _ _ _ h => h) (yieldsIf_load_mid (by rfl) 23 _ rfl w1.heap.size 0 rfl (i64c g) _ (fun w h => range_below RGD.out h.out hgl2) Tryd.underlying23 rfl sz23) (by assumption) ?_
  try simp only [List.getElem_toArray, List.getElem_cons_zero, List.getElem_cons_succ, Act.put, List.setIfInBounds_toArray, List.set_cons_zero, List.set_cons_succ]
  refine wpAnyH_take (i := 1) (oi := _) (v := .agg (u8s l)) rfl (by kernel_rfl) (by kernel_rfl) (by kernel_rfl) (fun _ _ _ h => h) (yieldsIf_load_mid (by rfl) 22 _ rfl w.heap.size 0 rfl (cl l) _ (fun w h => range_below RAD.out h.out hal) Tryd.underlying22 rfl sz22) (by assumption) ?_
  try simp only [List.getElem_toArray, List.getElem_cons_zero, List.getElem_cons_succ, Act.put, List.setIfInBounds_toArray, List.set_cons_zero, List.set_cons_succ]
  refine wpAnyH_ready (rs := [2]) (by kernel_rfl) (by simp) ?_
  refine AllReadyH.cons (o := _) rfl (fun K hK => ?_) AllReadyH.nil
  go_simp
  refine (C12.out _).mono ?_; rintro e w10 ⟨rfl, hbx⟩; have sw10 := KEEP.out _ _ hHeld hbx; clear hbx hHeld
  go_wp2_with fail
  refine hK.out _ _ sw10 (fun hHeld => ?_)
  clear hK K
  try simp only [Act.put, List.setIfInBounds_toArray, List.set_cons_zero, List.set_cons_succ]
  refine wpAnyH_take (i := 3) (oi := _) (v := ?vh3) rfl (by kernel_rfl) (by kernel_rfl) (by kernel_rfl) (fun _ _ _ h => h) (Or.inl ⟨by rfl, ?hyh3⟩) (by assumption) ?resth3
  case hyh3 => (intro w hSw; (try dsimp only at hSw); go_split_ands; go_simp; try (with_reducible rfl))
  try simp only [List.getElem_toArray, List.getElem_cons_zero, List.getElem_cons_succ, Act.put, List.setIfInBounds_toArray, List.set_cons_zero, List.set_cons_succ]
  refine wpAnyH_take (i := 4) (oi := _) (v := ?vh4) rfl (by kernel_rfl) (by kernel_rfl) (by kernel_rfl) (fun _ _ _ h => h) (Or.inl ⟨by rfl, ?hyh4⟩) (by assumption) ?resth4
  case hyh4 => (intro w hSw; (try dsimp only at hSw); go_split_ands; go_simp; try (with_reducible rfl))
  try simp only [List.getElem_toArray, List.getElem_cons_zero, List.getElem_cons_succ, Act.put, List.setIfInBounds_toArray, List.set_cons_zero, List.set_cons_succ]
  refine wpAnyH_take (i := 5) (oi := _) (v := ?vh5) rfl (by kernel_rfl) (by kernel_rfl) (by kernel_rfl) (fun _ _ _ h => h) (Or.inl ⟨by rfl, ?hyh5⟩) (by assumption) ?resth5
  case hyh5 => (intro w hSw; (try dsimp only at hSw); go_split_ands; go_simp; try (with_reducible rfl))
  try simp only [List.getElem_toArray, List.getElem_cons_zero, List.getElem_cons_succ, Act.put, List.setIfInBounds_toArray, List.set_cons_zero, List.set_cons_succ]
  refine wpAnyH_take (i := 6) (oi := _) (v := ?vh6) rfl (by kernel_rfl) (by kernel_rfl) (by kernel_rfl) (fun _ _ _ h => h) (Or.inl ⟨by rfl, ?hyh6⟩) (by assumption) ?resth6
  case hyh6 => (intro w hSw; (try dsimp only at hSw); go_split_ands; go_simp; try (with_reducible rfl))
  try simp only [List.getElem_toArray, List.getElem_cons_zero, List.getElem_cons_succ, Act.put, List.setIfInBounds_toArray, List.set_cons_zero, List.set_cons_succ]
  refine wpAnyH_take (i := 7) (oi := _) (v := ?vh7) rfl (by kernel_rfl) (by kernel_rfl) (by kernel_rfl) (fun _ _ _ h => h) (Or.inl ⟨by rfl, ?hyh7⟩) (by assumption) ?resth7
  case hyh7 => (intro w hSw; (try dsimp only at hSw); go_split_ands; go_simp; try (with_reducible rfl))
  try simp only [List.getElem_toArray, List.getElem_cons_zero, List.getElem_cons_succ, Act.put, List.setIfInBounds_toArray, List.set_cons_zero, List.set_cons_succ]
  refine wpAnyH_take (i := 8) (oi := _) (v := ?vh8) rfl (by kernel_rfl) (by kernel_rfl) (by kernel_rfl) (fun _ _ _ h => h) (Or.inl ⟨by rfl, ?hyh8⟩) (by assumption) ?resth8
  case hyh8 => (intro w hSw; (try dsimp only at hSw); go_split_ands; go_simp; try (with_reducible rfl))
  try simp only [List.getElem_toArray, List.getElem_cons_zero, List.getElem_cons_succ, Act.put, List.setIfInBounds_toArray, List.set_cons_zero, List.set_cons_succ]
  refine wpAnyH_take (i := 9) (oi := _) (v := .agg (u8s l)) rfl (by kernel_rfl) (by kernel_rfl) (by kernel_rfl) (fun _ _ _ h => h) (yieldsIf_load_mid (by rfl) 25 _ rfl w3.heap.size 0 rfl (cl l) _ (fun w h => range_below RBD.out h.out hbl) Tryd.underlying25 rfl sz25) (by assumption) ?_
  try simp only [List.getElem_toArray, List.getElem_cons_zero, List.getElem_cons_succ, Act.put, List.setIfInBounds_toArray, List.set_cons_zero, List.set_cons_succ]
  refine wpAnyH_take (i := 10) (oi := _) (v := .agg (u8s l)) rfl (by kernel_rfl) (by kernel_rfl) (by kernel_rfl) (fun _ _ _ h => h) (yieldsIf_load_mid (by rfl) 22 _ rfl w.heap.size 0 rfl (cl l) _ (fun w h => range_below RAD.out h.out hal) Tryd.underlying22 rfl sz22) (by assumption) ?_
  try simp only [List.getElem_toArray, List.getElem_cons_zero, List.getElem_cons_succ, Act.put, List.setIfInBounds_toArray, List.set_cons_zero, List.set_cons_succ]
  refine wpAnyH_take (i := 11) (oi := _) (v := ?vh11) rfl (by kernel_rfl) (by kernel_rfl) (by kernel_rfl) (fun _ _ _ h => h) (Or.inl ⟨by rfl, ?hyh11⟩) (by assumption) ?resth11
  case hyh11 => (intro w hSw; (try dsimp only at hSw); go_split_ands; go_simp; try (with_reducible rfl))
  try simp only [List.getElem_toArray, List.getElem_cons_zero, List.getElem_cons_succ, Act.put, List.setIfInBounds_toArray, List.set_cons_zero, List.set_cons_succ]
  refine wpAnyH_take (i := 12) (oi := _) (v := ?vh12) rfl (by kernel_rfl) (by kernel_rfl) (by kernel_rfl) (fun _ _ _ h => h) (Or.inl ⟨by rfl, ?hyh12⟩) (by assumption) ?resth12
  case hyh12 => (intro w hSw; (try dsimp only at hSw); go_split_ands; go_simp; try (with_reducible rfl))
  try simp only [List.getElem_toArray, List.getElem_cons_zero, List.getElem_cons_succ, Act.put, List.setIfInBounds_toArray, List.set_cons_zero, List.set_cons_succ]
  refine wpAnyH_take (i := 13) (oi := _) (v := ?vh13) rfl (by kernel_rfl) (by kernel_rfl) (by kernel_rfl) (fun _ _ _ h => h) (Or.inl ⟨by rfl, ?hyh13⟩) (by assumption) ?resth13
  case hyh13 => (intro w hSw; (try dsimp only at hSw); go_split_ands; go_simp; try (with_reducible rfl))
  try simp only [List.getElem_toArray, List.getElem_cons_zero, List.getElem_cons_succ, Act.put, List.setIfInBounds_toArray, List.set_cons_zero, List.set_cons_succ]
  refine wpAnyH_take (i := 14) (oi := _) (v := .agg (u8s l)) rfl (by kernel_rfl) (by kernel_rfl) (by kernel_rfl) (fun _ _ _ h => h) (yieldsIf_load_mid (by rfl) 22 _ rfl w.heap.size 0 rfl (cl l) _ (fun w h => range_below RAD.out h.out hal) Tryd.underlying22 rfl sz22) (by assumption) ?_
  try simp only [List.getElem_toArray, List.getElem_cons_zero, List.getElem_cons_succ, Act.put, List.setIfInBounds_toArray, List.set_cons_zero, List.set_cons_succ]
  refine wpAnyH_take (i := 16) (oi := _) (v := .agg (u8s l)) rfl (by kernel_rfl) (by kernel_rfl) (by kernel_rfl) (fun _ _ _ h => h) (yieldsIf_load_mid (by rfl) 22 _ rfl w.heap.size 0 rfl (cl l) _ (fun w h => range_below RAD.out h.out hal) Tryd.underlying22 rfl sz22) (by assumption) ?_
  try simp only [List.getElem_toArray, List.getElem_cons_zero, List.getElem_cons_succ, Act.put, List.setIfInBounds_toArray, List.set_cons_zero, List.set_cons_succ]
  refine wpAnyH_ready (rs := [15]) (by kernel_rfl) (by simp) ?_
  refine AllReadyH.cons (o := _) rfl (fun K hK => ?_) AllReadyH.nil
  go_simp
  refine (C11.out _ (HV9.out.grow hHeld.out)).mono ?_; rintro e w11 ⟨rfl, hbx⟩; have sw11 := KEEP.out _ _ hHeld hbx; clear hbx hHeld
  go_wp2_with fail
  refine hK.out _ _ sw11 (fun hHeld => ?_)
  clear hK K
  try simp only [Act.put, List.setIfInBounds_toArray, List.set_cons_zero, List.set_cons_succ]
  refine wpAnyH_ready (rs := [17]) (by kernel_rfl) (by simp) ?_
  refine AllReadyH.cons (o := _) rfl (fun K hK => ?_) AllReadyH.nil
  go_simp
  refine (C13.out _).mono ?_; rintro e w12 ⟨rfl, hbx⟩; have sw12 := KEEP.out _ _ hHeld hbx; clear hbx hHeld
  go_wp2_with fail
  refine hK.out _ _ sw12 (fun hHeld => ?_)
  clear hK K
  try simp only [Act.put, List.setIfInBounds_toArray, List.set_cons_zero, List.set_cons_succ]
  refine wpAnyH_take (i := 18) (oi := _) (v := ?vh18) rfl (by kernel_rfl) (by kernel_rfl) (by kernel_rfl) (fun _ _ _ h => h) (Or.inl ⟨by rfl, ?hyh18⟩) (by assumption) ?resth18
  case hyh18 => (intro w hSw; (try dsimp only at hSw); go_split_ands; go_simp; try (with_reducible rfl))
  try simp only [List.getElem_toArray, List.getElem_cons_zero, List.getElem_cons_succ, Act.put, List.setIfInBounds_toArray, List.set_cons_zero, List.set_cons_succ]
  refine wpAnyH_take (i := 19) (oi := _) (v := ?vh19) rfl (by kernel_rfl) (by kernel_rfl) (by kernel_rfl) (fun _ _ _ h => h) (Or.inl ⟨by rfl, ?hyh19⟩) (by assumption) ?resth19
  case hyh19 => (intro w hSw; (try dsimp only at hSw); go_split_ands; go_simp; try (with_reducible rfl))
  try simp only [List.getElem_toArray, List.getElem_cons_zero, List.getElem_cons_succ, Act.put, List.setIfInBounds_toArray, List.set_cons_zero, List.set_cons_succ]
  refine wpAnyH_take (i := 20) (oi := _) (v := ?vh20) rfl (by kernel_rfl) (by kernel_rfl) (by kernel_rfl) (fun _ _ _ h => h) (Or.inl ⟨by rfl, ?hyh20⟩) (by assumption) ?resth20
  case hyh20 => (intro w hSw; (try dsimp only at hSw); go_split_ands; go_simp; try (with_reducible rfl))
  try simp only [List.getElem_toArray, List.getElem_cons_zero, List.getElem_cons_succ, Act.put, List.setIfInBounds_toArray, List.set_cons_zero, List.set_cons_succ]
  refine wpAnyH_take (i := 21) (oi := _) (v := ?vh21) rfl (by kernel_rfl) (by kernel_rfl) (by kernel_rfl) (fun _ _ _ h => h) (Or.inl ⟨by rfl, ?hyh21⟩) (by assumption) ?resth21
  case hyh21 => (intro w hSw; (try dsimp only at hSw); go_split_ands; go_simp; try (with_reducible rfl))
  try simp only [List.getElem_toArray, List.getElem_cons_zero, List.getElem_cons_succ, Act.put, List.setIfInBounds_toArray, List.set_cons_zero, List.set_cons_succ]
  refine wpAnyH_take (i := 22) (oi := _) (v := ?vh22) rfl (by kernel_rfl) (by kernel_rfl) (by kernel_rfl) (fun _ _ _ h => h) (Or.inl ⟨by rfl, ?hyh22⟩) (by assumption) ?resth22
  case hyh22 => (intro w hSw; (try dsimp only at hSw); go_split_ands; go_simp; try (with_reducible rfl))
  try simp only [List.getElem_toArray, List.getElem_cons_zero, List.getElem_cons_succ, Act.put, List.setIfInBounds_toArray, List.set_cons_zero, List.set_cons_succ]
  refine wpAnyH_take (i := 23) (oi := _) (v := ?vh23) rfl (by kernel_rfl) (by kernel_rfl) (by kernel_rfl) (fun _ _ _ h => h) (Or.inl ⟨by rfl, ?hyh23⟩) (by assumption) ?resth23
  case hyh23 => (intro w hSw; (try dsimp only at hSw); go_split_ands; go_simp; try (with_reducible rfl))
  try simp only [List.getElem_toArray, List.getElem_cons_zero, List.getElem_cons_succ, Act.put, List.setIfInBounds_toArray, List.set_cons_zero, List.set_cons_succ]
  refine wpAnyH_take (i := 24) (oi := _) (v := ?vh24) rfl (by kernel_rfl) (by kernel_rfl) (by kernel_rfl) (fun _ _ _ h => h) (Or.inl ⟨by rfl, ?hyh24⟩) (by assumption) ?resth24
  case hyh24 => (intro w hSw; (try dsimp only at hSw); go_split_ands; go_simp; try (with_reducible rfl))
  try simp only [List.getElem_toArray, List.getElem_cons_zero, List.getElem_cons_succ, Act.put, List.setIfInBounds_toArray, List.set_cons_zero, List.set_cons_succ]
  refine wpAnyH_take (i := 25) (oi := _) (v := .agg (u8s l)) rfl (by kernel_rfl) (by kernel_rfl) (by kernel_rfl) (fun _ _ _ h => h) (yieldsIf_load_mid (by rfl) 25 _ rfl w6.heap.size 0 rfl (cl l) _ (fun w h => range_below RCD.out h.out hcl) Tryd.underlying25 rfl sz25) (by assumption) ?_
  try simp only [List.getElem_toArray, List.getElem_cons_zero, List.getElem_cons_succ, Act.put, List.setIfInBounds_toArray, List.set_cons_zero, List.set_cons_succ]
  refine wpAnyH_take (i := 26) (oi := _) (v := .agg (u8s l)) rfl (by kernel_rfl) (by kernel_rfl) (by kernel_rfl) (fun _ _ _ h => h) (yieldsIf_load_mid (by rfl) 22 _ rfl w.heap.size 0 rfl (cl l) _ (fun w h => range_below RAD.out h.out hal) Tryd.underlying22 rfl sz22) (by assumption) ?_
  try simp only [List.getElem_toArray, List.getElem_cons_zero, List.getElem_cons_succ, Act.put, List.setIfInBounds_toArray, List.set_cons_zero, List.set_cons_succ]
  refine wpAnyH_take (i := 27) (oi := _) (v := ?vh27) rfl (by kernel_rfl) (by kernel_rfl) (by kernel_rfl) (fun _ _ _ h => h) (Or.inl ⟨by rfl, ?hyh27⟩) (by assumption) ?resth27
  case hyh27 => (intro w hSw; (try dsimp only at hSw); go_split_ands; go_simp; try (with_reducible rfl))
  try simp only [List.getElem_toArray, List.getElem_cons_zero, List.getElem_cons_succ, Act.put, List.setIfInBounds_toArray, List.set_cons_zero, List.set_cons_succ]
  refine wpAnyH_take (i := 28) (oi := _) (v := ?vh28) rfl (by kernel_rfl) (by kernel_rfl) (by kernel_rfl) (fun _ _ _ h => h) (Or.inl ⟨by rfl, ?hyh28⟩) (by assumption) ?resth28
  case hyh28 => (intro w hSw; (try dsimp only at hSw); go_split_ands; go_simp; try (with_reducible rfl))
  try simp only [List.getElem_toArray, List.getElem_cons_zero, List.getElem_cons_succ, Act.put, List.setIfInBounds_toArray, List.set_cons_zero, List.set_cons_succ]
  refine wpAnyH_done (by kernel_rfl) ?_ _
  have RA13 : Hid (Row w12 w.heap.size 22 (u8s l)) := RA9.out.below hHeld.out RA9.out.lt
  have RD13 : Hid (Row w12 w8.heap.size 25 (u8s A)) := RD9.out.below hHeld.out RD9.out.lt
  have B13 : Hid (Below w.heap.size w w12) := B9.out.trans (hHeld.out.mono B9.out.size)
  clear KEEP RAD RGD RBD RCD RA9 RD9 B9 HV9 hHeld
  generalize w12 = w13 at *
  rcases HE with rfl | ⟨rfl, rfl, hne⟩
  · have C13B : Hid (∀ w' : World, Calls Tryd.prog 13 #[.agg (u8s A)] w' fun e w'' => e = .returned (.string x) ∧ Below w'.heap.size w' w'') := C13A.out rfl
    clear C13A
    go_wp2_with (first
      | (go_at_call 14; refine (C14.out _ (HV.out.grow B13.out)).mono ?_; rintro e w14 ⟨rfl, hb14⟩; have RA14 : Hid (Row w14 w.heap.size 22 (u8s l)) := RA13.out.below hb14 RA13.out.lt; have RD14 : Hid (Row w14 w8.heap.size 25 (u8s A)) := RD13.out.below hb14 RD13.out.lt; have B14 : Hid (Below w.heap.size w w14) := B13.out.trans (hb14.mono B13.out.size); clear hb14 B13 RA13 RD13)
      | (refine ld25 _ rfl rfl w8.heap.size 0 rfl A hA.1 RD14.out.part ?_)
      | (go_at_call 13; refine (C13B.out _).mono ?_; rintro e w15 ⟨rfl, hb15⟩; have B15 : Hid (Below w.heap.size w w15) := B14.out.trans (hb15.mono B14.out.size); clear hb15 B14 ))
    go_ret
    exact ⟨rfl, B15.out⟩
  · have qz := eq25 zeros zeros rfl rfl
    rw [beq_self_eq_true] at qz
    go_wp2_with (first
      | (go_at_call 14; refine (C14.out _ (HV.out.grow B13.out)).mono ?_; rintro e w14 ⟨rfl, hb14⟩; have RA14 : Hid (Row w14 w.heap.size 22 (u8s l)) := RA13.out.below hb14 RA13.out.lt; have RD14 : Hid (Row w14 w8.heap.size 25 (u8s zeros)) := RD13.out.below hb14 RD13.out.lt; have B14 : Hid (Below w.heap.size w w14) := B13.out.trans (hb14.mono B13.out.size); clear hb14 B13 RA13 RD13)
      | (refine ld25 _ rfl rfl w8.heap.size 0 rfl zeros rfl RD14.out.part ?_)
      | (refine ld22 _ rfl rfl w.heap.size 0 rfl l ha.1 RA14.out.part ?_)
      | (go_at_call 13; refine (C13.out _).mono ?_; rintro e w15 ⟨rfl, hb15⟩; have B15 : Hid (Below w.heap.size w w15) := B14.out.trans (hb15.mono B14.out.size); clear hb15 B14 ))
    go_ret
    exact ⟨rfl, B15.out⟩
end Go.Proofs.YtoijfnkbjdekoaaDoor
