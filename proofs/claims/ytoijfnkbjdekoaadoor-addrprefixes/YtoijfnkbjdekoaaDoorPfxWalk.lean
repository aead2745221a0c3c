/- AddrPrefixes: its walk. -/
import Derived.Test.YtoijfnkbjdekoaaDoorLst
namespace Go.Proofs.YtoijfnkbjdekoaaDoor
open Go.ChangeShapes Go.WideShapes Go.ChangeAt Go.RowKit
set_option linter.unusedVariables false
set_option linter.unusedSimpArgs false

theorem step_st42 {ops : Array Oper} {o : Oper} {a : Act} {w : World} {K : Act → World → Prop} {Q : Exit → Act → World → Prop} {E : Prop} (hgd : o.guard = none) (x y : Operand) (ho : o.op = .store 42 x y)
    (g : Nat) (l : List Int) (n : Int) (hl : l.length = 16) (hx : a.eval x = .pointer (some ⟨g, 0, none⟩)) (hy : a.eval y = .agg (pfx l n)) (t : TypeId) (old : Array Value) (hold : old.size = 17) (hg : Row w g t old)
    (h : K (a.put o.dst undef) (w.setRow g (pfx l n))) : if Region.wanted o (yielded ops a.tmps) = true then Oper.wp Tryd.prog o a w K Q else E := by
  rw [if_pos (by simp [Region.wanted, hgd])]
  exact wp_store_row 42 x y ho g (pfx l n) hx hy t old hg (by rw [pfx_size, hl]; exact size42) (by rw [pfx_size, hl, hold]) (pfx_one l n) h
theorem bd39 {ops : Array Oper} {rest : List Oper} {o : Oper} {a : Act} {w : World} {Q : Exit → Act → World → Prop} (x y : Operand) (ho : o.op = .build 39 #[(0, x), (1, y)]) (hw : Region.wanted o (yielded ops a.tmps) = true)
    (l : List Int) (n : Int) (hl : l.length = 16) (hx : a.eval x = .agg (u8s l)) (hy : a.eval y = .int .i64 n)
    (h : wpList Tryd.prog ops Q rest (a.put o.dst (.agg (pfx l n))) w) : wpList Tryd.prog ops Q (o :: rest) a w :=
  wpList_step fun K hK => by
    rw [if_pos hw]
    have hf : Tryd.prog.built 39 ((#[(0, x), (1, y)] : Array (Nat × Operand)).map fun (i, x) => (i, a.eval x)).toList = some (pfx l n) := by
      simp only [List.map_toArray, List.map_cons, List.map_nil, hx, hy]; exact built39 l n hl
    unfold Oper.wp execOp
    simp only [ho, Sem.run_bind, run_build w 39 _ (pfx l n) hf, Result.andThen_ok]
    exact hK _ _ h
theorem adr_cutN {n : Int} {l : List Int} (h : Adr l) : Adr (cutA n l) := adr_cutA h

set_option maxRecDepth 1000000 in
set_option maxHeartbeats 6400000 in
theorem prefixes_walk (l : List Int) (a : Option Addr) (len cap : Nat) (z : List (List Int × Int)) (n : Int) (w : World) (ha : Adr l) (hz : PfxsAt w a len cap z) (hn : (Lit.int .i64 n).wf = true) (hV : Vars w) :
    Calls Tryd.prog 6 #[.agg (u8s l), .slice a len cap, .int .i64 n] w fun e w' => e = .returned (.bool true) ∧ Below w.heap.size w w' := by
  have hzp := zpfx
  clear hn
  have HV : Hid (Vars w) := hV
  clear hV
  have HZ0 : Hid (PfxsAt (w.alloc (.cells (u8s l) 22)) a len cap z) := hz.below (below_new w _)
  have HZL : Hid (z.length = len) := hz.1
  have HZA : Hid (∀ x ∈ z, Adr x.1 ∧ (Lit.int .i64 x.2).wf = true) := hz.2.2.2.1
  have hcm : cap ≤ 2 ^ 63 - 1 := hz.2.2.1
  have hlc : len ≤ cap := hz.2.1
  clear hz
  have RA0 : Hid (Row (w.alloc (.cells (u8s l) 22)) w.heap.size 22 (u8s l)) := Row.new w 22 _
  have B0 : Hid (Below w.heap.size w (w.alloc (.cells (u8s l) 22))) := below_new w _
  have CP : Hid (∀ w' : World, PfxsAt w' a len cap z → Calls Tryd.prog 23 #[.slice a len cap] w' fun e w'' => ∃ ao co, e = .returned (.slice ao (min len 20) co) ∧ PfxsAt w'' ao (min len 20) co (z.take 20) ∧ Below w'.heap.size w' w'') := fun w' h => prefixes_any a len cap z w' h
  go_enter Tryd.func6, Tryd.ntmps6
  go_wp2_with fail
  refine (CP.out _ HZ0.out).mono ?_
  rintro e w1 ⟨ao, co, rfl, hP1, hb1⟩
  simp only []
  have HIN : Hid (PfxsAt w1 a len cap z) := HZ0.out.below hb1
  have HOUT : Hid (PfxsAt w1 ao (min len 20) co (z.take 20)) := hP1
  have RA1 : Hid (Row w1 w.heap.size 22 (u8s l)) := RA0.out.below hb1 RA0.out.lt
  have B1 : Hid (Below w.heap.size w w1) := B0.out.trans (hb1.mono B0.out.size)
  clear hP1 hb1 RA0 B0 HZ0 CP
  obtain ⟨m, hm⟩ : ∃ m, min len 20 = m := ⟨_, rfl⟩
  have m1 : m ≤ len := by omega
  have m2 : m ≤ 20 := by omega
  rw [hm] at HOUT ⊢
  clear hm
  have HGD : Hid (∀ k, k < m → (z.take 20).getD k ([], 0) = z.getD k ([], 0) ∧ z.getD k ([], 0) ∈ z) := by
    intro k hk
    rw [List.getD_eq_getElem?_getD, List.getD_eq_getElem?_getD, List.getElem?_take_of_lt (by omega), List.getElem?_eq_getElem (by rw [HZL.out]; omega)]
    exact ⟨rfl, List.getElem_mem _⟩
  obtain ⟨z2, hz2⟩ : ∃ z2, z.take 20 = z2 := ⟨_, rfl⟩
  rw [hz2] at HOUT HGD
  clear hz2
  have szl : (Tryd.prog.info? 22).map (·.size) = some (cl l).length := by rw [cl_len, ha.1]; exact size22
  have hal : w.heap.size < w1.heap.size := RA1.out.lt
  have RAD : Hid (w1.rangeAt w.heap.size 0 (cl l)) := RA1.out.part.range
  go_wp2_with fail
  go_loopw [8, 9, 10] (fun vm vp i wr => ∃ (k : Nat) (pl mo : Int), k ≤ m ∧ vm = .int .i64 mo ∧ vp = .int .i64 pl ∧ i = .int .i64 k ∧ Hid (lngK l z2 k = (pl, mo)) ∧ Hid (Below w1.heap.size w1 wr))
    (fun _ _ i _ => m - (intOf i).toNat)
  case atStart => exact ⟨0, 0, -1, by omega, rfl, rfl, rfl, rfl, Below.refl _ _⟩
  case round =>
    obtain ⟨k, pl, mo, hk, rfl, rfl, rfl, HK, HB⟩ := hrel
    by_cases hlt : k < m
    · have i1 : (k : Int) < (m : Int) := by omega
      have i2 : k < len := by omega
      have i2' : (k : Int) < (len : Int) := by omega
      obtain ⟨b, off, rfl, hbl, hin⟩ := HIN.out.2.2.2.2 k i2
      obtain ⟨c, oc, rfl, hcl, hout⟩ := HOUT.out.2.2.2.2 k hlt
      obtain ⟨hg1, hg2⟩ := HGD.out k hlt
      have hAx := (HZA.out _ hg2).1
      have HN : Hid (lngK l z2 (k + 1) = if mo < (z.getD k ([], 0)).2 ∧ hasB (z.getD k ([], 0)).1 (z.getD k ([], 0)).2 l = true then ((k : Int), (z.getD k ([], 0)).2) else (pl, mo)) := by
        rw [Hid, lngK, HK.out, hg1]
      rw [hg1] at hout
      clear hg1 hg2
      obtain ⟨L, hL⟩ : ∃ L, (z.getD k ([], 0)).1 = L := ⟨_, rfl⟩
      obtain ⟨M, hM⟩ : ∃ M, (z.getD k ([], 0)).2 = M := ⟨_, rfl⟩
      rw [hL, hM] at hin hout HN
      rw [hL] at hAx
      clear hL hM
      rw [Nat.mul_comm] at hin hout
      have RIN : Hid (w1.rangeAt b (off + k * 17) (pfx L M).toList) := fun j v hv => hin j v (by simpa using hv)
      have ROUT : Hid (w1.rangeAt c (oc + k * 17) (pfx L M).toList) := fun j v hv => hout j v (by simpa using hv)
      have HCI : Hid (w1.cell? ⟨b, off + k * 17 + 16, none⟩ = some (.int .i64 M)) := bit_of hin hAx.1
      have hco : w1.cell? ⟨c, oc + k * 17 + 16, none⟩ = some (.int .i64 M) := bit_of hout hAx.1
      have hcb : wr.cell? ⟨c, oc + k * 17 + 16, none⟩ = some (.int .i64 M) := (HB.out.cell (p := ⟨c, oc + k * 17 + 16, none⟩) hcl).trans hco
      have KEEP : Hid (∀ x y : World, (Hid (Below w1.heap.size w1 x) ∧ x.cell? ⟨c, oc + k * 17 + 16, none⟩ = some (.int .i64 M)) → Below x.heap.size x y → (Hid (Below w1.heap.size w1 y) ∧ y.cell? ⟨c, oc + k * 17 + 16, none⟩ = some (.int .i64 M))) := fun x y h hxy =>
        have hb := h.1.out.trans (hxy.mono h.1.out.size)
        ⟨hb, (hb.cell (p := ⟨c, oc + k * 17 + 16, none⟩) hcl).trans hco⟩
      have KEEP0 : Hid (∀ y : World, Below w1.heap.size w1 y → (Hid (Below w1.heap.size w1 y) ∧ y.cell? ⟨c, oc + k * 17 + 16, none⟩ = some (.int .i64 M))) := fun y hb => ⟨hb, (hb.cell (p := ⟨c, oc + k * 17 + 16, none⟩) hcl).trans hco⟩
      clear hin hout hco
      have sz39 : (Tryd.prog.info? 39).map (·.size) = some (pfx L M).toList.length := by rw [Array.length_toList, pfx_size, hAx.1]; exact size39
      have sz42 : (Tryd.prog.info? 42).map (·.size) = some (pfx L M).toList.length := by rw [Array.length_toList, pfx_size, hAx.1]; exact size42
      have C24 : Hid (∀ w' : World, Calls Tryd.prog 24 #[.agg (pfx L M), .agg (u8s l)] w' fun e w'' => e = .returned (.bool (hasB L M l)) ∧ Below w'.heap.size w' w'') := fun w' => refHas_is L M l w' hAx ha
      have C26 : Hid (∀ w' : World, Calls Tryd.prog 26 #[.agg (pfx L M), .agg (u8s l)] w' fun e w'' => e = .returned (.bool (hasB L M l)) ∧ Below w'.heap.size w' w'') := fun w' => has_any L M l w' hAx ha
      have C25 : Hid (∀ w' : World, Calls Tryd.prog 25 #[.agg (pfx L M)] w' fun e w'' => e = .returned (.bool (rightB L M)) ∧ Below w'.heap.size w' w'') := fun w' => right_any L M w' hAx
      have C22 : Hid (∀ w' : World, Calls Tryd.prog 22 #[.agg (pfx L M)] w' fun e w'' => e = .returned (.bool (rightB L M)) ∧ Below w'.heap.size w' w'') := fun w' => refRight_is L M w' hAx
      have C27 : Hid (∀ w' : World, Calls Tryd.prog 27 #[.agg (u8s l), .int .i64 M] w' fun e w'' => e = .returned (.tuple #[.agg (pfx (cutA M l) (cutN M)), .int .i64 (cutE M)]) ∧ Below w'.heap.size w' w'') := fun w' => cutP_any l M w' ha
      have HCUT : Hid (hasB L M l = true → cutA M l = L ∧ cutN M = M ∧ cutE M = 0) := by
        intro h
        have h2 : bitsB M = true ∧ cutL M l = L := by simpa [hasB] using h
        simp [cutA, cutN, cutE, h2.1, h2.2]
      have hCA : Adr (cutA M l) := adr_cutA ha
      generalize rightB L M = rb at *
      generalize hasB L M l = hv at *
      generalize cutA M l = CA at *
      generalize cutN M = CN at *
      generalize cutE M = CE at *
      have hrr : (rb != rb) = false := by cases rb <;> rfl
      cases hv
      · have HN3 : Hid (lngK l z2 (k + 1) = (pl, mo)) := by rw [Hid, HN.out]; simp
        clear HN HCUT HK
        go_wp2_with fail
        refine wp_region_held_drew (S := (fun w' => Hid (Below w1.heap.size w1 w') ∧ w'.cell? ⟨c, oc + k * 17 + 16, none⟩ = some (.int .i64 M))) (by kernel_rfl) ?_ (fun hHeld => ?_)
        · exact ⟨HB.out.drew, hcb⟩
        refine wpAnyH_take (i := 0) (oi := _) (v := ?vFa0) rfl (by kernel_rfl) (by kernel_rfl) (by kernel_rfl) (fun _ _ _ h => h) (Or.inl ⟨by rfl, ?hyFa0⟩) (by assumption) ?restFa0
        case hyFa0 => (intro w hSw; (try dsimp only at hSw); go_split_ands; go_simp; try (with_reducible rfl))
        try simp only [List.getElem_toArray, List.getElem_cons_zero, List.getElem_cons_succ, Act.put, List.setIfInBounds_toArray, List.set_cons_zero, List.set_cons_succ]
        refine wpAnyH_take (i := 1) (oi := _) (v := ?vFa1) rfl (by kernel_rfl) (by kernel_rfl) (by kernel_rfl) (fun _ _ _ h => h) (Or.inl ⟨by rfl, ?hyFa1⟩) (by assumption) ?restFa1
        case hyFa1 => (intro w hSw; (try dsimp only at hSw); go_split_ands; go_simp; try (with_reducible rfl))
        try simp only [List.getElem_toArray, List.getElem_cons_zero, List.getElem_cons_succ, Act.put, List.setIfInBounds_toArray, List.set_cons_zero, List.set_cons_succ]
        refine wpAnyH_take (i := 2) (oi := _) (v := ?vFa2) rfl (by kernel_rfl) (by kernel_rfl) (by kernel_rfl) (fun _ _ _ h => h) (Or.inl ⟨by rfl, ?hyFa2⟩) (by assumption) ?restFa2
        case hyFa2 => (intro w hSw; (try dsimp only at hSw); go_split_ands; go_simp; try (with_reducible rfl))
        try simp only [List.getElem_toArray, List.getElem_cons_zero, List.getElem_cons_succ, Act.put, List.setIfInBounds_toArray, List.set_cons_zero, List.set_cons_succ]
        refine wpAnyH_take (i := 3) (oi := _) (v := .agg (pfx L M)) rfl (by kernel_rfl) (by kernel_rfl) (by kernel_rfl) (fun _ _ _ h => h) (yieldsIf_load_mid (by rfl) 39 _ rfl b (off + k * 17) rfl (pfx L M).toList _ (fun w h => range_below RIN.out h.1.out hbl) Tryd.underlying39 rfl sz39) (by assumption) ?_
        try simp only [List.getElem_toArray, List.getElem_cons_zero, List.getElem_cons_succ, Act.put, List.setIfInBounds_toArray, List.set_cons_zero, List.set_cons_succ]
        refine wpAnyH_take (i := 4) (oi := _) (v := .agg (u8s l)) rfl (by kernel_rfl) (by kernel_rfl) (by kernel_rfl) (fun _ _ _ h => h) (yieldsIf_load_mid (by rfl) 22 _ rfl w.heap.size 0 rfl (cl l) _ (fun w h => range_below RAD.out h.1.out hal) Tryd.underlying22 rfl szl) (by assumption) ?_
        try simp only [List.getElem_toArray, List.getElem_cons_zero, List.getElem_cons_succ, Act.put, List.setIfInBounds_toArray, List.set_cons_zero, List.set_cons_succ]
        refine wpAnyH_ready (rs := [5]) (by kernel_rfl) (by simp) ?_
        refine AllReadyH.cons (o := _) rfl (fun K hK => ?_) AllReadyH.nil
        go_simp
        refine (C24.out _).mono ?_; rintro e w2 ⟨rfl, hbx⟩; have sw2 := KEEP.out _ _ hHeld hbx; clear hbx hHeld
        go_wp2_with fail
        refine hK.out _ _ sw2 (fun hHeld => ?_)
        clear hK K
        try simp only [Act.put, List.setIfInBounds_toArray, List.set_cons_zero, List.set_cons_succ]
        refine wpAnyH_take (i := 6) (oi := _) (v := ?vFa6) rfl (by kernel_rfl) (by kernel_rfl) (by kernel_rfl) (fun _ _ _ h => h) (Or.inl ⟨by rfl, ?hyFa6⟩) (by assumption) ?restFa6
        case hyFa6 => (intro w hSw; (try dsimp only at hSw); go_split_ands; go_simp; try (with_reducible rfl))
        try simp only [List.getElem_toArray, List.getElem_cons_zero, List.getElem_cons_succ, Act.put, List.setIfInBounds_toArray, List.set_cons_zero, List.set_cons_succ]
        refine wpAnyH_done (by kernel_rfl) ?_ _
        go_wp2_with fail
        refine wp_region_held_drew (S := (fun w' => Hid (Below w1.heap.size w1 w') ∧ w'.cell? ⟨c, oc + k * 17 + 16, none⟩ = some (.int .i64 M))) (by kernel_rfl) ?_ (fun hHeld => ?_)
        · exact ⟨hHeld.1.out.drew, hHeld.2⟩
        refine wpAnyH_take (i := 0) (oi := _) (v := ?vFb0) rfl (by kernel_rfl) (by kernel_rfl) (by kernel_rfl) (fun _ _ _ h => h) (Or.inl ⟨by rfl, ?hyFb0⟩) (by assumption) ?restFb0
        case hyFb0 => (intro w hSw; (try dsimp only at hSw); go_split_ands; go_simp; try (with_reducible rfl))
        try simp only [List.getElem_toArray, List.getElem_cons_zero, List.getElem_cons_succ, Act.put, List.setIfInBounds_toArray, List.set_cons_zero, List.set_cons_succ]
        refine wpAnyH_take (i := 1) (oi := _) (v := ?vFb1) rfl (by kernel_rfl) (by kernel_rfl) (by kernel_rfl) (fun _ _ _ h => h) (Or.inl ⟨by rfl, ?hyFb1⟩) (by assumption) ?restFb1
        case hyFb1 => (intro w hSw; (try dsimp only at hSw); go_split_ands; go_simp; try (with_reducible rfl))
        try simp only [List.getElem_toArray, List.getElem_cons_zero, List.getElem_cons_succ, Act.put, List.setIfInBounds_toArray, List.set_cons_zero, List.set_cons_succ]
        refine wpAnyH_take (i := 2) (oi := _) (v := ?vFb2) rfl (by kernel_rfl) (by kernel_rfl) (by kernel_rfl) (fun _ _ _ h => h) (Or.inl ⟨by rfl, ?hyFb2⟩) (by assumption) ?restFb2
        case hyFb2 => (intro w hSw; (try dsimp only at hSw); go_split_ands; go_simp; try (with_reducible rfl))
        try simp only [List.getElem_toArray, List.getElem_cons_zero, List.getElem_cons_succ, Act.put, List.setIfInBounds_toArray, List.set_cons_zero, List.set_cons_succ]
        refine wpAnyH_take (i := 3) (oi := _) (v := .agg (pfx L M)) rfl (by kernel_rfl) (by kernel_rfl) (by kernel_rfl) (fun _ _ _ h => h) (yieldsIf_load_mid (by rfl) 42 _ rfl c (oc + k * 17) rfl (pfx L M).toList _ (fun w h => range_below ROUT.out h.1.out hcl) Tryd.underlying42 rfl sz42) (by assumption) ?_
        try simp only [List.getElem_toArray, List.getElem_cons_zero, List.getElem_cons_succ, Act.put, List.setIfInBounds_toArray, List.set_cons_zero, List.set_cons_succ]
        refine wpAnyH_take (i := 5) (oi := _) (v := ?vFb5) rfl (by kernel_rfl) (by kernel_rfl) (by kernel_rfl) (fun _ _ _ h => h) (Or.inl ⟨by rfl, ?hyFb5⟩) (by assumption) ?restFb5
        case hyFb5 => (intro w hSw; (try dsimp only at hSw); go_split_ands; go_simp; try (with_reducible rfl))
        try simp only [List.getElem_toArray, List.getElem_cons_zero, List.getElem_cons_succ, Act.put, List.setIfInBounds_toArray, List.set_cons_zero, List.set_cons_succ]
        refine wpAnyH_take (i := 6) (oi := _) (v := ?vFb6) rfl (by kernel_rfl) (by kernel_rfl) (by kernel_rfl) (fun _ _ _ h => h) (Or.inl ⟨by rfl, ?hyFb6⟩) (by assumption) ?restFb6
        case hyFb6 => (intro w hSw; (try dsimp only at hSw); go_split_ands; go_simp; try (with_reducible rfl))
        try simp only [List.getElem_toArray, List.getElem_cons_zero, List.getElem_cons_succ, Act.put, List.setIfInBounds_toArray, List.set_cons_zero, List.set_cons_succ]
        refine wpAnyH_take (i := 7) (oi := _) (v := ?vFb7) rfl (by kernel_rfl) (by kernel_rfl) (by kernel_rfl) (fun _ _ _ h => h) (Or.inl ⟨by rfl, ?hyFb7⟩) (by assumption) ?restFb7
        case hyFb7 => (intro w hSw; (try dsimp only at hSw); go_split_ands; go_simp; try (with_reducible rfl))
        try simp only [List.getElem_toArray, List.getElem_cons_zero, List.getElem_cons_succ, Act.put, List.setIfInBounds_toArray, List.set_cons_zero, List.set_cons_succ]
        refine wpAnyH_take (i := 8) (oi := _) (v := .agg (pfx L M)) rfl (by kernel_rfl) (by kernel_rfl) (by kernel_rfl) (fun _ _ _ h => h) (yieldsIf_load_mid (by rfl) 39 _ rfl b (off + k * 17) rfl (pfx L M).toList _ (fun w h => range_below RIN.out h.1.out hbl) Tryd.underlying39 rfl sz39) (by assumption) ?_
        try simp only [List.getElem_toArray, List.getElem_cons_zero, List.getElem_cons_succ, Act.put, List.setIfInBounds_toArray, List.set_cons_zero, List.set_cons_succ]
        refine wpAnyH_ready (rs := [4]) (by kernel_rfl) (by simp) ?_
        refine AllReadyH.cons (o := _) rfl (fun K hK => ?_) AllReadyH.nil
        go_simp
        refine (C25.out _).mono ?_; rintro e w3 ⟨rfl, hbx⟩; have sw3 := KEEP.out _ _ hHeld hbx; clear hbx hHeld
        go_wp2_with fail
        refine hK.out _ _ sw3 (fun hHeld => ?_)
        clear hK K
        try simp only [Act.put, List.setIfInBounds_toArray, List.set_cons_zero, List.set_cons_succ]
        refine wpAnyH_ready (rs := [9]) (by kernel_rfl) (by simp) ?_
        refine AllReadyH.cons (o := _) rfl (fun K hK => ?_) AllReadyH.nil
        go_simp
        refine (C22.out _).mono ?_; rintro e w4 ⟨rfl, hbx⟩; have sw4 := KEEP.out _ _ hHeld hbx; clear hbx hHeld
        go_wp2_with fail
        refine hK.out _ _ sw4 (fun hHeld => ?_)
        clear hK K
        try simp only [Act.put, List.setIfInBounds_toArray, List.set_cons_zero, List.set_cons_succ]
        refine wpAnyH_take (i := 10) (oi := _) (v := ?vFb10) rfl (by kernel_rfl) (by kernel_rfl) (by kernel_rfl) (fun _ _ _ h => h) (Or.inl ⟨by rfl, ?hyFb10⟩) (by assumption) ?restFb10
        case hyFb10 => (intro w hSw; (try dsimp only at hSw); go_split_ands; go_simp; try (with_reducible rfl))
        try simp only [List.getElem_toArray, List.getElem_cons_zero, List.getElem_cons_succ, Act.put, List.setIfInBounds_toArray, List.set_cons_zero, List.set_cons_succ]
        refine wpAnyH_take (i := 11) (oi := _) (v := ?vFb11) rfl (by kernel_rfl) (by kernel_rfl) (by kernel_rfl) (fun _ _ _ h => h) (Or.inl ⟨by rfl, ?hyFb11⟩) (by assumption) ?restFb11
        case hyFb11 => (intro w hSw; (try dsimp only at hSw); go_split_ands; go_simp; try (with_reducible rfl))
        try simp only [List.getElem_toArray, List.getElem_cons_zero, List.getElem_cons_succ, Act.put, List.setIfInBounds_toArray, List.set_cons_zero, List.set_cons_succ]
        refine wpAnyH_take (i := 12) (oi := _) (v := ?vFb12) rfl (by kernel_rfl) (by kernel_rfl) (by kernel_rfl) (fun _ _ _ h => h) (Or.inl ⟨by rfl, ?hyFb12⟩) (by assumption) ?restFb12
        case hyFb12 => (intro w hSw; (try dsimp only at hSw); go_split_ands; go_simp; try (with_reducible rfl))
        try simp only [List.getElem_toArray, List.getElem_cons_zero, List.getElem_cons_succ, Act.put, List.setIfInBounds_toArray, List.set_cons_zero, List.set_cons_succ]
        refine wpAnyH_take (i := 13) (oi := _) (v := ?vFb13) rfl (by kernel_rfl) (by kernel_rfl) (by kernel_rfl) (fun _ _ _ h => h) (Or.inl ⟨by rfl, ?hyFb13⟩) (by assumption) ?restFb13
        case hyFb13 => (intro w hSw; (try dsimp only at hSw); go_split_ands; go_simp; try (with_reducible rfl))
        try simp only [List.getElem_toArray, List.getElem_cons_zero, List.getElem_cons_succ, Act.put, List.setIfInBounds_toArray, List.set_cons_zero, List.set_cons_succ]
        refine wpAnyH_take (i := 14) (oi := _) (v := ?vFb14) rfl (by kernel_rfl) (by kernel_rfl) (by kernel_rfl) (fun _ _ _ h => h) (Or.inl ⟨by rfl, ?hyFb14⟩) (by assumption) ?restFb14
        case hyFb14 => (intro w hSw; (try dsimp only at hSw); go_split_ands; go_simp; try (with_reducible rfl))
        try simp only [List.getElem_toArray, List.getElem_cons_zero, List.getElem_cons_succ, Act.put, List.setIfInBounds_toArray, List.set_cons_zero, List.set_cons_succ]
        refine wpAnyH_take (i := 15) (oi := _) (v := .agg (pfx L M)) rfl (by kernel_rfl) (by kernel_rfl) (by kernel_rfl) (fun _ _ _ h => h) (yieldsIf_load_mid (by rfl) 42 _ rfl c (oc + k * 17) rfl (pfx L M).toList _ (fun w h => range_below ROUT.out h.1.out hcl) Tryd.underlying42 rfl sz42) (by assumption) ?_
        try simp only [List.getElem_toArray, List.getElem_cons_zero, List.getElem_cons_succ, Act.put, List.setIfInBounds_toArray, List.set_cons_zero, List.set_cons_succ]
        refine wpAnyH_take (i := 16) (oi := _) (v := .agg (u8s l)) rfl (by kernel_rfl) (by kernel_rfl) (by kernel_rfl) (fun _ _ _ h => h) (yieldsIf_load_mid (by rfl) 22 _ rfl w.heap.size 0 rfl (cl l) _ (fun w h => range_below RAD.out h.1.out hal) Tryd.underlying22 rfl szl) (by assumption) ?_
        try simp only [List.getElem_toArray, List.getElem_cons_zero, List.getElem_cons_succ, Act.put, List.setIfInBounds_toArray, List.set_cons_zero, List.set_cons_succ]
        refine wpAnyH_take (i := 18) (oi := _) (v := ?vFb18) rfl (by kernel_rfl) (by kernel_rfl) (by kernel_rfl) (fun _ _ _ h => h) (Or.inl ⟨by rfl, ?hyFb18⟩) (by assumption) ?restFb18
        case hyFb18 => (intro w hSw; (try dsimp only at hSw); go_split_ands; go_simp; try (with_reducible rfl))
        try simp only [List.getElem_toArray, List.getElem_cons_zero, List.getElem_cons_succ, Act.put, List.setIfInBounds_toArray, List.set_cons_zero, List.set_cons_succ]
        refine wpAnyH_ready (rs := [17]) (by kernel_rfl) (by simp) ?_
        refine AllReadyH.cons (o := _) rfl (fun K hK => ?_) AllReadyH.nil
        go_simp
        refine (C26.out _).mono ?_; rintro e w5 ⟨rfl, hbx⟩; have sw5 := KEEP.out _ _ hHeld hbx; clear hbx hHeld
        go_wp2_with fail
        refine hK.out _ _ sw5 (fun hHeld => ?_)
        clear hK K
        try simp only [Act.put, List.setIfInBounds_toArray, List.set_cons_zero, List.set_cons_succ]
        refine wpAnyH_take (i := 19) (oi := _) (v := ?vFb19) rfl (by kernel_rfl) (by kernel_rfl) (by kernel_rfl) (fun _ _ _ h => h) (Or.inl ⟨by rfl, ?hyFb19⟩) (by assumption) ?restFb19
        case hyFb19 => (intro w hSw; (try dsimp only at hSw); go_split_ands; go_simp; try (with_reducible rfl))
        try simp only [List.getElem_toArray, List.getElem_cons_zero, List.getElem_cons_succ, Act.put, List.setIfInBounds_toArray, List.set_cons_zero, List.set_cons_succ]
        refine wpAnyH_take (i := 20) (oi := _) (v := ?vFb20) rfl (by kernel_rfl) (by kernel_rfl) (by kernel_rfl) (fun _ _ _ h => h) (Or.inl ⟨by rfl, ?hyFb20⟩) (by assumption) ?restFb20
        case hyFb20 => (intro w hSw; (try dsimp only at hSw); go_split_ands; go_simp; try (with_reducible rfl))
        try simp only [List.getElem_toArray, List.getElem_cons_zero, List.getElem_cons_succ, Act.put, List.setIfInBounds_toArray, List.set_cons_zero, List.set_cons_succ]
        refine wpAnyH_done (by kernel_rfl) ?_ _
        go_wp2_with fail
        refine wp_region_held_drew (S := (fun w' => Hid (Below w1.heap.size w1 w') ∧ w'.cell? ⟨c, oc + k * 17 + 16, none⟩ = some (.int .i64 M))) (by kernel_rfl) ?_ (fun hHeld => ?_)
        · exact ⟨hHeld.1.out.drew, hHeld.2⟩
        refine wpAnyH_take (i := 0) (oi := _) (v := .agg (u8s l)) rfl (by kernel_rfl) (by kernel_rfl) (by kernel_rfl) (fun _ _ _ h => h) (yieldsIf_load_mid (by rfl) 22 _ rfl w.heap.size 0 rfl (cl l) _ (fun w h => range_below RAD.out h.1.out hal) Tryd.underlying22 rfl szl) (by assumption) ?_
        try simp only [List.getElem_toArray, List.getElem_cons_zero, List.getElem_cons_succ, Act.put, List.setIfInBounds_toArray, List.set_cons_zero, List.set_cons_succ]
        refine wpAnyH_take (i := 1) (oi := _) (v := ?vFc1) rfl (by kernel_rfl) (by kernel_rfl) (by kernel_rfl) (fun _ _ _ h => h) (Or.inl ⟨by rfl, ?hyFc1⟩) (by assumption) ?restFc1
        case hyFc1 => (intro w hSw; (try dsimp only at hSw); go_split_ands; go_simp; try (with_reducible rfl))
        try simp only [List.getElem_toArray, List.getElem_cons_zero, List.getElem_cons_succ, Act.put, List.setIfInBounds_toArray, List.set_cons_zero, List.set_cons_succ]
        refine wpAnyH_take (i := 2) (oi := _) (v := ?vFc2) rfl (by kernel_rfl) (by kernel_rfl) (by kernel_rfl) (fun _ _ _ h => h) (Or.inl ⟨by rfl, ?hyFc2⟩) (by assumption) ?restFc2
        case hyFc2 => (intro w hSw; (try dsimp only at hSw); go_split_ands; go_simp; try (with_reducible rfl))
        try simp only [List.getElem_toArray, List.getElem_cons_zero, List.getElem_cons_succ, Act.put, List.setIfInBounds_toArray, List.set_cons_zero, List.set_cons_succ]
        refine wpAnyH_take (i := 3) (oi := _) (v := ?vFc3) rfl (by kernel_rfl) (by kernel_rfl) (by kernel_rfl) (fun _ _ _ h => h) (Or.inl ⟨by rfl, ?hyFc3⟩) (by assumption) ?restFc3
        case hyFc3 => (intro w hSw; (try dsimp only at hSw); go_split_ands; go_simp; try (with_reducible rfl))
        try simp only [List.getElem_toArray, List.getElem_cons_zero, List.getElem_cons_succ, Act.put, List.setIfInBounds_toArray, List.set_cons_zero, List.set_cons_succ]
        refine wpAnyH_take (i := 4) (oi := _) (v := ?vFc4) rfl (by kernel_rfl) (by kernel_rfl) (by kernel_rfl) (fun _ _ _ h => h) (Or.inl ⟨by rfl, ?hyFc4⟩) (by assumption) ?restFc4
        case hyFc4 => (intro w hSw; (try dsimp only at hSw); go_split_ands; go_simp; try (with_reducible rfl))
        try simp only [List.getElem_toArray, List.getElem_cons_zero, List.getElem_cons_succ, Act.put, List.setIfInBounds_toArray, List.set_cons_zero, List.set_cons_succ]
        refine wpAnyH_take (i := 5) (oi := _) (v := ?vFc5) rfl (by kernel_rfl) (by kernel_rfl) (by kernel_rfl) (fun _ _ _ h => h) (Or.inl ⟨by rfl, ?hyFc5⟩) (by assumption) ?restFc5
        case hyFc5 => (intro w hSw; (try dsimp only at hSw); go_split_ands; go_simp; try (with_reducible rfl))
        try simp only [List.getElem_toArray, List.getElem_cons_zero, List.getElem_cons_succ, Act.put, List.setIfInBounds_toArray, List.set_cons_zero, List.set_cons_succ]
        refine wpAnyH_ready (rs := [6, 10]) (by kernel_rfl) (by simp) ?_
        refine AllReadyH.cons (o := _) rfl (fun K hK => ?_) (AllReadyH.cons (o := _) rfl (fun K hK => ?_) AllReadyH.nil)
        · go_simp
          refine (C27.out _).mono ?_; rintro e w6 ⟨rfl, hbx⟩; have sw6 := KEEP.out _ _ hHeld hbx; clear hbx hHeld
          go_wp2_with fail
          refine hK.out _ _ sw6 (fun hHeld => ?_)
          clear hK K
          try simp only [List.getElem_toArray, List.getElem_cons_zero, List.getElem_cons_succ, Act.put, List.setIfInBounds_toArray, List.set_cons_zero, List.set_cons_succ]
          refine wpAnyH_take (i := 7) (oi := _) (v := ?vFe7) rfl (by kernel_rfl) (by kernel_rfl) (by kernel_rfl) (fun _ _ _ h => h) (Or.inl ⟨by rfl, ?hyFe7⟩) (by assumption) ?restFe7
          case hyFe7 => (intro w hSw; (try dsimp only at hSw); go_split_ands; go_simp; try (with_reducible rfl))
          try simp only [List.getElem_toArray, List.getElem_cons_zero, List.getElem_cons_succ, Act.put, List.setIfInBounds_toArray, List.set_cons_zero, List.set_cons_succ]
          refine wpAnyH_take (i := 8) (oi := _) (v := ?vFe8) rfl (by kernel_rfl) (by kernel_rfl) (by kernel_rfl) (fun _ _ _ h => h) (Or.inl ⟨by rfl, ?hyFe8⟩) (by assumption) ?restFe8
          case hyFe8 => (intro w hSw; (try dsimp only at hSw); go_split_ands; go_simp; try (with_reducible rfl))
          try simp only [List.getElem_toArray, List.getElem_cons_zero, List.getElem_cons_succ, Act.put, List.setIfInBounds_toArray, List.set_cons_zero, List.set_cons_succ]
          refine wpAnyH_take (i := 9) (oi := _) (v := ?vFe9) rfl (by kernel_rfl) (by kernel_rfl) (by kernel_rfl) (fun _ _ _ h => h) (Or.inl ⟨by rfl, ?hyFe9⟩) (by assumption) ?restFe9
          case hyFe9 => (intro w hSw; (try dsimp only at hSw); go_split_ands; go_simp; try (with_reducible rfl))
          try simp only [List.getElem_toArray, List.getElem_cons_zero, List.getElem_cons_succ, Act.put, List.setIfInBounds_toArray, List.set_cons_zero, List.set_cons_succ]
          refine wpAnyH_ready (rs := [10]) (by kernel_rfl) (by simp) ?_
          refine AllReadyH.cons (o := _) rfl (fun K hK => ?_) AllReadyH.nil
          go_simp
          have hBx : Hid (Below w1.heap.size w1 (w6.alloc (.cells (pfx zeros 0) 42))) := (KEEP.out _ _ hHeld (below_new w6 _)).1
          have hGe : w1.heap.size ≤ w6.heap.size := hHeld.1.out.size
          refine hK.out _ _ (KEEP0.out _ hBx.out) (fun hHeld2 => ?_)
          clear hHeld
          clear hK K
          try simp only [List.getElem_toArray, List.getElem_cons_zero, List.getElem_cons_succ, Act.put, List.setIfInBounds_toArray, List.set_cons_zero, List.set_cons_succ]
          refine wpAnyH_ready (rs := [11]) (by kernel_rfl) (by simp) ?_
          refine AllReadyH.cons (o := _) rfl (fun K hK => ?_) AllReadyH.nil
          refine step_st42 rfl _ _ rfl w6.heap.size CA CN hCA.1 rfl rfl 42 _ (by rfl) (Row.new w6 42 (pfx zeros 0)) ?_
          refine hK.out _ _ (KEEP0.out _ (below_setRow hBx.out hGe (pfx CA CN))) (fun hHeld3 => ?_)
          have RN : Hid (Row ((w6.alloc (.cells (pfx zeros 0) 42)).setRow w6.heap.size (pfx CA CN)) w6.heap.size 42 (pfx CA CN)) := ((Row.new w6 42 (pfx zeros 0))).setRow _
          clear hBx hGe
          generalize ((w6.alloc (.cells (pfx zeros 0) 42)).setRow w6.heap.size (pfx CA CN)) = w7 at *
          clear hK K
          try simp only [List.getElem_toArray, List.getElem_cons_zero, List.getElem_cons_succ, Act.put, List.setIfInBounds_toArray, List.set_cons_zero, List.set_cons_succ]
          refine wpAnyH_take (i := 12) (oi := _) (v := ?vFf12) rfl (by kernel_rfl) (by kernel_rfl) (by kernel_rfl) (fun _ _ _ h => h) (Or.inl ⟨by rfl, ?hyFf12⟩) (by assumption) ?restFf12
          case hyFf12 => (intro w hSw; (try dsimp only at hSw); go_split_ands; go_simp; try (with_reducible rfl))
          try simp only [List.getElem_toArray, List.getElem_cons_zero, List.getElem_cons_succ, Act.put, List.setIfInBounds_toArray, List.set_cons_zero, List.set_cons_succ]
          refine wpAnyH_done (by kernel_rfl) ?_ _
          go_wp2_with fail
          refine wp_region_held_drew (S := (fun w' => Hid (Below w1.heap.size w1 w'))) (by kernel_rfl) ?_ (fun hHeld => ?_)
          · exact hHeld3.1.out.drew
          refine wpAnyH_take (i := 0) (oi := _) (v := ?vFi0) rfl (by kernel_rfl) (by kernel_rfl) (by kernel_rfl) (fun _ _ _ h => h) (Or.inl ⟨by rfl, ?hyFi0⟩) (by assumption) ?restFi0
          case hyFi0 => (intro w hSw; (try dsimp only at hSw); go_split_ands; go_simp; try (with_reducible rfl))
          try simp only [List.getElem_toArray, List.getElem_cons_zero, List.getElem_cons_succ, Act.put, List.setIfInBounds_toArray, List.set_cons_zero, List.set_cons_succ]
          refine wpAnyH_take (i := 1) (oi := _) (v := ?vFi1) rfl (by kernel_rfl) (by kernel_rfl) (by kernel_rfl) (fun _ _ _ h => h) (Or.inl ⟨by rfl, ?hyFi1⟩) (by assumption) ?restFi1
          case hyFi1 => (intro w hSw; (try dsimp only at hSw); go_split_ands; go_simp; try (with_reducible rfl))
          try simp only [List.getElem_toArray, List.getElem_cons_zero, List.getElem_cons_succ, Act.put, List.setIfInBounds_toArray, List.set_cons_zero, List.set_cons_succ]
          refine wpAnyH_take (i := 2) (oi := _) (v := undef) rfl (by kernel_rfl) (by kernel_rfl) (by kernel_rfl) (fun _ _ _ h => h) (Or.inr ⟨by rfl, rfl⟩) (by assumption) ?_
          try simp only [List.getElem_toArray, List.getElem_cons_zero, List.getElem_cons_succ, Act.put, List.setIfInBounds_toArray, List.set_cons_zero, List.set_cons_succ]
          refine wpAnyH_take (i := 3) (oi := _) (v := undef) rfl (by kernel_rfl) (by kernel_rfl) (by kernel_rfl) (fun _ _ _ h => h) (Or.inr ⟨by rfl, rfl⟩) (by assumption) ?_
          try simp only [List.getElem_toArray, List.getElem_cons_zero, List.getElem_cons_succ, Act.put, List.setIfInBounds_toArray, List.set_cons_zero, List.set_cons_succ]
          refine wpAnyH_take (i := 4) (oi := _) (v := undef) rfl (by kernel_rfl) (by kernel_rfl) (by kernel_rfl) (fun _ _ _ h => h) (Or.inr ⟨by rfl, rfl⟩) (by assumption) ?_
          try simp only [List.getElem_toArray, List.getElem_cons_zero, List.getElem_cons_succ, Act.put, List.setIfInBounds_toArray, List.set_cons_zero, List.set_cons_succ]
          refine wpAnyH_take (i := 5) (oi := _) (v := undef) rfl (by kernel_rfl) (by kernel_rfl) (by kernel_rfl) (fun _ _ _ h => h) (Or.inr ⟨by rfl, rfl⟩) (by assumption) ?_
          try simp only [List.getElem_toArray, List.getElem_cons_zero, List.getElem_cons_succ, Act.put, List.setIfInBounds_toArray, List.set_cons_zero, List.set_cons_succ]
          refine wpAnyH_take (i := 6) (oi := _) (v := undef) rfl (by kernel_rfl) (by kernel_rfl) (by kernel_rfl) (fun _ _ _ h => h) (Or.inr ⟨by rfl, rfl⟩) (by assumption) ?_
          try simp only [List.getElem_toArray, List.getElem_cons_zero, List.getElem_cons_succ, Act.put, List.setIfInBounds_toArray, List.set_cons_zero, List.set_cons_succ]
          refine wpAnyH_take (i := 7) (oi := _) (v := undef) rfl (by kernel_rfl) (by kernel_rfl) (by kernel_rfl) (fun _ _ _ h => h) (Or.inr ⟨by rfl, rfl⟩) (by assumption) ?_
          try simp only [List.getElem_toArray, List.getElem_cons_zero, List.getElem_cons_succ, Act.put, List.setIfInBounds_toArray, List.set_cons_zero, List.set_cons_succ]
          refine wpAnyH_take (i := 8) (oi := _) (v := undef) rfl (by kernel_rfl) (by kernel_rfl) (by kernel_rfl) (fun _ _ _ h => h) (Or.inr ⟨by rfl, rfl⟩) (by assumption) ?_
          try simp only [List.getElem_toArray, List.getElem_cons_zero, List.getElem_cons_succ, Act.put, List.setIfInBounds_toArray, List.set_cons_zero, List.set_cons_succ]
          refine wpAnyH_take (i := 9) (oi := _) (v := undef) rfl (by kernel_rfl) (by kernel_rfl) (by kernel_rfl) (fun _ _ _ h => h) (Or.inr ⟨by rfl, rfl⟩) (by assumption) ?_
          try simp only [List.getElem_toArray, List.getElem_cons_zero, List.getElem_cons_succ, Act.put, List.setIfInBounds_toArray, List.set_cons_zero, List.set_cons_succ]
          refine wpAnyH_take (i := 10) (oi := _) (v := undef) rfl (by kernel_rfl) (by kernel_rfl) (by kernel_rfl) (fun _ _ _ h => h) (Or.inr ⟨by rfl, rfl⟩) (by assumption) ?_
          try simp only [List.getElem_toArray, List.getElem_cons_zero, List.getElem_cons_succ, Act.put, List.setIfInBounds_toArray, List.set_cons_zero, List.set_cons_succ]
          refine wpAnyH_take (i := 11) (oi := _) (v := undef) rfl (by kernel_rfl) (by kernel_rfl) (by kernel_rfl) (fun _ _ _ h => h) (Or.inr ⟨by rfl, rfl⟩) (by assumption) ?_
          try simp only [List.getElem_toArray, List.getElem_cons_zero, List.getElem_cons_succ, Act.put, List.setIfInBounds_toArray, List.set_cons_zero, List.set_cons_succ]
          refine wpAnyH_take (i := 12) (oi := _) (v := ?vFi12) rfl (by kernel_rfl) (by kernel_rfl) (by kernel_rfl) (fun _ _ _ h => h) (Or.inl ⟨by rfl, ?hyFi12⟩) (by assumption) ?restFi12
          case hyFi12 => (intro w hSw; (try dsimp only at hSw); go_split_ands; go_simp; try (with_reducible rfl))
          try simp only [List.getElem_toArray, List.getElem_cons_zero, List.getElem_cons_succ, Act.put, List.setIfInBounds_toArray, List.set_cons_zero, List.set_cons_succ]
          refine wpAnyH_done (by kernel_rfl) ?_ _
          go_wp2_with fail
          go_roundw
          case rel => exact ⟨k + 1, pl, mo, by omega, rfl, rfl, by go_num, HN3, hHeld⟩
          case measure => simp [intOf]; omega
        · go_simp
          have hGe : w1.heap.size ≤ w5.heap.size := hHeld.1.out.size
          have RN0 : Hid (Row (w5.drew.alloc (.cells (pfx zeros 0) 42)) w5.heap.size 42 (pfx zeros 0)) := Row.new w5.drew 42 _
          refine hK.out _ _ (KEEP.out _ _ hHeld (below_new w5.drew _)) (fun hHeld2 => ?_)
          clear hK K hHeld
          have hHeld := hHeld2
          clear hHeld2
          try simp only [List.getElem_toArray, List.getElem_cons_zero, List.getElem_cons_succ, Act.put, List.setIfInBounds_toArray, List.set_cons_zero, List.set_cons_succ]
          refine wpAnyH_ready (rs := [6]) (by kernel_rfl) (by simp) ?_
          refine AllReadyH.cons (o := _) rfl (fun K hK => ?_) AllReadyH.nil
          go_simp
          refine (C27.out _).mono ?_; rintro e w6 ⟨rfl, hbx⟩; have sw6 := KEEP.out _ _ hHeld hbx; have RN1 : Hid (Row w6 w5.heap.size 42 (pfx zeros 0)) := RN0.out.below hbx RN0.out.lt; clear hbx hHeld RN0
          go_wp2_with fail
          refine hK.out _ _ sw6 (fun hHeld => ?_)
          have hBx : Hid (Below w1.heap.size w1 w6) := hHeld.1
          clear hK K
          try simp only [List.getElem_toArray, List.getElem_cons_zero, List.getElem_cons_succ, Act.put, List.setIfInBounds_toArray, List.set_cons_zero, List.set_cons_succ]
          refine wpAnyH_take (i := 7) (oi := _) (v := ?vFg7) rfl (by kernel_rfl) (by kernel_rfl) (by kernel_rfl) (fun _ _ _ h => h) (Or.inl ⟨by rfl, ?hyFg7⟩) (by assumption) ?restFg7
          case hyFg7 => (intro w hSw; (try dsimp only at hSw); go_split_ands; go_simp; try (with_reducible rfl))
          try simp only [List.getElem_toArray, List.getElem_cons_zero, List.getElem_cons_succ, Act.put, List.setIfInBounds_toArray, List.set_cons_zero, List.set_cons_succ]
          refine wpAnyH_take (i := 8) (oi := _) (v := ?vFg8) rfl (by kernel_rfl) (by kernel_rfl) (by kernel_rfl) (fun _ _ _ h => h) (Or.inl ⟨by rfl, ?hyFg8⟩) (by assumption) ?restFg8
          case hyFg8 => (intro w hSw; (try dsimp only at hSw); go_split_ands; go_simp; try (with_reducible rfl))
          try simp only [List.getElem_toArray, List.getElem_cons_zero, List.getElem_cons_succ, Act.put, List.setIfInBounds_toArray, List.set_cons_zero, List.set_cons_succ]
          refine wpAnyH_take (i := 9) (oi := _) (v := ?vFg9) rfl (by kernel_rfl) (by kernel_rfl) (by kernel_rfl) (fun _ _ _ h => h) (Or.inl ⟨by rfl, ?hyFg9⟩) (by assumption) ?restFg9
          case hyFg9 => (intro w hSw; (try dsimp only at hSw); go_split_ands; go_simp; try (with_reducible rfl))
          try simp only [List.getElem_toArray, List.getElem_cons_zero, List.getElem_cons_succ, Act.put, List.setIfInBounds_toArray, List.set_cons_zero, List.set_cons_succ]
          refine wpAnyH_ready (rs := [11]) (by kernel_rfl) (by simp) ?_
          refine AllReadyH.cons (o := _) rfl (fun K hK => ?_) AllReadyH.nil
          refine step_st42 rfl _ _ rfl w5.heap.size CA CN hCA.1 rfl rfl 42 _ (by rfl) RN1.out ?_
          refine hK.out _ _ (KEEP0.out _ (below_setRow hBx.out hGe (pfx CA CN))) (fun hHeld3 => ?_)
          have RN : Hid (Row (w6.setRow w5.heap.size (pfx CA CN)) w5.heap.size 42 (pfx CA CN)) := (RN1.out).setRow _
          clear hBx hGe
          generalize (w6.setRow w5.heap.size (pfx CA CN)) = w7 at *
          clear hK K
          try simp only [List.getElem_toArray, List.getElem_cons_zero, List.getElem_cons_succ, Act.put, List.setIfInBounds_toArray, List.set_cons_zero, List.set_cons_succ]
          refine wpAnyH_take (i := 12) (oi := _) (v := ?vFh12) rfl (by kernel_rfl) (by kernel_rfl) (by kernel_rfl) (fun _ _ _ h => h) (Or.inl ⟨by rfl, ?hyFh12⟩) (by assumption) ?restFh12
          case hyFh12 => (intro w hSw; (try dsimp only at hSw); go_split_ands; go_simp; try (with_reducible rfl))
          try simp only [List.getElem_toArray, List.getElem_cons_zero, List.getElem_cons_succ, Act.put, List.setIfInBounds_toArray, List.set_cons_zero, List.set_cons_succ]
          refine wpAnyH_done (by kernel_rfl) ?_ _
          go_wp2_with fail
          refine wp_region_held_drew (S := (fun w' => Hid (Below w1.heap.size w1 w'))) (by kernel_rfl) ?_ (fun hHeld => ?_)
          · exact hHeld3.1.out.drew
          refine wpAnyH_take (i := 0) (oi := _) (v := ?vFj0) rfl (by kernel_rfl) (by kernel_rfl) (by kernel_rfl) (fun _ _ _ h => h) (Or.inl ⟨by rfl, ?hyFj0⟩) (by assumption) ?restFj0
          case hyFj0 => (intro w hSw; (try dsimp only at hSw); go_split_ands; go_simp; try (with_reducible rfl))
          try simp only [List.getElem_toArray, List.getElem_cons_zero, List.getElem_cons_succ, Act.put, List.setIfInBounds_toArray, List.set_cons_zero, List.set_cons_succ]
          refine wpAnyH_take (i := 1) (oi := _) (v := ?vFj1) rfl (by kernel_rfl) (by kernel_rfl) (by kernel_rfl) (fun _ _ _ h => h) (Or.inl ⟨by rfl, ?hyFj1⟩) (by assumption) ?restFj1
          case hyFj1 => (intro w hSw; (try dsimp only at hSw); go_split_ands; go_simp; try (with_reducible rfl))
          try simp only [List.getElem_toArray, List.getElem_cons_zero, List.getElem_cons_succ, Act.put, List.setIfInBounds_toArray, List.set_cons_zero, List.set_cons_succ]
          refine wpAnyH_take (i := 2) (oi := _) (v := undef) rfl (by kernel_rfl) (by kernel_rfl) (by kernel_rfl) (fun _ _ _ h => h) (Or.inr ⟨by rfl, rfl⟩) (by assumption) ?_
          try simp only [List.getElem_toArray, List.getElem_cons_zero, List.getElem_cons_succ, Act.put, List.setIfInBounds_toArray, List.set_cons_zero, List.set_cons_succ]
          refine wpAnyH_take (i := 3) (oi := _) (v := undef) rfl (by kernel_rfl) (by kernel_rfl) (by kernel_rfl) (fun _ _ _ h => h) (Or.inr ⟨by rfl, rfl⟩) (by assumption) ?_
          try simp only [List.getElem_toArray, List.getElem_cons_zero, List.getElem_cons_succ, Act.put, List.setIfInBounds_toArray, List.set_cons_zero, List.set_cons_succ]
          refine wpAnyH_take (i := 4) (oi := _) (v := undef) rfl (by kernel_rfl) (by kernel_rfl) (by kernel_rfl) (fun _ _ _ h => h) (Or.inr ⟨by rfl, rfl⟩) (by assumption) ?_
          try simp only [List.getElem_toArray, List.getElem_cons_zero, List.getElem_cons_succ, Act.put, List.setIfInBounds_toArray, List.set_cons_zero, List.set_cons_succ]
          refine wpAnyH_take (i := 5) (oi := _) (v := undef) rfl (by kernel_rfl) (by kernel_rfl) (by kernel_rfl) (fun _ _ _ h => h) (Or.inr ⟨by rfl, rfl⟩) (by assumption) ?_
          try simp only [List.getElem_toArray, List.getElem_cons_zero, List.getElem_cons_succ, Act.put, List.setIfInBounds_toArray, List.set_cons_zero, List.set_cons_succ]
          refine wpAnyH_take (i := 6) (oi := _) (v := undef) rfl (by kernel_rfl) (by kernel_rfl) (by kernel_rfl) (fun _ _ _ h => h) (Or.inr ⟨by rfl, rfl⟩) (by assumption) ?_
          try simp only [List.getElem_toArray, List.getElem_cons_zero, List.getElem_cons_succ, Act.put, List.setIfInBounds_toArray, List.set_cons_zero, List.set_cons_succ]
          refine wpAnyH_take (i := 7) (oi := _) (v := undef) rfl (by kernel_rfl) (by kernel_rfl) (by kernel_rfl) (fun _ _ _ h => h) (Or.inr ⟨by rfl, rfl⟩) (by assumption) ?_
          try simp only [List.getElem_toArray, List.getElem_cons_zero, List.getElem_cons_succ, Act.put, List.setIfInBounds_toArray, List.set_cons_zero, List.set_cons_succ]
          refine wpAnyH_take (i := 8) (oi := _) (v := undef) rfl (by kernel_rfl) (by kernel_rfl) (by kernel_rfl) (fun _ _ _ h => h) (Or.inr ⟨by rfl, rfl⟩) (by assumption) ?_
          try simp only [List.getElem_toArray, List.getElem_cons_zero, List.getElem_cons_succ, Act.put, List.setIfInBounds_toArray, List.set_cons_zero, List.set_cons_succ]
          refine wpAnyH_take (i := 9) (oi := _) (v := undef) rfl (by kernel_rfl) (by kernel_rfl) (by kernel_rfl) (fun _ _ _ h => h) (Or.inr ⟨by rfl, rfl⟩) (by assumption) ?_
          try simp only [List.getElem_toArray, List.getElem_cons_zero, List.getElem_cons_succ, Act.put, List.setIfInBounds_toArray, List.set_cons_zero, List.set_cons_succ]
          refine wpAnyH_take (i := 10) (oi := _) (v := undef) rfl (by kernel_rfl) (by kernel_rfl) (by kernel_rfl) (fun _ _ _ h => h) (Or.inr ⟨by rfl, rfl⟩) (by assumption) ?_
          try simp only [List.getElem_toArray, List.getElem_cons_zero, List.getElem_cons_succ, Act.put, List.setIfInBounds_toArray, List.set_cons_zero, List.set_cons_succ]
          refine wpAnyH_take (i := 11) (oi := _) (v := undef) rfl (by kernel_rfl) (by kernel_rfl) (by kernel_rfl) (fun _ _ _ h => h) (Or.inr ⟨by rfl, rfl⟩) (by assumption) ?_
          try simp only [List.getElem_toArray, List.getElem_cons_zero, List.getElem_cons_succ, Act.put, List.setIfInBounds_toArray, List.set_cons_zero, List.set_cons_succ]
          refine wpAnyH_take (i := 12) (oi := _) (v := ?vFj12) rfl (by kernel_rfl) (by kernel_rfl) (by kernel_rfl) (fun _ _ _ h => h) (Or.inl ⟨by rfl, ?hyFj12⟩) (by assumption) ?restFj12
          case hyFj12 => (intro w hSw; (try dsimp only at hSw); go_split_ands; go_simp; try (with_reducible rfl))
          try simp only [List.getElem_toArray, List.getElem_cons_zero, List.getElem_cons_succ, Act.put, List.setIfInBounds_toArray, List.set_cons_zero, List.set_cons_succ]
          refine wpAnyH_done (by kernel_rfl) ?_ _
          go_wp2_with fail
          go_roundw
          case rel => exact ⟨k + 1, pl, mo, by omega, rfl, rfl, by go_num, HN3, hHeld⟩
          case measure => simp [intOf]; omega
      · obtain ⟨rfl, rfl, rfl⟩ := HCUT.out rfl
        have q := eq42_same CA CN hCA.1
        clear HCUT HK
        by_cases hup : mo < CN
        · have hup1 : decide (CN > mo) = true := decide_eq_true hup
          have HN3 : Hid (lngK l z2 (k + 1) = ((k : Int), CN)) := by rw [Hid, HN.out, if_pos ⟨hup, rfl⟩]
          clear HN
          go_wp2_with fail
          refine wp_region_held_drew (S := (fun w' => Hid (Below w1.heap.size w1 w') ∧ w'.cell? ⟨c, oc + k * 17 + 16, none⟩ = some (.int .i64 CN))) (by kernel_rfl) ?_ (fun hHeld => ?_)
          · exact ⟨HB.out.drew, hcb⟩
          refine wpAnyH_take (i := 0) (oi := _) (v := ?vUa0) rfl (by kernel_rfl) (by kernel_rfl) (by kernel_rfl) (fun _ _ _ h => h) (Or.inl ⟨by rfl, ?hyUa0⟩) (by assumption) ?restUa0
          case hyUa0 => (intro w hSw; (try dsimp only at hSw); go_split_ands; go_simp; try (with_reducible rfl))
          try simp only [List.getElem_toArray, List.getElem_cons_zero, List.getElem_cons_succ, Act.put, List.setIfInBounds_toArray, List.set_cons_zero, List.set_cons_succ]
          refine wpAnyH_take (i := 1) (oi := _) (v := ?vUa1) rfl (by kernel_rfl) (by kernel_rfl) (by kernel_rfl) (fun _ _ _ h => h) (Or.inl ⟨by rfl, ?hyUa1⟩) (by assumption) ?restUa1
          case hyUa1 => (intro w hSw; (try dsimp only at hSw); go_split_ands; go_simp; try (with_reducible rfl))
          try simp only [List.getElem_toArray, List.getElem_cons_zero, List.getElem_cons_succ, Act.put, List.setIfInBounds_toArray, List.set_cons_zero, List.set_cons_succ]
          refine wpAnyH_take (i := 2) (oi := _) (v := ?vUa2) rfl (by kernel_rfl) (by kernel_rfl) (by kernel_rfl) (fun _ _ _ h => h) (Or.inl ⟨by rfl, ?hyUa2⟩) (by assumption) ?restUa2
          case hyUa2 => (intro w hSw; (try dsimp only at hSw); go_split_ands; go_simp; try (with_reducible rfl))
          try simp only [List.getElem_toArray, List.getElem_cons_zero, List.getElem_cons_succ, Act.put, List.setIfInBounds_toArray, List.set_cons_zero, List.set_cons_succ]
          refine wpAnyH_take (i := 3) (oi := _) (v := .agg (pfx CA CN)) rfl (by kernel_rfl) (by kernel_rfl) (by kernel_rfl) (fun _ _ _ h => h) (yieldsIf_load_mid (by rfl) 39 _ rfl b (off + k * 17) rfl (pfx CA CN).toList _ (fun w h => range_below RIN.out h.1.out hbl) Tryd.underlying39 rfl sz39) (by assumption) ?_
          try simp only [List.getElem_toArray, List.getElem_cons_zero, List.getElem_cons_succ, Act.put, List.setIfInBounds_toArray, List.set_cons_zero, List.set_cons_succ]
          refine wpAnyH_take (i := 4) (oi := _) (v := .agg (u8s l)) rfl (by kernel_rfl) (by kernel_rfl) (by kernel_rfl) (fun _ _ _ h => h) (yieldsIf_load_mid (by rfl) 22 _ rfl w.heap.size 0 rfl (cl l) _ (fun w h => range_below RAD.out h.1.out hal) Tryd.underlying22 rfl szl) (by assumption) ?_
          try simp only [List.getElem_toArray, List.getElem_cons_zero, List.getElem_cons_succ, Act.put, List.setIfInBounds_toArray, List.set_cons_zero, List.set_cons_succ]
          refine wpAnyH_ready (rs := [5]) (by kernel_rfl) (by simp) ?_
          refine AllReadyH.cons (o := _) rfl (fun K hK => ?_) AllReadyH.nil
          go_simp
          refine (C24.out _).mono ?_; rintro e w2 ⟨rfl, hbx⟩; have sw2 := KEEP.out _ _ hHeld hbx; clear hbx hHeld
          go_wp2_with fail
          refine hK.out _ _ sw2 (fun hHeld => ?_)
          clear hK K
          try simp only [Act.put, List.setIfInBounds_toArray, List.set_cons_zero, List.set_cons_succ]
          refine wpAnyH_take (i := 6) (oi := _) (v := ?vUa6) rfl (by kernel_rfl) (by kernel_rfl) (by kernel_rfl) (fun _ _ _ h => h) (Or.inl ⟨by rfl, ?hyUa6⟩) (by assumption) ?restUa6
          case hyUa6 => (intro w hSw; (try dsimp only at hSw); go_split_ands; go_simp; try (with_reducible rfl))
          try simp only [List.getElem_toArray, List.getElem_cons_zero, List.getElem_cons_succ, Act.put, List.setIfInBounds_toArray, List.set_cons_zero, List.set_cons_succ]
          refine wpAnyH_done (by kernel_rfl) ?_ _
          go_wp2_with fail
          refine wp_region_held_drew (S := (fun w' => Hid (Below w1.heap.size w1 w') ∧ w'.cell? ⟨c, oc + k * 17 + 16, none⟩ = some (.int .i64 CN))) (by kernel_rfl) ?_ (fun hHeld => ?_)
          · exact ⟨hHeld.1.out.drew, hHeld.2⟩
          refine wpAnyH_take (i := 0) (oi := _) (v := ?vUb0) rfl (by kernel_rfl) (by kernel_rfl) (by kernel_rfl) (fun _ _ _ h => h) (Or.inl ⟨by rfl, ?hyUb0⟩) (by assumption) ?restUb0
          case hyUb0 => (intro w hSw; (try dsimp only at hSw); go_split_ands; go_simp; try (with_reducible rfl))
          try simp only [List.getElem_toArray, List.getElem_cons_zero, List.getElem_cons_succ, Act.put, List.setIfInBounds_toArray, List.set_cons_zero, List.set_cons_succ]
          refine wpAnyH_take (i := 1) (oi := _) (v := ?vUb1) rfl (by kernel_rfl) (by kernel_rfl) (by kernel_rfl) (fun _ _ _ h => h) (Or.inl ⟨by rfl, ?hyUb1⟩) (by assumption) ?restUb1
          case hyUb1 => (intro w hSw; (try dsimp only at hSw); go_split_ands; go_simp; try (with_reducible rfl))
          try simp only [List.getElem_toArray, List.getElem_cons_zero, List.getElem_cons_succ, Act.put, List.setIfInBounds_toArray, List.set_cons_zero, List.set_cons_succ]
          refine wpAnyH_take (i := 2) (oi := _) (v := ?vUb2) rfl (by kernel_rfl) (by kernel_rfl) (by kernel_rfl) (fun _ _ _ h => h) (Or.inl ⟨by rfl, ?hyUb2⟩) (by assumption) ?restUb2
          case hyUb2 => (intro w hSw; (try dsimp only at hSw); go_split_ands; go_simp; try (with_reducible rfl))
          try simp only [List.getElem_toArray, List.getElem_cons_zero, List.getElem_cons_succ, Act.put, List.setIfInBounds_toArray, List.set_cons_zero, List.set_cons_succ]
          refine wpAnyH_take (i := 3) (oi := _) (v := .agg (pfx CA CN)) rfl (by kernel_rfl) (by kernel_rfl) (by kernel_rfl) (fun _ _ _ h => h) (yieldsIf_load_mid (by rfl) 42 _ rfl c (oc + k * 17) rfl (pfx CA CN).toList _ (fun w h => range_below ROUT.out h.1.out hcl) Tryd.underlying42 rfl sz42) (by assumption) ?_
          try simp only [List.getElem_toArray, List.getElem_cons_zero, List.getElem_cons_succ, Act.put, List.setIfInBounds_toArray, List.set_cons_zero, List.set_cons_succ]
          refine wpAnyH_take (i := 5) (oi := _) (v := ?vUb5) rfl (by kernel_rfl) (by kernel_rfl) (by kernel_rfl) (fun _ _ _ h => h) (Or.inl ⟨by rfl, ?hyUb5⟩) (by assumption) ?restUb5
          case hyUb5 => (intro w hSw; (try dsimp only at hSw); go_split_ands; go_simp; try (with_reducible rfl))
          try simp only [List.getElem_toArray, List.getElem_cons_zero, List.getElem_cons_succ, Act.put, List.setIfInBounds_toArray, List.set_cons_zero, List.set_cons_succ]
          refine wpAnyH_take (i := 6) (oi := _) (v := ?vUb6) rfl (by kernel_rfl) (by kernel_rfl) (by kernel_rfl) (fun _ _ _ h => h) (Or.inl ⟨by rfl, ?hyUb6⟩) (by assumption) ?restUb6
          case hyUb6 => (intro w hSw; (try dsimp only at hSw); go_split_ands; go_simp; try (with_reducible rfl))
          try simp only [List.getElem_toArray, List.getElem_cons_zero, List.getElem_cons_succ, Act.put, List.setIfInBounds_toArray, List.set_cons_zero, List.set_cons_succ]
          refine wpAnyH_take (i := 7) (oi := _) (v := ?vUb7) rfl (by kernel_rfl) (by kernel_rfl) (by kernel_rfl) (fun _ _ _ h => h) (Or.inl ⟨by rfl, ?hyUb7⟩) (by assumption) ?restUb7
          case hyUb7 => (intro w hSw; (try dsimp only at hSw); go_split_ands; go_simp; try (with_reducible rfl))
          try simp only [List.getElem_toArray, List.getElem_cons_zero, List.getElem_cons_succ, Act.put, List.setIfInBounds_toArray, List.set_cons_zero, List.set_cons_succ]
          refine wpAnyH_take (i := 8) (oi := _) (v := .agg (pfx CA CN)) rfl (by kernel_rfl) (by kernel_rfl) (by kernel_rfl) (fun _ _ _ h => h) (yieldsIf_load_mid (by rfl) 39 _ rfl b (off + k * 17) rfl (pfx CA CN).toList _ (fun w h => range_below RIN.out h.1.out hbl) Tryd.underlying39 rfl sz39) (by assumption) ?_
          try simp only [List.getElem_toArray, List.getElem_cons_zero, List.getElem_cons_succ, Act.put, List.setIfInBounds_toArray, List.set_cons_zero, List.set_cons_succ]
          refine wpAnyH_ready (rs := [4]) (by kernel_rfl) (by simp) ?_
          refine AllReadyH.cons (o := _) rfl (fun K hK => ?_) AllReadyH.nil
          go_simp
          refine (C25.out _).mono ?_; rintro e w3 ⟨rfl, hbx⟩; have sw3 := KEEP.out _ _ hHeld hbx; clear hbx hHeld
          go_wp2_with fail
          refine hK.out _ _ sw3 (fun hHeld => ?_)
          clear hK K
          try simp only [Act.put, List.setIfInBounds_toArray, List.set_cons_zero, List.set_cons_succ]
          refine wpAnyH_ready (rs := [9]) (by kernel_rfl) (by simp) ?_
          refine AllReadyH.cons (o := _) rfl (fun K hK => ?_) AllReadyH.nil
          go_simp
          refine (C22.out _).mono ?_; rintro e w4 ⟨rfl, hbx⟩; have sw4 := KEEP.out _ _ hHeld hbx; clear hbx hHeld
          go_wp2_with fail
          refine hK.out _ _ sw4 (fun hHeld => ?_)
          clear hK K
          try simp only [Act.put, List.setIfInBounds_toArray, List.set_cons_zero, List.set_cons_succ]
          refine wpAnyH_take (i := 10) (oi := _) (v := ?vUb10) rfl (by kernel_rfl) (by kernel_rfl) (by kernel_rfl) (fun _ _ _ h => h) (Or.inl ⟨by rfl, ?hyUb10⟩) (by assumption) ?restUb10
          case hyUb10 => (intro w hSw; (try dsimp only at hSw); go_split_ands; go_simp; try (with_reducible rfl))
          try simp only [List.getElem_toArray, List.getElem_cons_zero, List.getElem_cons_succ, Act.put, List.setIfInBounds_toArray, List.set_cons_zero, List.set_cons_succ]
          refine wpAnyH_take (i := 11) (oi := _) (v := ?vUb11) rfl (by kernel_rfl) (by kernel_rfl) (by kernel_rfl) (fun _ _ _ h => h) (Or.inl ⟨by rfl, ?hyUb11⟩) (by assumption) ?restUb11
          case hyUb11 => (intro w hSw; (try dsimp only at hSw); go_split_ands; go_simp; try (with_reducible rfl))
          try simp only [List.getElem_toArray, List.getElem_cons_zero, List.getElem_cons_succ, Act.put, List.setIfInBounds_toArray, List.set_cons_zero, List.set_cons_succ]
          refine wpAnyH_take (i := 12) (oi := _) (v := ?vUb12) rfl (by kernel_rfl) (by kernel_rfl) (by kernel_rfl) (fun _ _ _ h => h) (Or.inl ⟨by rfl, ?hyUb12⟩) (by assumption) ?restUb12
          case hyUb12 => (intro w hSw; (try dsimp only at hSw); go_split_ands; go_simp; try (with_reducible rfl))
          try simp only [List.getElem_toArray, List.getElem_cons_zero, List.getElem_cons_succ, Act.put, List.setIfInBounds_toArray, List.set_cons_zero, List.set_cons_succ]
          refine wpAnyH_take (i := 13) (oi := _) (v := ?vUb13) rfl (by kernel_rfl) (by kernel_rfl) (by kernel_rfl) (fun _ _ _ h => h) (Or.inl ⟨by rfl, ?hyUb13⟩) (by assumption) ?restUb13
          case hyUb13 => (intro w hSw; (try dsimp only at hSw); go_split_ands; go_simp; try (with_reducible rfl))
          try simp only [List.getElem_toArray, List.getElem_cons_zero, List.getElem_cons_succ, Act.put, List.setIfInBounds_toArray, List.set_cons_zero, List.set_cons_succ]
          refine wpAnyH_take (i := 14) (oi := _) (v := ?vUb14) rfl (by kernel_rfl) (by kernel_rfl) (by kernel_rfl) (fun _ _ _ h => h) (Or.inl ⟨by rfl, ?hyUb14⟩) (by assumption) ?restUb14
          case hyUb14 => (intro w hSw; (try dsimp only at hSw); go_split_ands; go_simp; try (with_reducible rfl))
          try simp only [List.getElem_toArray, List.getElem_cons_zero, List.getElem_cons_succ, Act.put, List.setIfInBounds_toArray, List.set_cons_zero, List.set_cons_succ]
          refine wpAnyH_take (i := 15) (oi := _) (v := .agg (pfx CA CN)) rfl (by kernel_rfl) (by kernel_rfl) (by kernel_rfl) (fun _ _ _ h => h) (yieldsIf_load_mid (by rfl) 42 _ rfl c (oc + k * 17) rfl (pfx CA CN).toList _ (fun w h => range_below ROUT.out h.1.out hcl) Tryd.underlying42 rfl sz42) (by assumption) ?_
          try simp only [List.getElem_toArray, List.getElem_cons_zero, List.getElem_cons_succ, Act.put, List.setIfInBounds_toArray, List.set_cons_zero, List.set_cons_succ]
          refine wpAnyH_take (i := 16) (oi := _) (v := .agg (u8s l)) rfl (by kernel_rfl) (by kernel_rfl) (by kernel_rfl) (fun _ _ _ h => h) (yieldsIf_load_mid (by rfl) 22 _ rfl w.heap.size 0 rfl (cl l) _ (fun w h => range_below RAD.out h.1.out hal) Tryd.underlying22 rfl szl) (by assumption) ?_
          try simp only [List.getElem_toArray, List.getElem_cons_zero, List.getElem_cons_succ, Act.put, List.setIfInBounds_toArray, List.set_cons_zero, List.set_cons_succ]
          refine wpAnyH_take (i := 18) (oi := _) (v := ?vUb18) rfl (by kernel_rfl) (by kernel_rfl) (by kernel_rfl) (fun _ _ _ h => h) (Or.inl ⟨by rfl, ?hyUb18⟩) (by assumption) ?restUb18
          case hyUb18 => (intro w hSw; (try dsimp only at hSw); go_split_ands; go_simp; try (with_reducible rfl))
          try simp only [List.getElem_toArray, List.getElem_cons_zero, List.getElem_cons_succ, Act.put, List.setIfInBounds_toArray, List.set_cons_zero, List.set_cons_succ]
          refine wpAnyH_ready (rs := [17]) (by kernel_rfl) (by simp) ?_
          refine AllReadyH.cons (o := _) rfl (fun K hK => ?_) AllReadyH.nil
          go_simp
          refine (C26.out _).mono ?_; rintro e w5 ⟨rfl, hbx⟩; have sw5 := KEEP.out _ _ hHeld hbx; clear hbx hHeld
          go_wp2_with fail
          refine hK.out _ _ sw5 (fun hHeld => ?_)
          clear hK K
          try simp only [Act.put, List.setIfInBounds_toArray, List.set_cons_zero, List.set_cons_succ]
          refine wpAnyH_take (i := 19) (oi := _) (v := ?vUb19) rfl (by kernel_rfl) (by kernel_rfl) (by kernel_rfl) (fun _ _ _ h => h) (Or.inl ⟨by rfl, ?hyUb19⟩) (by assumption) ?restUb19
          case hyUb19 => (intro w hSw; (try dsimp only at hSw); go_split_ands; go_simp; try (with_reducible rfl))
          try simp only [List.getElem_toArray, List.getElem_cons_zero, List.getElem_cons_succ, Act.put, List.setIfInBounds_toArray, List.set_cons_zero, List.set_cons_succ]
          refine wpAnyH_take (i := 20) (oi := _) (v := ?vUb20) rfl (by kernel_rfl) (by kernel_rfl) (by kernel_rfl) (fun _ _ _ h => h) (Or.inl ⟨by rfl, ?hyUb20⟩) (by assumption) ?restUb20
          case hyUb20 => (intro w hSw; (try dsimp only at hSw); go_split_ands; go_simp; try (with_reducible rfl))
          try simp only [List.getElem_toArray, List.getElem_cons_zero, List.getElem_cons_succ, Act.put, List.setIfInBounds_toArray, List.set_cons_zero, List.set_cons_succ]
          refine wpAnyH_done (by kernel_rfl) ?_ _
          have hci : w5.cell? ⟨b, off + k * 17 + 16, none⟩ = some (.int .i64 CN) := (hHeld.1.out.cell (p := ⟨b, off + k * 17 + 16, none⟩) hbl).trans HCI.out
          go_wp2_with fail
          clear hci
          refine wp_region_held_drew (S := (fun w' => Hid (Below w1.heap.size w1 w') ∧ w'.cell? ⟨c, oc + k * 17 + 16, none⟩ = some (.int .i64 CN))) (by kernel_rfl) ?_ (fun hHeld => ?_)
          · exact ⟨hHeld.1.out.drew, hHeld.2⟩
          refine wpAnyH_take (i := 0) (oi := _) (v := .agg (u8s l)) rfl (by kernel_rfl) (by kernel_rfl) (by kernel_rfl) (fun _ _ _ h => h) (yieldsIf_load_mid (by rfl) 22 _ rfl w.heap.size 0 rfl (cl l) _ (fun w h => range_below RAD.out h.1.out hal) Tryd.underlying22 rfl szl) (by assumption) ?_
          try simp only [List.getElem_toArray, List.getElem_cons_zero, List.getElem_cons_succ, Act.put, List.setIfInBounds_toArray, List.set_cons_zero, List.set_cons_succ]
          refine wpAnyH_take (i := 1) (oi := _) (v := ?vUc1) rfl (by kernel_rfl) (by kernel_rfl) (by kernel_rfl) (fun _ _ _ h => h) (Or.inl ⟨by rfl, ?hyUc1⟩) (by assumption) ?restUc1
          case hyUc1 => (intro w hSw; (try dsimp only at hSw); go_split_ands; go_simp; try (with_reducible rfl))
          try simp only [List.getElem_toArray, List.getElem_cons_zero, List.getElem_cons_succ, Act.put, List.setIfInBounds_toArray, List.set_cons_zero, List.set_cons_succ]
          refine wpAnyH_take (i := 2) (oi := _) (v := ?vUc2) rfl (by kernel_rfl) (by kernel_rfl) (by kernel_rfl) (fun _ _ _ h => h) (Or.inl ⟨by rfl, ?hyUc2⟩) (by assumption) ?restUc2
          case hyUc2 => (intro w hSw; (try dsimp only at hSw); go_split_ands; go_simp; try (with_reducible rfl))
          try simp only [List.getElem_toArray, List.getElem_cons_zero, List.getElem_cons_succ, Act.put, List.setIfInBounds_toArray, List.set_cons_zero, List.set_cons_succ]
          refine wpAnyH_take (i := 3) (oi := _) (v := ?vUc3) rfl (by kernel_rfl) (by kernel_rfl) (by kernel_rfl) (fun _ _ _ h => h) (Or.inl ⟨by rfl, ?hyUc3⟩) (by assumption) ?restUc3
          case hyUc3 => (intro w hSw; (try dsimp only at hSw); go_split_ands; go_simp; try (with_reducible rfl))
          try simp only [List.getElem_toArray, List.getElem_cons_zero, List.getElem_cons_succ, Act.put, List.setIfInBounds_toArray, List.set_cons_zero, List.set_cons_succ]
          refine wpAnyH_take (i := 4) (oi := _) (v := ?vUc4) rfl (by kernel_rfl) (by kernel_rfl) (by kernel_rfl) (fun _ _ _ h => h) (Or.inl ⟨by rfl, ?hyUc4⟩) (by assumption) ?restUc4
          case hyUc4 => (intro w hSw; (try dsimp only at hSw); go_split_ands; go_simp; try (with_reducible rfl))
          try simp only [List.getElem_toArray, List.getElem_cons_zero, List.getElem_cons_succ, Act.put, List.setIfInBounds_toArray, List.set_cons_zero, List.set_cons_succ]
          refine wpAnyH_take (i := 5) (oi := _) (v := ?vUc5) rfl (by kernel_rfl) (by kernel_rfl) (by kernel_rfl) (fun _ _ _ h => h) (Or.inl ⟨by rfl, ?hyUc5⟩) (by assumption) ?restUc5
          case hyUc5 => (intro w hSw; (try dsimp only at hSw); go_split_ands; go_simp; try (with_reducible rfl))
          try simp only [List.getElem_toArray, List.getElem_cons_zero, List.getElem_cons_succ, Act.put, List.setIfInBounds_toArray, List.set_cons_zero, List.set_cons_succ]
          refine wpAnyH_ready (rs := [6, 10]) (by kernel_rfl) (by simp) ?_
          refine AllReadyH.cons (o := _) rfl (fun K hK => ?_) (AllReadyH.cons (o := _) rfl (fun K hK => ?_) AllReadyH.nil)
          · go_simp
            refine (C27.out _).mono ?_; rintro e w6 ⟨rfl, hbx⟩; have sw6 := KEEP.out _ _ hHeld hbx; clear hbx hHeld
            go_wp2_with fail
            refine hK.out _ _ sw6 (fun hHeld => ?_)
            clear hK K
            try simp only [List.getElem_toArray, List.getElem_cons_zero, List.getElem_cons_succ, Act.put, List.setIfInBounds_toArray, List.set_cons_zero, List.set_cons_succ]
            refine wpAnyH_take (i := 7) (oi := _) (v := ?vUe7) rfl (by kernel_rfl) (by kernel_rfl) (by kernel_rfl) (fun _ _ _ h => h) (Or.inl ⟨by rfl, ?hyUe7⟩) (by assumption) ?restUe7
            case hyUe7 => (intro w hSw; (try dsimp only at hSw); go_split_ands; go_simp; try (with_reducible rfl))
            try simp only [List.getElem_toArray, List.getElem_cons_zero, List.getElem_cons_succ, Act.put, List.setIfInBounds_toArray, List.set_cons_zero, List.set_cons_succ]
            refine wpAnyH_take (i := 8) (oi := _) (v := ?vUe8) rfl (by kernel_rfl) (by kernel_rfl) (by kernel_rfl) (fun _ _ _ h => h) (Or.inl ⟨by rfl, ?hyUe8⟩) (by assumption) ?restUe8
            case hyUe8 => (intro w hSw; (try dsimp only at hSw); go_split_ands; go_simp; try (with_reducible rfl))
            try simp only [List.getElem_toArray, List.getElem_cons_zero, List.getElem_cons_succ, Act.put, List.setIfInBounds_toArray, List.set_cons_zero, List.set_cons_succ]
            refine wpAnyH_take (i := 9) (oi := _) (v := ?vUe9) rfl (by kernel_rfl) (by kernel_rfl) (by kernel_rfl) (fun _ _ _ h => h) (Or.inl ⟨by rfl, ?hyUe9⟩) (by assumption) ?restUe9
            case hyUe9 => (intro w hSw; (try dsimp only at hSw); go_split_ands; go_simp; try (with_reducible rfl))
            try simp only [List.getElem_toArray, List.getElem_cons_zero, List.getElem_cons_succ, Act.put, List.setIfInBounds_toArray, List.set_cons_zero, List.set_cons_succ]
            refine wpAnyH_ready (rs := [10]) (by kernel_rfl) (by simp) ?_
            refine AllReadyH.cons (o := _) rfl (fun K hK => ?_) AllReadyH.nil
            go_simp
            have hBx : Hid (Below w1.heap.size w1 (w6.alloc (.cells (pfx zeros 0) 42))) := (KEEP.out _ _ hHeld (below_new w6 _)).1
            have hGe : w1.heap.size ≤ w6.heap.size := hHeld.1.out.size
            refine hK.out _ _ (KEEP0.out _ hBx.out) (fun hHeld2 => ?_)
            clear hHeld
            clear hK K
            try simp only [List.getElem_toArray, List.getElem_cons_zero, List.getElem_cons_succ, Act.put, List.setIfInBounds_toArray, List.set_cons_zero, List.set_cons_succ]
            refine wpAnyH_ready (rs := [11]) (by kernel_rfl) (by simp) ?_
            refine AllReadyH.cons (o := _) rfl (fun K hK => ?_) AllReadyH.nil
            refine step_st42 rfl _ _ rfl w6.heap.size CA CN hCA.1 rfl rfl 42 _ (by rfl) (Row.new w6 42 (pfx zeros 0)) ?_
            refine hK.out _ _ (KEEP0.out _ (below_setRow hBx.out hGe (pfx CA CN))) (fun hHeld3 => ?_)
            have RN : Hid (Row ((w6.alloc (.cells (pfx zeros 0) 42)).setRow w6.heap.size (pfx CA CN)) w6.heap.size 42 (pfx CA CN)) := ((Row.new w6 42 (pfx zeros 0))).setRow _
            clear hBx hGe
            generalize ((w6.alloc (.cells (pfx zeros 0) 42)).setRow w6.heap.size (pfx CA CN)) = w7 at *
            clear hK K
            try simp only [List.getElem_toArray, List.getElem_cons_zero, List.getElem_cons_succ, Act.put, List.setIfInBounds_toArray, List.set_cons_zero, List.set_cons_succ]
            refine wpAnyH_take (i := 12) (oi := _) (v := ?vUf12) rfl (by kernel_rfl) (by kernel_rfl) (by kernel_rfl) (fun _ _ _ h => h) (Or.inl ⟨by rfl, ?hyUf12⟩) (by assumption) ?restUf12
            case hyUf12 => (intro w hSw; (try dsimp only at hSw); go_split_ands; go_simp; try (with_reducible rfl))
            try simp only [List.getElem_toArray, List.getElem_cons_zero, List.getElem_cons_succ, Act.put, List.setIfInBounds_toArray, List.set_cons_zero, List.set_cons_succ]
            refine wpAnyH_done (by kernel_rfl) ?_ _
            go_wp2_with fail
            refine wp_region_held_drew (S := (fun w' => Hid (Below w1.heap.size w1 w') ∧ w'.rangeAt w6.heap.size 0 (pfx CA CN).toList)) (by kernel_rfl) ?_ (fun hHeld => ?_)
            · exact ⟨hHeld3.1.out.drew, fun j v hv => RN.out.part j v (by simpa using hv)⟩
            refine wpAnyH_take (i := 0) (oi := _) (v := ?vUi0) rfl (by kernel_rfl) (by kernel_rfl) (by kernel_rfl) (fun _ _ _ h => h) (Or.inl ⟨by rfl, ?hyUi0⟩) (by assumption) ?restUi0
            case hyUi0 => (intro w hSw; (try dsimp only at hSw); go_split_ands; go_simp; try (with_reducible rfl))
            try simp only [List.getElem_toArray, List.getElem_cons_zero, List.getElem_cons_succ, Act.put, List.setIfInBounds_toArray, List.set_cons_zero, List.set_cons_succ]
            refine wpAnyH_take (i := 1) (oi := _) (v := ?vUi1) rfl (by kernel_rfl) (by kernel_rfl) (by kernel_rfl) (fun _ _ _ h => h) (Or.inl ⟨by rfl, ?hyUi1⟩) (by assumption) ?restUi1
            case hyUi1 => (intro w hSw; (try dsimp only at hSw); go_split_ands; go_simp; try (with_reducible rfl))
            try simp only [List.getElem_toArray, List.getElem_cons_zero, List.getElem_cons_succ, Act.put, List.setIfInBounds_toArray, List.set_cons_zero, List.set_cons_succ]
            refine wpAnyH_take (i := 2) (oi := _) (v := ?vUi2) rfl (by kernel_rfl) (by kernel_rfl) (by kernel_rfl) (fun _ _ _ h => h) (Or.inl ⟨by rfl, ?hyUi2⟩) (by assumption) ?restUi2
            case hyUi2 => (intro w hSw; (try dsimp only at hSw); go_split_ands; go_simp; try (with_reducible rfl))
            try simp only [List.getElem_toArray, List.getElem_cons_zero, List.getElem_cons_succ, Act.put, List.setIfInBounds_toArray, List.set_cons_zero, List.set_cons_succ]
            refine wpAnyH_take (i := 3) (oi := _) (v := ?vUi3) rfl (by kernel_rfl) (by kernel_rfl) (by kernel_rfl) (fun _ _ _ h => h) (Or.inl ⟨by rfl, ?hyUi3⟩) (by assumption) ?restUi3
            case hyUi3 => (intro w hSw; (try dsimp only at hSw); go_split_ands; go_simp; try (with_reducible rfl))
            try simp only [List.getElem_toArray, List.getElem_cons_zero, List.getElem_cons_succ, Act.put, List.setIfInBounds_toArray, List.set_cons_zero, List.set_cons_succ]
            refine wpAnyH_take (i := 4) (oi := _) (v := ?vUi4) rfl (by kernel_rfl) (by kernel_rfl) (by kernel_rfl) (fun _ _ _ h => h) (Or.inl ⟨by rfl, ?hyUi4⟩) (by assumption) ?restUi4
            case hyUi4 => (intro w hSw; (try dsimp only at hSw); go_split_ands; go_simp; try (with_reducible rfl))
            try simp only [List.getElem_toArray, List.getElem_cons_zero, List.getElem_cons_succ, Act.put, List.setIfInBounds_toArray, List.set_cons_zero, List.set_cons_succ]
            refine wpAnyH_take (i := 5) (oi := _) (v := .agg (pfx CA CN)) rfl (by kernel_rfl) (by kernel_rfl) (by kernel_rfl) (fun _ _ _ h => h) (yieldsIf_load_mid (by rfl) 42 _ rfl w6.heap.size 0 rfl (pfx CA CN).toList _ (fun w h => h.2) Tryd.underlying42 rfl sz42) (by assumption) ?_
            try simp only [List.getElem_toArray, List.getElem_cons_zero, List.getElem_cons_succ, Act.put, List.setIfInBounds_toArray, List.set_cons_zero, List.set_cons_succ]
            refine wpAnyH_take (i := 6) (oi := _) (v := ?vUi6) rfl (by kernel_rfl) (by kernel_rfl) (by kernel_rfl) (fun _ _ _ h => h) (Or.inl ⟨by rfl, ?hyUi6⟩) (by assumption) ?restUi6
            case hyUi6 => (intro w hSw; (try dsimp only at hSw); go_split_ands; go_simp; try (with_reducible rfl))
            try simp only [List.getElem_toArray, List.getElem_cons_zero, List.getElem_cons_succ, Act.put, List.setIfInBounds_toArray, List.set_cons_zero, List.set_cons_succ]
            refine wpAnyH_take (i := 7) (oi := _) (v := ?vUi7) rfl (by kernel_rfl) (by kernel_rfl) (by kernel_rfl) (fun _ _ _ h => h) (Or.inl ⟨by rfl, ?hyUi7⟩) (by assumption) ?restUi7
            case hyUi7 => (intro w hSw; (try dsimp only at hSw); go_split_ands; go_simp; try (with_reducible rfl))
            try simp only [List.getElem_toArray, List.getElem_cons_zero, List.getElem_cons_succ, Act.put, List.setIfInBounds_toArray, List.set_cons_zero, List.set_cons_succ]
            refine wpAnyH_take (i := 8) (oi := _) (v := ?vUi8) rfl (by kernel_rfl) (by kernel_rfl) (by kernel_rfl) (fun _ _ _ h => h) (Or.inl ⟨by rfl, ?hyUi8⟩) (by assumption) ?restUi8
            case hyUi8 => (intro w hSw; (try dsimp only at hSw); go_split_ands; go_simp; try (with_reducible rfl))
            try simp only [List.getElem_toArray, List.getElem_cons_zero, List.getElem_cons_succ, Act.put, List.setIfInBounds_toArray, List.set_cons_zero, List.set_cons_succ]
            refine wpAnyH_take (i := 9) (oi := _) (v := .agg (pfx CA CN)) rfl (by kernel_rfl) (by kernel_rfl) (by kernel_rfl) (fun _ _ _ h => h) (yieldsIf_load_mid (by rfl) 42 _ rfl c (oc + k * 17) rfl (pfx CA CN).toList _ (fun w h => range_below ROUT.out h.1.out hcl) Tryd.underlying42 rfl sz42) (by assumption) ?_
            try simp only [List.getElem_toArray, List.getElem_cons_zero, List.getElem_cons_succ, Act.put, List.setIfInBounds_toArray, List.set_cons_zero, List.set_cons_succ]
            refine wpAnyH_take (i := 10) (oi := _) (v := ?vUi10) rfl (by kernel_rfl) (by kernel_rfl) (by kernel_rfl) (fun _ _ _ h => h) (Or.inl ⟨by rfl, ?hyUi10⟩) (by assumption) ?restUi10
            case hyUi10 => (intro w hSw; (try dsimp only at hSw); go_split_ands; go_simp; try (with_reducible rfl))
            try simp only [List.getElem_toArray, List.getElem_cons_zero, List.getElem_cons_succ, Act.put, List.setIfInBounds_toArray, List.set_cons_zero, List.set_cons_succ]
            refine wpAnyH_take (i := 11) (oi := _) (v := ?vUi11) rfl (by kernel_rfl) (by kernel_rfl) (by kernel_rfl) (fun _ _ _ h => h) (Or.inl ⟨by rfl, ?hyUi11⟩) (by assumption) ?restUi11
            case hyUi11 => (intro w hSw; (try dsimp only at hSw); go_split_ands; go_simp; try (with_reducible rfl))
            try simp only [List.getElem_toArray, List.getElem_cons_zero, List.getElem_cons_succ, Act.put, List.setIfInBounds_toArray, List.set_cons_zero, List.set_cons_succ]
            refine wpAnyH_take (i := 12) (oi := _) (v := ?vUi12) rfl (by kernel_rfl) (by kernel_rfl) (by kernel_rfl) (fun _ _ _ h => h) (Or.inl ⟨by rfl, ?hyUi12⟩) (by assumption) ?restUi12
            case hyUi12 => (intro w hSw; (try dsimp only at hSw); go_split_ands; go_simp; try (with_reducible rfl))
            try simp only [List.getElem_toArray, List.getElem_cons_zero, List.getElem_cons_succ, Act.put, List.setIfInBounds_toArray, List.set_cons_zero, List.set_cons_succ]
            refine wpAnyH_done (by kernel_rfl) ?_ _
            go_wp2_with fail
            go_roundw
            case rel => exact ⟨k + 1, k, CN, by omega, rfl, rfl, by go_num, HN3, hHeld.1⟩
            case measure => simp [intOf]; omega
          · go_simp
            have hGe : w1.heap.size ≤ w5.heap.size := hHeld.1.out.size
            have RN0 : Hid (Row (w5.drew.alloc (.cells (pfx zeros 0) 42)) w5.heap.size 42 (pfx zeros 0)) := Row.new w5.drew 42 _
            refine hK.out _ _ (KEEP.out _ _ hHeld (below_new w5.drew _)) (fun hHeld2 => ?_)
            clear hK K hHeld
            have hHeld := hHeld2
            clear hHeld2
            try simp only [List.getElem_toArray, List.getElem_cons_zero, List.getElem_cons_succ, Act.put, List.setIfInBounds_toArray, List.set_cons_zero, List.set_cons_succ]
            refine wpAnyH_ready (rs := [6]) (by kernel_rfl) (by simp) ?_
            refine AllReadyH.cons (o := _) rfl (fun K hK => ?_) AllReadyH.nil
            go_simp
            refine (C27.out _).mono ?_; rintro e w6 ⟨rfl, hbx⟩; have sw6 := KEEP.out _ _ hHeld hbx; have RN1 : Hid (Row w6 w5.heap.size 42 (pfx zeros 0)) := RN0.out.below hbx RN0.out.lt; clear hbx hHeld RN0
            go_wp2_with fail
            refine hK.out _ _ sw6 (fun hHeld => ?_)
            have hBx : Hid (Below w1.heap.size w1 w6) := hHeld.1
            clear hK K
            try simp only [List.getElem_toArray, List.getElem_cons_zero, List.getElem_cons_succ, Act.put, List.setIfInBounds_toArray, List.set_cons_zero, List.set_cons_succ]
            refine wpAnyH_take (i := 7) (oi := _) (v := ?vUg7) rfl (by kernel_rfl) (by kernel_rfl) (by kernel_rfl) (fun _ _ _ h => h) (Or.inl ⟨by rfl, ?hyUg7⟩) (by assumption) ?restUg7
            case hyUg7 => (intro w hSw; (try dsimp only at hSw); go_split_ands; go_simp; try (with_reducible rfl))
            try simp only [List.getElem_toArray, List.getElem_cons_zero, List.getElem_cons_succ, Act.put, List.setIfInBounds_toArray, List.set_cons_zero, List.set_cons_succ]
            refine wpAnyH_take (i := 8) (oi := _) (v := ?vUg8) rfl (by kernel_rfl) (by kernel_rfl) (by kernel_rfl) (fun _ _ _ h => h) (Or.inl ⟨by rfl, ?hyUg8⟩) (by assumption) ?restUg8
            case hyUg8 => (intro w hSw; (try dsimp only at hSw); go_split_ands; go_simp; try (with_reducible rfl))
            try simp only [List.getElem_toArray, List.getElem_cons_zero, List.getElem_cons_succ, Act.put, List.setIfInBounds_toArray, List.set_cons_zero, List.set_cons_succ]
            refine wpAnyH_take (i := 9) (oi := _) (v := ?vUg9) rfl (by kernel_rfl) (by kernel_rfl) (by kernel_rfl) (fun _ _ _ h => h) (Or.inl ⟨by rfl, ?hyUg9⟩) (by assumption) ?restUg9
            case hyUg9 => (intro w hSw; (try dsimp only at hSw); go_split_ands; go_simp; try (with_reducible rfl))
            try simp only [List.getElem_toArray, List.getElem_cons_zero, List.getElem_cons_succ, Act.put, List.setIfInBounds_toArray, List.set_cons_zero, List.set_cons_succ]
            refine wpAnyH_ready (rs := [11]) (by kernel_rfl) (by simp) ?_
            refine AllReadyH.cons (o := _) rfl (fun K hK => ?_) AllReadyH.nil
            refine step_st42 rfl _ _ rfl w5.heap.size CA CN hCA.1 rfl rfl 42 _ (by rfl) RN1.out ?_
            refine hK.out _ _ (KEEP0.out _ (below_setRow hBx.out hGe (pfx CA CN))) (fun hHeld3 => ?_)
            have RN : Hid (Row (w6.setRow w5.heap.size (pfx CA CN)) w5.heap.size 42 (pfx CA CN)) := (RN1.out).setRow _
            clear hBx hGe
            generalize (w6.setRow w5.heap.size (pfx CA CN)) = w7 at *
            clear hK K
            try simp only [List.getElem_toArray, List.getElem_cons_zero, List.getElem_cons_succ, Act.put, List.setIfInBounds_toArray, List.set_cons_zero, List.set_cons_succ]
            refine wpAnyH_take (i := 12) (oi := _) (v := ?vUh12) rfl (by kernel_rfl) (by kernel_rfl) (by kernel_rfl) (fun _ _ _ h => h) (Or.inl ⟨by rfl, ?hyUh12⟩) (by assumption) ?restUh12
            case hyUh12 => (intro w hSw; (try dsimp only at hSw); go_split_ands; go_simp; try (with_reducible rfl))
            try simp only [List.getElem_toArray, List.getElem_cons_zero, List.getElem_cons_succ, Act.put, List.setIfInBounds_toArray, List.set_cons_zero, List.set_cons_succ]
            refine wpAnyH_done (by kernel_rfl) ?_ _
            go_wp2_with fail
            refine wp_region_held_drew (S := (fun w' => Hid (Below w1.heap.size w1 w') ∧ w'.rangeAt w5.heap.size 0 (pfx CA CN).toList)) (by kernel_rfl) ?_ (fun hHeld => ?_)
            · exact ⟨hHeld3.1.out.drew, fun j v hv => RN.out.part j v (by simpa using hv)⟩
            refine wpAnyH_take (i := 0) (oi := _) (v := ?vUj0) rfl (by kernel_rfl) (by kernel_rfl) (by kernel_rfl) (fun _ _ _ h => h) (Or.inl ⟨by rfl, ?hyUj0⟩) (by assumption) ?restUj0
            case hyUj0 => (intro w hSw; (try dsimp only at hSw); go_split_ands; go_simp; try (with_reducible rfl))
            try simp only [List.getElem_toArray, List.getElem_cons_zero, List.getElem_cons_succ, Act.put, List.setIfInBounds_toArray, List.set_cons_zero, List.set_cons_succ]
            refine wpAnyH_take (i := 1) (oi := _) (v := ?vUj1) rfl (by kernel_rfl) (by kernel_rfl) (by kernel_rfl) (fun _ _ _ h => h) (Or.inl ⟨by rfl, ?hyUj1⟩) (by assumption) ?restUj1
            case hyUj1 => (intro w hSw; (try dsimp only at hSw); go_split_ands; go_simp; try (with_reducible rfl))
            try simp only [List.getElem_toArray, List.getElem_cons_zero, List.getElem_cons_succ, Act.put, List.setIfInBounds_toArray, List.set_cons_zero, List.set_cons_succ]
            refine wpAnyH_take (i := 2) (oi := _) (v := ?vUj2) rfl (by kernel_rfl) (by kernel_rfl) (by kernel_rfl) (fun _ _ _ h => h) (Or.inl ⟨by rfl, ?hyUj2⟩) (by assumption) ?restUj2
            case hyUj2 => (intro w hSw; (try dsimp only at hSw); go_split_ands; go_simp; try (with_reducible rfl))
            try simp only [List.getElem_toArray, List.getElem_cons_zero, List.getElem_cons_succ, Act.put, List.setIfInBounds_toArray, List.set_cons_zero, List.set_cons_succ]
            refine wpAnyH_take (i := 3) (oi := _) (v := ?vUj3) rfl (by kernel_rfl) (by kernel_rfl) (by kernel_rfl) (fun _ _ _ h => h) (Or.inl ⟨by rfl, ?hyUj3⟩) (by assumption) ?restUj3
            case hyUj3 => (intro w hSw; (try dsimp only at hSw); go_split_ands; go_simp; try (with_reducible rfl))
            try simp only [List.getElem_toArray, List.getElem_cons_zero, List.getElem_cons_succ, Act.put, List.setIfInBounds_toArray, List.set_cons_zero, List.set_cons_succ]
            refine wpAnyH_take (i := 4) (oi := _) (v := ?vUj4) rfl (by kernel_rfl) (by kernel_rfl) (by kernel_rfl) (fun _ _ _ h => h) (Or.inl ⟨by rfl, ?hyUj4⟩) (by assumption) ?restUj4
            case hyUj4 => (intro w hSw; (try dsimp only at hSw); go_split_ands; go_simp; try (with_reducible rfl))
            try simp only [List.getElem_toArray, List.getElem_cons_zero, List.getElem_cons_succ, Act.put, List.setIfInBounds_toArray, List.set_cons_zero, List.set_cons_succ]
            refine wpAnyH_take (i := 5) (oi := _) (v := .agg (pfx CA CN)) rfl (by kernel_rfl) (by kernel_rfl) (by kernel_rfl) (fun _ _ _ h => h) (yieldsIf_load_mid (by rfl) 42 _ rfl w5.heap.size 0 rfl (pfx CA CN).toList _ (fun w h => h.2) Tryd.underlying42 rfl sz42) (by assumption) ?_
            try simp only [List.getElem_toArray, List.getElem_cons_zero, List.getElem_cons_succ, Act.put, List.setIfInBounds_toArray, List.set_cons_zero, List.set_cons_succ]
            refine wpAnyH_take (i := 6) (oi := _) (v := ?vUj6) rfl (by kernel_rfl) (by kernel_rfl) (by kernel_rfl) (fun _ _ _ h => h) (Or.inl ⟨by rfl, ?hyUj6⟩) (by assumption) ?restUj6
            case hyUj6 => (intro w hSw; (try dsimp only at hSw); go_split_ands; go_simp; try (with_reducible rfl))
            try simp only [List.getElem_toArray, List.getElem_cons_zero, List.getElem_cons_succ, Act.put, List.setIfInBounds_toArray, List.set_cons_zero, List.set_cons_succ]
            refine wpAnyH_take (i := 7) (oi := _) (v := ?vUj7) rfl (by kernel_rfl) (by kernel_rfl) (by kernel_rfl) (fun _ _ _ h => h) (Or.inl ⟨by rfl, ?hyUj7⟩) (by assumption) ?restUj7
            case hyUj7 => (intro w hSw; (try dsimp only at hSw); go_split_ands; go_simp; try (with_reducible rfl))
            try simp only [List.getElem_toArray, List.getElem_cons_zero, List.getElem_cons_succ, Act.put, List.setIfInBounds_toArray, List.set_cons_zero, List.set_cons_succ]
            refine wpAnyH_take (i := 8) (oi := _) (v := ?vUj8) rfl (by kernel_rfl) (by kernel_rfl) (by kernel_rfl) (fun _ _ _ h => h) (Or.inl ⟨by rfl, ?hyUj8⟩) (by assumption) ?restUj8
            case hyUj8 => (intro w hSw; (try dsimp only at hSw); go_split_ands; go_simp; try (with_reducible rfl))
            try simp only [List.getElem_toArray, List.getElem_cons_zero, List.getElem_cons_succ, Act.put, List.setIfInBounds_toArray, List.set_cons_zero, List.set_cons_succ]
            refine wpAnyH_take (i := 9) (oi := _) (v := .agg (pfx CA CN)) rfl (by kernel_rfl) (by kernel_rfl) (by kernel_rfl) (fun _ _ _ h => h) (yieldsIf_load_mid (by rfl) 42 _ rfl c (oc + k * 17) rfl (pfx CA CN).toList _ (fun w h => range_below ROUT.out h.1.out hcl) Tryd.underlying42 rfl sz42) (by assumption) ?_
            try simp only [List.getElem_toArray, List.getElem_cons_zero, List.getElem_cons_succ, Act.put, List.setIfInBounds_toArray, List.set_cons_zero, List.set_cons_succ]
            refine wpAnyH_take (i := 10) (oi := _) (v := ?vUj10) rfl (by kernel_rfl) (by kernel_rfl) (by kernel_rfl) (fun _ _ _ h => h) (Or.inl ⟨by rfl, ?hyUj10⟩) (by assumption) ?restUj10
            case hyUj10 => (intro w hSw; (try dsimp only at hSw); go_split_ands; go_simp; try (with_reducible rfl))
            try simp only [List.getElem_toArray, List.getElem_cons_zero, List.getElem_cons_succ, Act.put, List.setIfInBounds_toArray, List.set_cons_zero, List.set_cons_succ]
            refine wpAnyH_take (i := 11) (oi := _) (v := ?vUj11) rfl (by kernel_rfl) (by kernel_rfl) (by kernel_rfl) (fun _ _ _ h => h) (Or.inl ⟨by rfl, ?hyUj11⟩) (by assumption) ?restUj11
            case hyUj11 => (intro w hSw; (try dsimp only at hSw); go_split_ands; go_simp; try (with_reducible rfl))
            try simp only [List.getElem_toArray, List.getElem_cons_zero, List.getElem_cons_succ, Act.put, List.setIfInBounds_toArray, List.set_cons_zero, List.set_cons_succ]
            refine wpAnyH_take (i := 12) (oi := _) (v := ?vUj12) rfl (by kernel_rfl) (by kernel_rfl) (by kernel_rfl) (fun _ _ _ h => h) (Or.inl ⟨by rfl, ?hyUj12⟩) (by assumption) ?restUj12
            case hyUj12 => (intro w hSw; (try dsimp only at hSw); go_split_ands; go_simp; try (with_reducible rfl))
            try simp only [List.getElem_toArray, List.getElem_cons_zero, List.getElem_cons_succ, Act.put, List.setIfInBounds_toArray, List.set_cons_zero, List.set_cons_succ]
            refine wpAnyH_done (by kernel_rfl) ?_ _
            go_wp2_with fail
            go_roundw
            case rel => exact ⟨k + 1, k, CN, by omega, rfl, rfl, by go_num, HN3, hHeld.1⟩
            case measure => simp [intOf]; omega
        · have hup0 : ¬ CN > mo := hup
          have hup1 : decide (CN > mo) = false := decide_eq_false hup
          have HN3 : Hid (lngK l z2 (k + 1) = (pl, mo)) := by rw [Hid, HN.out, if_neg (fun h => hup h.1)]
          clear HN
          go_wp2_with fail
          refine wp_region_held_drew (S := (fun w' => Hid (Below w1.heap.size w1 w') ∧ w'.cell? ⟨c, oc + k * 17 + 16, none⟩ = some (.int .i64 CN))) (by kernel_rfl) ?_ (fun hHeld => ?_)
          · exact ⟨HB.out.drew, hcb⟩
          refine wpAnyH_take (i := 0) (oi := _) (v := ?vNa0) rfl (by kernel_rfl) (by kernel_rfl) (by kernel_rfl) (fun _ _ _ h => h) (Or.inl ⟨by rfl, ?hyNa0⟩) (by assumption) ?restNa0
          case hyNa0 => (intro w hSw; (try dsimp only at hSw); go_split_ands; go_simp; try (with_reducible rfl))
          try simp only [List.getElem_toArray, List.getElem_cons_zero, List.getElem_cons_succ, Act.put, List.setIfInBounds_toArray, List.set_cons_zero, List.set_cons_succ]
          refine wpAnyH_take (i := 1) (oi := _) (v := ?vNa1) rfl (by kernel_rfl) (by kernel_rfl) (by kernel_rfl) (fun _ _ _ h => h) (Or.inl ⟨by rfl, ?hyNa1⟩) (by assumption) ?restNa1
          case hyNa1 => (intro w hSw; (try dsimp only at hSw); go_split_ands; go_simp; try (with_reducible rfl))
          try simp only [List.getElem_toArray, List.getElem_cons_zero, List.getElem_cons_succ, Act.put, List.setIfInBounds_toArray, List.set_cons_zero, List.set_cons_succ]
          refine wpAnyH_take (i := 2) (oi := _) (v := ?vNa2) rfl (by kernel_rfl) (by kernel_rfl) (by kernel_rfl) (fun _ _ _ h => h) (Or.inl ⟨by rfl, ?hyNa2⟩) (by assumption) ?restNa2
          case hyNa2 => (intro w hSw; (try dsimp only at hSw); go_split_ands; go_simp; try (with_reducible rfl))
          try simp only [List.getElem_toArray, List.getElem_cons_zero, List.getElem_cons_succ, Act.put, List.setIfInBounds_toArray, List.set_cons_zero, List.set_cons_succ]
          refine wpAnyH_take (i := 3) (oi := _) (v := .agg (pfx CA CN)) rfl (by kernel_rfl) (by kernel_rfl) (by kernel_rfl) (fun _ _ _ h => h) (yieldsIf_load_mid (by rfl) 39 _ rfl b (off + k * 17) rfl (pfx CA CN).toList _ (fun w h => range_below RIN.out h.1.out hbl) Tryd.underlying39 rfl sz39) (by assumption) ?_
          try simp only [List.getElem_toArray, List.getElem_cons_zero, List.getElem_cons_succ, Act.put, List.setIfInBounds_toArray, List.set_cons_zero, List.set_cons_succ]
          refine wpAnyH_take (i := 4) (oi := _) (v := .agg (u8s l)) rfl (by kernel_rfl) (by kernel_rfl) (by kernel_rfl) (fun _ _ _ h => h) (yieldsIf_load_mid (by rfl) 22 _ rfl w.heap.size 0 rfl (cl l) _ (fun w h => range_below RAD.out h.1.out hal) Tryd.underlying22 rfl szl) (by assumption) ?_
          try simp only [List.getElem_toArray, List.getElem_cons_zero, List.getElem_cons_succ, Act.put, List.setIfInBounds_toArray, List.set_cons_zero, List.set_cons_succ]
          refine wpAnyH_ready (rs := [5]) (by kernel_rfl) (by simp) ?_
          refine AllReadyH.cons (o := _) rfl (fun K hK => ?_) AllReadyH.nil
          go_simp
          refine (C24.out _).mono ?_; rintro e w2 ⟨rfl, hbx⟩; have sw2 := KEEP.out _ _ hHeld hbx; clear hbx hHeld
          go_wp2_with fail
          refine hK.out _ _ sw2 (fun hHeld => ?_)
          clear hK K
          try simp only [Act.put, List.setIfInBounds_toArray, List.set_cons_zero, List.set_cons_succ]
          refine wpAnyH_take (i := 6) (oi := _) (v := ?vNa6) rfl (by kernel_rfl) (by kernel_rfl) (by kernel_rfl) (fun _ _ _ h => h) (Or.inl ⟨by rfl, ?hyNa6⟩) (by assumption) ?restNa6
          case hyNa6 => (intro w hSw; (try dsimp only at hSw); go_split_ands; go_simp; try (with_reducible rfl))
          try simp only [List.getElem_toArray, List.getElem_cons_zero, List.getElem_cons_succ, Act.put, List.setIfInBounds_toArray, List.set_cons_zero, List.set_cons_succ]
          refine wpAnyH_done (by kernel_rfl) ?_ _
          go_wp2_with fail
          refine wp_region_held_drew (S := (fun w' => Hid (Below w1.heap.size w1 w') ∧ w'.cell? ⟨c, oc + k * 17 + 16, none⟩ = some (.int .i64 CN))) (by kernel_rfl) ?_ (fun hHeld => ?_)
          · exact ⟨hHeld.1.out.drew, hHeld.2⟩
          refine wpAnyH_take (i := 0) (oi := _) (v := ?vNb0) rfl (by kernel_rfl) (by kernel_rfl) (by kernel_rfl) (fun _ _ _ h => h) (Or.inl ⟨by rfl, ?hyNb0⟩) (by assumption) ?restNb0
          case hyNb0 => (intro w hSw; (try dsimp only at hSw); go_split_ands; go_simp; try (with_reducible rfl))
          try simp only [List.getElem_toArray, List.getElem_cons_zero, List.getElem_cons_succ, Act.put, List.setIfInBounds_toArray, List.set_cons_zero, List.set_cons_succ]
          refine wpAnyH_take (i := 1) (oi := _) (v := ?vNb1) rfl (by kernel_rfl) (by kernel_rfl) (by kernel_rfl) (fun _ _ _ h => h) (Or.inl ⟨by rfl, ?hyNb1⟩) (by assumption) ?restNb1
          case hyNb1 => (intro w hSw; (try dsimp only at hSw); go_split_ands; go_simp; try (with_reducible rfl))
          try simp only [List.getElem_toArray, List.getElem_cons_zero, List.getElem_cons_succ, Act.put, List.setIfInBounds_toArray, List.set_cons_zero, List.set_cons_succ]
          refine wpAnyH_take (i := 2) (oi := _) (v := ?vNb2) rfl (by kernel_rfl) (by kernel_rfl) (by kernel_rfl) (fun _ _ _ h => h) (Or.inl ⟨by rfl, ?hyNb2⟩) (by assumption) ?restNb2
          case hyNb2 => (intro w hSw; (try dsimp only at hSw); go_split_ands; go_simp; try (with_reducible rfl))
          try simp only [List.getElem_toArray, List.getElem_cons_zero, List.getElem_cons_succ, Act.put, List.setIfInBounds_toArray, List.set_cons_zero, List.set_cons_succ]
          refine wpAnyH_take (i := 3) (oi := _) (v := .agg (pfx CA CN)) rfl (by kernel_rfl) (by kernel_rfl) (by kernel_rfl) (fun _ _ _ h => h) (yieldsIf_load_mid (by rfl) 42 _ rfl c (oc + k * 17) rfl (pfx CA CN).toList _ (fun w h => range_below ROUT.out h.1.out hcl) Tryd.underlying42 rfl sz42) (by assumption) ?_
          try simp only [List.getElem_toArray, List.getElem_cons_zero, List.getElem_cons_succ, Act.put, List.setIfInBounds_toArray, List.set_cons_zero, List.set_cons_succ]
          refine wpAnyH_take (i := 5) (oi := _) (v := ?vNb5) rfl (by kernel_rfl) (by kernel_rfl) (by kernel_rfl) (fun _ _ _ h => h) (Or.inl ⟨by rfl, ?hyNb5⟩) (by assumption) ?restNb5
          case hyNb5 => (intro w hSw; (try dsimp only at hSw); go_split_ands; go_simp; try (with_reducible rfl))
          try simp only [List.getElem_toArray, List.getElem_cons_zero, List.getElem_cons_succ, Act.put, List.setIfInBounds_toArray, List.set_cons_zero, List.set_cons_succ]
          refine wpAnyH_take (i := 6) (oi := _) (v := ?vNb6) rfl (by kernel_rfl) (by kernel_rfl) (by kernel_rfl) (fun _ _ _ h => h) (Or.inl ⟨by rfl, ?hyNb6⟩) (by assumption) ?restNb6
          case hyNb6 => (intro w hSw; (try dsimp only at hSw); go_split_ands; go_simp; try (with_reducible rfl))
          try simp only [List.getElem_toArray, List.getElem_cons_zero, List.getElem_cons_succ, Act.put, List.setIfInBounds_toArray, List.set_cons_zero, List.set_cons_succ]
          refine wpAnyH_take (i := 7) (oi := _) (v := ?vNb7) rfl (by kernel_rfl) (by kernel_rfl) (by kernel_rfl) (fun _ _ _ h => h) (Or.inl ⟨by rfl, ?hyNb7⟩) (by assumption) ?restNb7
          case hyNb7 => (intro w hSw; (try dsimp only at hSw); go_split_ands; go_simp; try (with_reducible rfl))
          try simp only [List.getElem_toArray, List.getElem_cons_zero, List.getElem_cons_succ, Act.put, List.setIfInBounds_toArray, List.set_cons_zero, List.set_cons_succ]
          refine wpAnyH_take (i := 8) (oi := _) (v := .agg (pfx CA CN)) rfl (by kernel_rfl) (by kernel_rfl) (by kernel_rfl) (fun _ _ _ h => h) (yieldsIf_load_mid (by rfl) 39 _ rfl b (off + k * 17) rfl (pfx CA CN).toList _ (fun w h => range_below RIN.out h.1.out hbl) Tryd.underlying39 rfl sz39) (by assumption) ?_
          try simp only [List.getElem_toArray, List.getElem_cons_zero, List.getElem_cons_succ, Act.put, List.setIfInBounds_toArray, List.set_cons_zero, List.set_cons_succ]
          refine wpAnyH_ready (rs := [4]) (by kernel_rfl) (by simp) ?_
          refine AllReadyH.cons (o := _) rfl (fun K hK => ?_) AllReadyH.nil
          go_simp
          refine (C25.out _).mono ?_; rintro e w3 ⟨rfl, hbx⟩; have sw3 := KEEP.out _ _ hHeld hbx; clear hbx hHeld
          go_wp2_with fail
          refine hK.out _ _ sw3 (fun hHeld => ?_)
          clear hK K
          try simp only [Act.put, List.setIfInBounds_toArray, List.set_cons_zero, List.set_cons_succ]
          refine wpAnyH_ready (rs := [9]) (by kernel_rfl) (by simp) ?_
          refine AllReadyH.cons (o := _) rfl (fun K hK => ?_) AllReadyH.nil
          go_simp
          refine (C22.out _).mono ?_; rintro e w4 ⟨rfl, hbx⟩; have sw4 := KEEP.out _ _ hHeld hbx; clear hbx hHeld
          go_wp2_with fail
          refine hK.out _ _ sw4 (fun hHeld => ?_)
          clear hK K
          try simp only [Act.put, List.setIfInBounds_toArray, List.set_cons_zero, List.set_cons_succ]
          refine wpAnyH_take (i := 10) (oi := _) (v := ?vNb10) rfl (by kernel_rfl) (by kernel_rfl) (by kernel_rfl) (fun _ _ _ h => h) (Or.inl ⟨by rfl, ?hyNb10⟩) (by assumption) ?restNb10
          case hyNb10 => (intro w hSw; (try dsimp only at hSw); go_split_ands; go_simp; try (with_reducible rfl))
          try simp only [List.getElem_toArray, List.getElem_cons_zero, List.getElem_cons_succ, Act.put, List.setIfInBounds_toArray, List.set_cons_zero, List.set_cons_succ]
          refine wpAnyH_take (i := 11) (oi := _) (v := ?vNb11) rfl (by kernel_rfl) (by kernel_rfl) (by kernel_rfl) (fun _ _ _ h => h) (Or.inl ⟨by rfl, ?hyNb11⟩) (by assumption) ?restNb11
          case hyNb11 => (intro w hSw; (try dsimp only at hSw); go_split_ands; go_simp; try (with_reducible rfl))
          try simp only [List.getElem_toArray, List.getElem_cons_zero, List.getElem_cons_succ, Act.put, List.setIfInBounds_toArray, List.set_cons_zero, List.set_cons_succ]
          refine wpAnyH_take (i := 12) (oi := _) (v := ?vNb12) rfl (by kernel_rfl) (by kernel_rfl) (by kernel_rfl) (fun _ _ _ h => h) (Or.inl ⟨by rfl, ?hyNb12⟩) (by assumption) ?restNb12
          case hyNb12 => (intro w hSw; (try dsimp only at hSw); go_split_ands; go_simp; try (with_reducible rfl))
          try simp only [List.getElem_toArray, List.getElem_cons_zero, List.getElem_cons_succ, Act.put, List.setIfInBounds_toArray, List.set_cons_zero, List.set_cons_succ]
          refine wpAnyH_take (i := 13) (oi := _) (v := ?vNb13) rfl (by kernel_rfl) (by kernel_rfl) (by kernel_rfl) (fun _ _ _ h => h) (Or.inl ⟨by rfl, ?hyNb13⟩) (by assumption) ?restNb13
          case hyNb13 => (intro w hSw; (try dsimp only at hSw); go_split_ands; go_simp; try (with_reducible rfl))
          try simp only [List.getElem_toArray, List.getElem_cons_zero, List.getElem_cons_succ, Act.put, List.setIfInBounds_toArray, List.set_cons_zero, List.set_cons_succ]
          refine wpAnyH_take (i := 14) (oi := _) (v := ?vNb14) rfl (by kernel_rfl) (by kernel_rfl) (by kernel_rfl) (fun _ _ _ h => h) (Or.inl ⟨by rfl, ?hyNb14⟩) (by assumption) ?restNb14
          case hyNb14 => (intro w hSw; (try dsimp only at hSw); go_split_ands; go_simp; try (with_reducible rfl))
          try simp only [List.getElem_toArray, List.getElem_cons_zero, List.getElem_cons_succ, Act.put, List.setIfInBounds_toArray, List.set_cons_zero, List.set_cons_succ]
          refine wpAnyH_take (i := 15) (oi := _) (v := .agg (pfx CA CN)) rfl (by kernel_rfl) (by kernel_rfl) (by kernel_rfl) (fun _ _ _ h => h) (yieldsIf_load_mid (by rfl) 42 _ rfl c (oc + k * 17) rfl (pfx CA CN).toList _ (fun w h => range_below ROUT.out h.1.out hcl) Tryd.underlying42 rfl sz42) (by assumption) ?_
          try simp only [List.getElem_toArray, List.getElem_cons_zero, List.getElem_cons_succ, Act.put, List.setIfInBounds_toArray, List.set_cons_zero, List.set_cons_succ]
          refine wpAnyH_take (i := 16) (oi := _) (v := .agg (u8s l)) rfl (by kernel_rfl) (by kernel_rfl) (by kernel_rfl) (fun _ _ _ h => h) (yieldsIf_load_mid (by rfl) 22 _ rfl w.heap.size 0 rfl (cl l) _ (fun w h => range_below RAD.out h.1.out hal) Tryd.underlying22 rfl szl) (by assumption) ?_
          try simp only [List.getElem_toArray, List.getElem_cons_zero, List.getElem_cons_succ, Act.put, List.setIfInBounds_toArray, List.set_cons_zero, List.set_cons_succ]
          refine wpAnyH_take (i := 18) (oi := _) (v := ?vNb18) rfl (by kernel_rfl) (by kernel_rfl) (by kernel_rfl) (fun _ _ _ h => h) (Or.inl ⟨by rfl, ?hyNb18⟩) (by assumption) ?restNb18
          case hyNb18 => (intro w hSw; (try dsimp only at hSw); go_split_ands; go_simp; try (with_reducible rfl))
          try simp only [List.getElem_toArray, List.getElem_cons_zero, List.getElem_cons_succ, Act.put, List.setIfInBounds_toArray, List.set_cons_zero, List.set_cons_succ]
          refine wpAnyH_ready (rs := [17]) (by kernel_rfl) (by simp) ?_
          refine AllReadyH.cons (o := _) rfl (fun K hK => ?_) AllReadyH.nil
          go_simp
          refine (C26.out _).mono ?_; rintro e w5 ⟨rfl, hbx⟩; have sw5 := KEEP.out _ _ hHeld hbx; clear hbx hHeld
          go_wp2_with fail
          refine hK.out _ _ sw5 (fun hHeld => ?_)
          clear hK K
          try simp only [Act.put, List.setIfInBounds_toArray, List.set_cons_zero, List.set_cons_succ]
          refine wpAnyH_take (i := 19) (oi := _) (v := ?vNb19) rfl (by kernel_rfl) (by kernel_rfl) (by kernel_rfl) (fun _ _ _ h => h) (Or.inl ⟨by rfl, ?hyNb19⟩) (by assumption) ?restNb19
          case hyNb19 => (intro w hSw; (try dsimp only at hSw); go_split_ands; go_simp; try (with_reducible rfl))
          try simp only [List.getElem_toArray, List.getElem_cons_zero, List.getElem_cons_succ, Act.put, List.setIfInBounds_toArray, List.set_cons_zero, List.set_cons_succ]
          refine wpAnyH_take (i := 20) (oi := _) (v := ?vNb20) rfl (by kernel_rfl) (by kernel_rfl) (by kernel_rfl) (fun _ _ _ h => h) (Or.inl ⟨by rfl, ?hyNb20⟩) (by assumption) ?restNb20
          case hyNb20 => (intro w hSw; (try dsimp only at hSw); go_split_ands; go_simp; try (with_reducible rfl))
          try simp only [List.getElem_toArray, List.getElem_cons_zero, List.getElem_cons_succ, Act.put, List.setIfInBounds_toArray, List.set_cons_zero, List.set_cons_succ]
          refine wpAnyH_done (by kernel_rfl) ?_ _
          have hci : w5.cell? ⟨b, off + k * 17 + 16, none⟩ = some (.int .i64 CN) := (hHeld.1.out.cell (p := ⟨b, off + k * 17 + 16, none⟩) hbl).trans HCI.out
          go_wp2_with fail
          clear hci
          refine wp_region_held_drew (S := (fun w' => Hid (Below w1.heap.size w1 w') ∧ w'.cell? ⟨c, oc + k * 17 + 16, none⟩ = some (.int .i64 CN))) (by kernel_rfl) ?_ (fun hHeld => ?_)
          · exact ⟨hHeld.1.out.drew, hHeld.2⟩
          refine wpAnyH_take (i := 0) (oi := _) (v := .agg (u8s l)) rfl (by kernel_rfl) (by kernel_rfl) (by kernel_rfl) (fun _ _ _ h => h) (yieldsIf_load_mid (by rfl) 22 _ rfl w.heap.size 0 rfl (cl l) _ (fun w h => range_below RAD.out h.1.out hal) Tryd.underlying22 rfl szl) (by assumption) ?_
          try simp only [List.getElem_toArray, List.getElem_cons_zero, List.getElem_cons_succ, Act.put, List.setIfInBounds_toArray, List.set_cons_zero, List.set_cons_succ]
          refine wpAnyH_take (i := 1) (oi := _) (v := ?vNc1) rfl (by kernel_rfl) (by kernel_rfl) (by kernel_rfl) (fun _ _ _ h => h) (Or.inl ⟨by rfl, ?hyNc1⟩) (by assumption) ?restNc1
          case hyNc1 => (intro w hSw; (try dsimp only at hSw); go_split_ands; go_simp; try (with_reducible rfl))
          try simp only [List.getElem_toArray, List.getElem_cons_zero, List.getElem_cons_succ, Act.put, List.setIfInBounds_toArray, List.set_cons_zero, List.set_cons_succ]
          refine wpAnyH_take (i := 2) (oi := _) (v := ?vNc2) rfl (by kernel_rfl) (by kernel_rfl) (by kernel_rfl) (fun _ _ _ h => h) (Or.inl ⟨by rfl, ?hyNc2⟩) (by assumption) ?restNc2
          case hyNc2 => (intro w hSw; (try dsimp only at hSw); go_split_ands; go_simp; try (with_reducible rfl))
          try simp only [List.getElem_toArray, List.getElem_cons_zero, List.getElem_cons_succ, Act.put, List.setIfInBounds_toArray, List.set_cons_zero, List.set_cons_succ]
          refine wpAnyH_take (i := 3) (oi := _) (v := ?vNc3) rfl (by kernel_rfl) (by kernel_rfl) (by kernel_rfl) (fun _ _ _ h => h) (Or.inl ⟨by rfl, ?hyNc3⟩) (by assumption) ?restNc3
          case hyNc3 => (intro w hSw; (try dsimp only at hSw); go_split_ands; go_simp; try (with_reducible rfl))
          try simp only [List.getElem_toArray, List.getElem_cons_zero, List.getElem_cons_succ, Act.put, List.setIfInBounds_toArray, List.set_cons_zero, List.set_cons_succ]
          refine wpAnyH_take (i := 4) (oi := _) (v := ?vNc4) rfl (by kernel_rfl) (by kernel_rfl) (by kernel_rfl) (fun _ _ _ h => h) (Or.inl ⟨by rfl, ?hyNc4⟩) (by assumption) ?restNc4
          case hyNc4 => (intro w hSw; (try dsimp only at hSw); go_split_ands; go_simp; try (with_reducible rfl))
          try simp only [List.getElem_toArray, List.getElem_cons_zero, List.getElem_cons_succ, Act.put, List.setIfInBounds_toArray, List.set_cons_zero, List.set_cons_succ]
          refine wpAnyH_take (i := 5) (oi := _) (v := ?vNc5) rfl (by kernel_rfl) (by kernel_rfl) (by kernel_rfl) (fun _ _ _ h => h) (Or.inl ⟨by rfl, ?hyNc5⟩) (by assumption) ?restNc5
          case hyNc5 => (intro w hSw; (try dsimp only at hSw); go_split_ands; go_simp; try (with_reducible rfl))
          try simp only [List.getElem_toArray, List.getElem_cons_zero, List.getElem_cons_succ, Act.put, List.setIfInBounds_toArray, List.set_cons_zero, List.set_cons_succ]
          refine wpAnyH_ready (rs := [6, 10]) (by kernel_rfl) (by simp) ?_
          refine AllReadyH.cons (o := _) rfl (fun K hK => ?_) (AllReadyH.cons (o := _) rfl (fun K hK => ?_) AllReadyH.nil)
          · go_simp
            refine (C27.out _).mono ?_; rintro e w6 ⟨rfl, hbx⟩; have sw6 := KEEP.out _ _ hHeld hbx; clear hbx hHeld
            go_wp2_with fail
            refine hK.out _ _ sw6 (fun hHeld => ?_)
            clear hK K
            try simp only [List.getElem_toArray, List.getElem_cons_zero, List.getElem_cons_succ, Act.put, List.setIfInBounds_toArray, List.set_cons_zero, List.set_cons_succ]
            refine wpAnyH_take (i := 7) (oi := _) (v := ?vNe7) rfl (by kernel_rfl) (by kernel_rfl) (by kernel_rfl) (fun _ _ _ h => h) (Or.inl ⟨by rfl, ?hyNe7⟩) (by assumption) ?restNe7
            case hyNe7 => (intro w hSw; (try dsimp only at hSw); go_split_ands; go_simp; try (with_reducible rfl))
            try simp only [List.getElem_toArray, List.getElem_cons_zero, List.getElem_cons_succ, Act.put, List.setIfInBounds_toArray, List.set_cons_zero, List.set_cons_succ]
            refine wpAnyH_take (i := 8) (oi := _) (v := ?vNe8) rfl (by kernel_rfl) (by kernel_rfl) (by kernel_rfl) (fun _ _ _ h => h) (Or.inl ⟨by rfl, ?hyNe8⟩) (by assumption) ?restNe8
            case hyNe8 => (intro w hSw; (try dsimp only at hSw); go_split_ands; go_simp; try (with_reducible rfl))
            try simp only [List.getElem_toArray, List.getElem_cons_zero, List.getElem_cons_succ, Act.put, List.setIfInBounds_toArray, List.set_cons_zero, List.set_cons_succ]
            refine wpAnyH_take (i := 9) (oi := _) (v := ?vNe9) rfl (by kernel_rfl) (by kernel_rfl) (by kernel_rfl) (fun _ _ _ h => h) (Or.inl ⟨by rfl, ?hyNe9⟩) (by assumption) ?restNe9
            case hyNe9 => (intro w hSw; (try dsimp only at hSw); go_split_ands; go_simp; try (with_reducible rfl))
            try simp only [List.getElem_toArray, List.getElem_cons_zero, List.getElem_cons_succ, Act.put, List.setIfInBounds_toArray, List.set_cons_zero, List.set_cons_succ]
            refine wpAnyH_ready (rs := [10]) (by kernel_rfl) (by simp) ?_
            refine AllReadyH.cons (o := _) rfl (fun K hK => ?_) AllReadyH.nil
            go_simp
            have hBx : Hid (Below w1.heap.size w1 (w6.alloc (.cells (pfx zeros 0) 42))) := (KEEP.out _ _ hHeld (below_new w6 _)).1
            have hGe : w1.heap.size ≤ w6.heap.size := hHeld.1.out.size
            refine hK.out _ _ (KEEP0.out _ hBx.out) (fun hHeld2 => ?_)
            clear hHeld
            clear hK K
            try simp only [List.getElem_toArray, List.getElem_cons_zero, List.getElem_cons_succ, Act.put, List.setIfInBounds_toArray, List.set_cons_zero, List.set_cons_succ]
            refine wpAnyH_ready (rs := [11]) (by kernel_rfl) (by simp) ?_
            refine AllReadyH.cons (o := _) rfl (fun K hK => ?_) AllReadyH.nil
            refine step_st42 rfl _ _ rfl w6.heap.size CA CN hCA.1 rfl rfl 42 _ (by rfl) (Row.new w6 42 (pfx zeros 0)) ?_
            refine hK.out _ _ (KEEP0.out _ (below_setRow hBx.out hGe (pfx CA CN))) (fun hHeld3 => ?_)
            have RN : Hid (Row ((w6.alloc (.cells (pfx zeros 0) 42)).setRow w6.heap.size (pfx CA CN)) w6.heap.size 42 (pfx CA CN)) := ((Row.new w6 42 (pfx zeros 0))).setRow _
            clear hBx hGe
            generalize ((w6.alloc (.cells (pfx zeros 0) 42)).setRow w6.heap.size (pfx CA CN)) = w7 at *
            clear hK K
            try simp only [List.getElem_toArray, List.getElem_cons_zero, List.getElem_cons_succ, Act.put, List.setIfInBounds_toArray, List.set_cons_zero, List.set_cons_succ]
            refine wpAnyH_take (i := 12) (oi := _) (v := ?vNf12) rfl (by kernel_rfl) (by kernel_rfl) (by kernel_rfl) (fun _ _ _ h => h) (Or.inl ⟨by rfl, ?hyNf12⟩) (by assumption) ?restNf12
            case hyNf12 => (intro w hSw; (try dsimp only at hSw); go_split_ands; go_simp; try (with_reducible rfl))
            try simp only [List.getElem_toArray, List.getElem_cons_zero, List.getElem_cons_succ, Act.put, List.setIfInBounds_toArray, List.set_cons_zero, List.set_cons_succ]
            refine wpAnyH_done (by kernel_rfl) ?_ _
            go_wp2_with fail
            refine wp_region_held_drew (S := (fun w' => Hid (Below w1.heap.size w1 w') ∧ w'.rangeAt w6.heap.size 0 (pfx CA CN).toList)) (by kernel_rfl) ?_ (fun hHeld => ?_)
            · exact ⟨hHeld3.1.out.drew, fun j v hv => RN.out.part j v (by simpa using hv)⟩
            refine wpAnyH_take (i := 0) (oi := _) (v := ?vNi0) rfl (by kernel_rfl) (by kernel_rfl) (by kernel_rfl) (fun _ _ _ h => h) (Or.inl ⟨by rfl, ?hyNi0⟩) (by assumption) ?restNi0
            case hyNi0 => (intro w hSw; (try dsimp only at hSw); go_split_ands; go_simp; try (with_reducible rfl))
            try simp only [List.getElem_toArray, List.getElem_cons_zero, List.getElem_cons_succ, Act.put, List.setIfInBounds_toArray, List.set_cons_zero, List.set_cons_succ]
            refine wpAnyH_take (i := 1) (oi := _) (v := ?vNi1) rfl (by kernel_rfl) (by kernel_rfl) (by kernel_rfl) (fun _ _ _ h => h) (Or.inl ⟨by rfl, ?hyNi1⟩) (by assumption) ?restNi1
            case hyNi1 => (intro w hSw; (try dsimp only at hSw); go_split_ands; go_simp; try (with_reducible rfl))
            try simp only [List.getElem_toArray, List.getElem_cons_zero, List.getElem_cons_succ, Act.put, List.setIfInBounds_toArray, List.set_cons_zero, List.set_cons_succ]
            refine wpAnyH_take (i := 2) (oi := _) (v := ?vNi2) rfl (by kernel_rfl) (by kernel_rfl) (by kernel_rfl) (fun _ _ _ h => h) (Or.inl ⟨by rfl, ?hyNi2⟩) (by assumption) ?restNi2
            case hyNi2 => (intro w hSw; (try dsimp only at hSw); go_split_ands; go_simp; try (with_reducible rfl))
            try simp only [List.getElem_toArray, List.getElem_cons_zero, List.getElem_cons_succ, Act.put, List.setIfInBounds_toArray, List.set_cons_zero, List.set_cons_succ]
            refine wpAnyH_take (i := 3) (oi := _) (v := ?vNi3) rfl (by kernel_rfl) (by kernel_rfl) (by kernel_rfl) (fun _ _ _ h => h) (Or.inl ⟨by rfl, ?hyNi3⟩) (by assumption) ?restNi3
            case hyNi3 => (intro w hSw; (try dsimp only at hSw); go_split_ands; go_simp; try (with_reducible rfl))
            try simp only [List.getElem_toArray, List.getElem_cons_zero, List.getElem_cons_succ, Act.put, List.setIfInBounds_toArray, List.set_cons_zero, List.set_cons_succ]
            refine wpAnyH_take (i := 4) (oi := _) (v := ?vNi4) rfl (by kernel_rfl) (by kernel_rfl) (by kernel_rfl) (fun _ _ _ h => h) (Or.inl ⟨by rfl, ?hyNi4⟩) (by assumption) ?restNi4
            case hyNi4 => (intro w hSw; (try dsimp only at hSw); go_split_ands; go_simp; try (with_reducible rfl))
            try simp only [List.getElem_toArray, List.getElem_cons_zero, List.getElem_cons_succ, Act.put, List.setIfInBounds_toArray, List.set_cons_zero, List.set_cons_succ]
            refine wpAnyH_take (i := 5) (oi := _) (v := .agg (pfx CA CN)) rfl (by kernel_rfl) (by kernel_rfl) (by kernel_rfl) (fun _ _ _ h => h) (yieldsIf_load_mid (by rfl) 42 _ rfl w6.heap.size 0 rfl (pfx CA CN).toList _ (fun w h => h.2) Tryd.underlying42 rfl sz42) (by assumption) ?_
            try simp only [List.getElem_toArray, List.getElem_cons_zero, List.getElem_cons_succ, Act.put, List.setIfInBounds_toArray, List.set_cons_zero, List.set_cons_succ]
            refine wpAnyH_take (i := 6) (oi := _) (v := ?vNi6) rfl (by kernel_rfl) (by kernel_rfl) (by kernel_rfl) (fun _ _ _ h => h) (Or.inl ⟨by rfl, ?hyNi6⟩) (by assumption) ?restNi6
            case hyNi6 => (intro w hSw; (try dsimp only at hSw); go_split_ands; go_simp; try (with_reducible rfl))
            try simp only [List.getElem_toArray, List.getElem_cons_zero, List.getElem_cons_succ, Act.put, List.setIfInBounds_toArray, List.set_cons_zero, List.set_cons_succ]
            refine wpAnyH_take (i := 7) (oi := _) (v := ?vNi7) rfl (by kernel_rfl) (by kernel_rfl) (by kernel_rfl) (fun _ _ _ h => h) (Or.inl ⟨by rfl, ?hyNi7⟩) (by assumption) ?restNi7
            case hyNi7 => (intro w hSw; (try dsimp only at hSw); go_split_ands; go_simp; try (with_reducible rfl))
            try simp only [List.getElem_toArray, List.getElem_cons_zero, List.getElem_cons_succ, Act.put, List.setIfInBounds_toArray, List.set_cons_zero, List.set_cons_succ]
            refine wpAnyH_take (i := 8) (oi := _) (v := ?vNi8) rfl (by kernel_rfl) (by kernel_rfl) (by kernel_rfl) (fun _ _ _ h => h) (Or.inl ⟨by rfl, ?hyNi8⟩) (by assumption) ?restNi8
            case hyNi8 => (intro w hSw; (try dsimp only at hSw); go_split_ands; go_simp; try (with_reducible rfl))
            try simp only [List.getElem_toArray, List.getElem_cons_zero, List.getElem_cons_succ, Act.put, List.setIfInBounds_toArray, List.set_cons_zero, List.set_cons_succ]
            refine wpAnyH_take (i := 9) (oi := _) (v := .agg (pfx CA CN)) rfl (by kernel_rfl) (by kernel_rfl) (by kernel_rfl) (fun _ _ _ h => h) (yieldsIf_load_mid (by rfl) 42 _ rfl c (oc + k * 17) rfl (pfx CA CN).toList _ (fun w h => range_below ROUT.out h.1.out hcl) Tryd.underlying42 rfl sz42) (by assumption) ?_
            try simp only [List.getElem_toArray, List.getElem_cons_zero, List.getElem_cons_succ, Act.put, List.setIfInBounds_toArray, List.set_cons_zero, List.set_cons_succ]
            refine wpAnyH_take (i := 10) (oi := _) (v := ?vNi10) rfl (by kernel_rfl) (by kernel_rfl) (by kernel_rfl) (fun _ _ _ h => h) (Or.inl ⟨by rfl, ?hyNi10⟩) (by assumption) ?restNi10
            case hyNi10 => (intro w hSw; (try dsimp only at hSw); go_split_ands; go_simp; try (with_reducible rfl))
            try simp only [List.getElem_toArray, List.getElem_cons_zero, List.getElem_cons_succ, Act.put, List.setIfInBounds_toArray, List.set_cons_zero, List.set_cons_succ]
            refine wpAnyH_take (i := 11) (oi := _) (v := ?vNi11) rfl (by kernel_rfl) (by kernel_rfl) (by kernel_rfl) (fun _ _ _ h => h) (Or.inl ⟨by rfl, ?hyNi11⟩) (by assumption) ?restNi11
            case hyNi11 => (intro w hSw; (try dsimp only at hSw); go_split_ands; go_simp; try (with_reducible rfl))
            try simp only [List.getElem_toArray, List.getElem_cons_zero, List.getElem_cons_succ, Act.put, List.setIfInBounds_toArray, List.set_cons_zero, List.set_cons_succ]
            refine wpAnyH_take (i := 12) (oi := _) (v := ?vNi12) rfl (by kernel_rfl) (by kernel_rfl) (by kernel_rfl) (fun _ _ _ h => h) (Or.inl ⟨by rfl, ?hyNi12⟩) (by assumption) ?restNi12
            case hyNi12 => (intro w hSw; (try dsimp only at hSw); go_split_ands; go_simp; try (with_reducible rfl))
            try simp only [List.getElem_toArray, List.getElem_cons_zero, List.getElem_cons_succ, Act.put, List.setIfInBounds_toArray, List.set_cons_zero, List.set_cons_succ]
            refine wpAnyH_done (by kernel_rfl) ?_ _
            go_wp2_with fail
            go_roundw
            case rel => exact ⟨k + 1, pl, mo, by omega, rfl, rfl, by go_num, HN3, hHeld.1⟩
            case measure => simp [intOf]; omega
          · go_simp
            have hGe : w1.heap.size ≤ w5.heap.size := hHeld.1.out.size
            have RN0 : Hid (Row (w5.drew.alloc (.cells (pfx zeros 0) 42)) w5.heap.size 42 (pfx zeros 0)) := Row.new w5.drew 42 _
            refine hK.out _ _ (KEEP.out _ _ hHeld (below_new w5.drew _)) (fun hHeld2 => ?_)
            clear hK K hHeld
            have hHeld := hHeld2
            clear hHeld2
            try simp only [List.getElem_toArray, List.getElem_cons_zero, List.getElem_cons_succ, Act.put, List.setIfInBounds_toArray, List.set_cons_zero, List.set_cons_succ]
            refine wpAnyH_ready (rs := [6]) (by kernel_rfl) (by simp) ?_
            refine AllReadyH.cons (o := _) rfl (fun K hK => ?_) AllReadyH.nil
            go_simp
            refine (C27.out _).mono ?_; rintro e w6 ⟨rfl, hbx⟩; have sw6 := KEEP.out _ _ hHeld hbx; have RN1 : Hid (Row w6 w5.heap.size 42 (pfx zeros 0)) := RN0.out.below hbx RN0.out.lt; clear hbx hHeld RN0
            go_wp2_with fail
            refine hK.out _ _ sw6 (fun hHeld => ?_)
            have hBx : Hid (Below w1.heap.size w1 w6) := hHeld.1
            clear hK K
            try simp only [List.getElem_toArray, List.getElem_cons_zero, List.getElem_cons_succ, Act.put, List.setIfInBounds_toArray, List.set_cons_zero, List.set_cons_succ]
            refine wpAnyH_take (i := 7) (oi := _) (v := ?vNg7) rfl (by kernel_rfl) (by kernel_rfl) (by kernel_rfl) (fun _ _ _ h => h) (Or.inl ⟨by rfl, ?hyNg7⟩) (by assumption) ?restNg7
            case hyNg7 => (intro w hSw; (try dsimp only at hSw); go_split_ands; go_simp; try (with_reducible rfl))
            try simp only [List.getElem_toArray, List.getElem_cons_zero, List.getElem_cons_succ, Act.put, List.setIfInBounds_toArray, List.set_cons_zero, List.set_cons_succ]
            refine wpAnyH_take (i := 8) (oi := _) (v := ?vNg8) rfl (by kernel_rfl) (by kernel_rfl) (by kernel_rfl) (fun _ _ _ h => h) (Or.inl ⟨by rfl, ?hyNg8⟩) (by assumption) ?restNg8
            case hyNg8 => (intro w hSw; (try dsimp only at hSw); go_split_ands; go_simp; try (with_reducible rfl))
            try simp only [List.getElem_toArray, List.getElem_cons_zero, List.getElem_cons_succ, Act.put, List.setIfInBounds_toArray, List.set_cons_zero, List.set_cons_succ]
            refine wpAnyH_take (i := 9) (oi := _) (v := ?vNg9) rfl (by kernel_rfl) (by kernel_rfl) (by kernel_rfl) (fun _ _ _ h => h) (Or.inl ⟨by rfl, ?hyNg9⟩) (by assumption) ?restNg9
            case hyNg9 => (intro w hSw; (try dsimp only at hSw); go_split_ands; go_simp; try (with_reducible rfl))
            try simp only [List.getElem_toArray, List.getElem_cons_zero, List.getElem_cons_succ, Act.put, List.setIfInBounds_toArray, List.set_cons_zero, List.set_cons_succ]
            refine wpAnyH_ready (rs := [11]) (by kernel_rfl) (by simp) ?_
            refine AllReadyH.cons (o := _) rfl (fun K hK => ?_) AllReadyH.nil
            refine step_st42 rfl _ _ rfl w5.heap.size CA CN hCA.1 rfl rfl 42 _ (by rfl) RN1.out ?_
            refine hK.out _ _ (KEEP0.out _ (below_setRow hBx.out hGe (pfx CA CN))) (fun hHeld3 => ?_)
            have RN : Hid (Row (w6.setRow w5.heap.size (pfx CA CN)) w5.heap.size 42 (pfx CA CN)) := (RN1.out).setRow _
            clear hBx hGe
            generalize (w6.setRow w5.heap.size (pfx CA CN)) = w7 at *
            clear hK K
            try simp only [List.getElem_toArray, List.getElem_cons_zero, List.getElem_cons_succ, Act.put, List.setIfInBounds_toArray, List.set_cons_zero, List.set_cons_succ]
            refine wpAnyH_take (i := 12) (oi := _) (v := ?vNh12) rfl (by kernel_rfl) (by kernel_rfl) (by kernel_rfl) (fun _ _ _ h => h) (Or.inl ⟨by rfl, ?hyNh12⟩) (by assumption) ?restNh12
            case hyNh12 => (intro w hSw; (try dsimp only at hSw); go_split_ands; go_simp; try (with_reducible rfl))
            try simp only [List.getElem_toArray, List.getElem_cons_zero, List.getElem_cons_succ, Act.put, List.setIfInBounds_toArray, List.set_cons_zero, List.set_cons_succ]
            refine wpAnyH_done (by kernel_rfl) ?_ _
            go_wp2_with fail
            refine wp_region_held_drew (S := (fun w' => Hid (Below w1.heap.size w1 w') ∧ w'.rangeAt w5.heap.size 0 (pfx CA CN).toList)) (by kernel_rfl) ?_ (fun hHeld => ?_)
            · exact ⟨hHeld3.1.out.drew, fun j v hv => RN.out.part j v (by simpa using hv)⟩
            refine wpAnyH_take (i := 0) (oi := _) (v := ?vNj0) rfl (by kernel_rfl) (by kernel_rfl) (by kernel_rfl) (fun _ _ _ h => h) (Or.inl ⟨by rfl, ?hyNj0⟩) (by assumption) ?restNj0
            case hyNj0 => (intro w hSw; (try dsimp only at hSw); go_split_ands; go_simp; try (with_reducible rfl))
            try simp only [List.getElem_toArray, List.getElem_cons_zero, List.getElem_cons_succ, Act.put, List.setIfInBounds_toArray, List.set_cons_zero, List.set_cons_succ]
            refine wpAnyH_take (i := 1) (oi := _) (v := ?vNj1) rfl (by kernel_rfl) (by kernel_rfl) (by kernel_rfl) (fun _ _ _ h => h) (Or.inl ⟨by rfl, ?hyNj1⟩) (by assumption) ?restNj1
            case hyNj1 => (intro w hSw; (try dsimp only at hSw); go_split_ands; go_simp; try (with_reducible rfl))
            try simp only [List.getElem_toArray, List.getElem_cons_zero, List.getElem_cons_succ, Act.put, List.setIfInBounds_toArray, List.set_cons_zero, List.set_cons_succ]
            refine wpAnyH_take (i := 2) (oi := _) (v := ?vNj2) rfl (by kernel_rfl) (by kernel_rfl) (by kernel_rfl) (fun _ _ _ h => h) (Or.inl ⟨by rfl, ?hyNj2⟩) (by assumption) ?restNj2
            case hyNj2 => (intro w hSw; (try dsimp only at hSw); go_split_ands; go_simp; try (with_reducible rfl))
            try simp only [List.getElem_toArray, List.getElem_cons_zero, List.getElem_cons_succ, Act.put, List.setIfInBounds_toArray, List.set_cons_zero, List.set_cons_succ]
            refine wpAnyH_take (i := 3) (oi := _) (v := ?vNj3) rfl (by kernel_rfl) (by kernel_rfl) (by kernel_rfl) (fun _ _ _ h => h) (Or.inl ⟨by rfl, ?hyNj3⟩) (by assumption) ?restNj3
            case hyNj3 => (intro w hSw; (try dsimp only at hSw); go_split_ands; go_simp; try (with_reducible rfl))
            try simp only [List.getElem_toArray, List.getElem_cons_zero, List.getElem_cons_succ, Act.put, List.setIfInBounds_toArray, List.set_cons_zero, List.set_cons_succ]
            refine wpAnyH_take (i := 4) (oi := _) (v := ?vNj4) rfl (by kernel_rfl) (by kernel_rfl) (by kernel_rfl) (fun _ _ _ h => h) (Or.inl ⟨by rfl, ?hyNj4⟩) (by assumption) ?restNj4
            case hyNj4 => (intro w hSw; (try dsimp only at hSw); go_split_ands; go_simp; try (with_reducible rfl))
            try simp only [List.getElem_toArray, List.getElem_cons_zero, List.getElem_cons_succ, Act.put, List.setIfInBounds_toArray, List.set_cons_zero, List.set_cons_succ]
            refine wpAnyH_take (i := 5) (oi := _) (v := .agg (pfx CA CN)) rfl (by kernel_rfl) (by kernel_rfl) (by kernel_rfl) (fun _ _ _ h => h) (yieldsIf_load_mid (by rfl) 42 _ rfl w5.heap.size 0 rfl (pfx CA CN).toList _ (fun w h => h.2) Tryd.underlying42 rfl sz42) (by assumption) ?_
            try simp only [List.getElem_toArray, List.getElem_cons_zero, List.getElem_cons_succ, Act.put, List.setIfInBounds_toArray, List.set_cons_zero, List.set_cons_succ]
            refine wpAnyH_take (i := 6) (oi := _) (v := ?vNj6) rfl (by kernel_rfl) (by kernel_rfl) (by kernel_rfl) (fun _ _ _ h => h) (Or.inl ⟨by rfl, ?hyNj6⟩) (by assumption) ?restNj6
            case hyNj6 => (intro w hSw; (try dsimp only at hSw); go_split_ands; go_simp; try (with_reducible rfl))
            try simp only [List.getElem_toArray, List.getElem_cons_zero, List.getElem_cons_succ, Act.put, List.setIfInBounds_toArray, List.set_cons_zero, List.set_cons_succ]
            refine wpAnyH_take (i := 7) (oi := _) (v := ?vNj7) rfl (by kernel_rfl) (by kernel_rfl) (by kernel_rfl) (fun _ _ _ h => h) (Or.inl ⟨by rfl, ?hyNj7⟩) (by assumption) ?restNj7
            case hyNj7 => (intro w hSw; (try dsimp only at hSw); go_split_ands; go_simp; try (with_reducible rfl))
            try simp only [List.getElem_toArray, List.getElem_cons_zero, List.getElem_cons_succ, Act.put, List.setIfInBounds_toArray, List.set_cons_zero, List.set_cons_succ]
            refine wpAnyH_take (i := 8) (oi := _) (v := ?vNj8) rfl (by kernel_rfl) (by kernel_rfl) (by kernel_rfl) (fun _ _ _ h => h) (Or.inl ⟨by rfl, ?hyNj8⟩) (by assumption) ?restNj8
            case hyNj8 => (intro w hSw; (try dsimp only at hSw); go_split_ands; go_simp; try (with_reducible rfl))
            try simp only [List.getElem_toArray, List.getElem_cons_zero, List.getElem_cons_succ, Act.put, List.setIfInBounds_toArray, List.set_cons_zero, List.set_cons_succ]
            refine wpAnyH_take (i := 9) (oi := _) (v := .agg (pfx CA CN)) rfl (by kernel_rfl) (by kernel_rfl) (by kernel_rfl) (fun _ _ _ h => h) (yieldsIf_load_mid (by rfl) 42 _ rfl c (oc + k * 17) rfl (pfx CA CN).toList _ (fun w h => range_below ROUT.out h.1.out hcl) Tryd.underlying42 rfl sz42) (by assumption) ?_
            try simp only [List.getElem_toArray, List.getElem_cons_zero, List.getElem_cons_succ, Act.put, List.setIfInBounds_toArray, List.set_cons_zero, List.set_cons_succ]
            refine wpAnyH_take (i := 10) (oi := _) (v := ?vNj10) rfl (by kernel_rfl) (by kernel_rfl) (by kernel_rfl) (fun _ _ _ h => h) (Or.inl ⟨by rfl, ?hyNj10⟩) (by assumption) ?restNj10
            case hyNj10 => (intro w hSw; (try dsimp only at hSw); go_split_ands; go_simp; try (with_reducible rfl))
            try simp only [List.getElem_toArray, List.getElem_cons_zero, List.getElem_cons_succ, Act.put, List.setIfInBounds_toArray, List.set_cons_zero, List.set_cons_succ]
            refine wpAnyH_take (i := 11) (oi := _) (v := ?vNj11) rfl (by kernel_rfl) (by kernel_rfl) (by kernel_rfl) (fun _ _ _ h => h) (Or.inl ⟨by rfl, ?hyNj11⟩) (by assumption) ?restNj11
            case hyNj11 => (intro w hSw; (try dsimp only at hSw); go_split_ands; go_simp; try (with_reducible rfl))
            try simp only [List.getElem_toArray, List.getElem_cons_zero, List.getElem_cons_succ, Act.put, List.setIfInBounds_toArray, List.set_cons_zero, List.set_cons_succ]
            refine wpAnyH_take (i := 12) (oi := _) (v := ?vNj12) rfl (by kernel_rfl) (by kernel_rfl) (by kernel_rfl) (fun _ _ _ h => h) (Or.inl ⟨by rfl, ?hyNj12⟩) (by assumption) ?restNj12
            case hyNj12 => (intro w hSw; (try dsimp only at hSw); go_split_ands; go_simp; try (with_reducible rfl))
            try simp only [List.getElem_toArray, List.getElem_cons_zero, List.getElem_cons_succ, Act.put, List.setIfInBounds_toArray, List.set_cons_zero, List.set_cons_succ]
            refine wpAnyH_done (by kernel_rfl) ?_ _
            go_wp2_with fail
            go_roundw
            case rel => exact ⟨k + 1, pl, mo, by omega, rfl, rfl, by go_num, HN3, hHeld.1⟩
            case measure => simp [intOf]; omega
    · obtain rfl : k = m := by omega
      have i1 : ¬ (k : Int) < (k : Int) := by omega
      have HO3 : Hid (PfxsAt wr ao k co z2) := HOUT.out.below HB.out
      have C28 : Hid (Calls Tryd.prog 28 #[.agg (u8s l), .slice ao k co] wr fun e w'' => e = .returned (.tuple #[.int .i64 (lngP l z2 k), .int .i64 (lngE l z2 k)]) ∧ Below wr.heap.size wr w'') := longest_any l ao k co z2 wr ha HO3.out
      have HLP : Hid (lngP l z2 k = if mo < 0 then 0 else pl) := by rw [Hid, lngP, HK.out]
      have HLE : Hid (lngE l z2 k = if mo < 0 then 8 else 0) := by rw [Hid, lngE, HK.out]
      have C27 : Hid (∀ w' : World, Calls Tryd.prog 27 #[.agg (u8s l), .int .i64 n] w' fun e w'' => e = .returned (.tuple #[.agg (pfx (cutA n l) (cutN n)), .int .i64 (cutE n)]) ∧ Below w'.heap.size w' w'') := fun w' => cutP_any l n w' ha
      have hDA : Adr (cutA n l) := adr_cutA ha
      have RA7 : Hid (Row wr w.heap.size 22 (u8s l)) := RA1.out.below HB.out hal
      have B7 : Hid (Below w.heap.size w wr) := B1.out.trans (HB.out.mono B1.out.size)
      have HD : Hid ((bitsB n = true ∧ cutA n l = cutL n l ∧ cutN n = n ∧ cutE n = 0) ∨ (bitsB n = false ∧ cutA n l = zeros ∧ cutN n = 0 ∧ cutE n = 1)) := by
        cases h : bitsB n
        · exact Or.inr ⟨rfl, by simp [cutA, h], by simp [cutN, h], by simp [cutE, h]⟩
        · exact Or.inl ⟨rfl, by simp [cutA, h], by simp [cutN, h], by simp [cutE, h]⟩
      generalize lngP l z2 k = LP at *
      generalize lngE l z2 k = LE at *
      generalize cutA n l = DA at *
      generalize cutN n = DN at *
      generalize cutE n = DE at *
      clear HIN HOUT HGD HZA HO3 HK RAD HB szl B1 RA1
      go_wp2_with (first
        | (refine ld22 _ rfl rfl w.heap.size 0 rfl l ha.1 RA7.out.part ?_))
      refine C28.out.mono ?_
      rintro e w8 ⟨rfl, hb8⟩
      have RA8 : Hid (Row w8 w.heap.size 22 (u8s l)) := RA7.out.below hb8 RA7.out.lt
      have B8 : Hid (Below w.heap.size w w8) := B7.out.trans (hb8.mono B7.out.size)
      clear hb8 C28 RA7 B7
      go_wp2_with (first
        | (refine ld22 _ rfl rfl w.heap.size 0 rfl l ha.1 RA8.out.part ?_))
      refine (C27.out _).mono ?_
      rintro e w9 ⟨rfl, hb9⟩
      have RA9 : Hid (Row w9 w.heap.size 22 (u8s l)) := RA8.out.below hb9 RA8.out.lt
      have B9 : Hid (Below w.heap.size w w9) := B8.out.trans (hb9.mono B8.out.size)
      clear hb9 C27 RA8 B8
      rcases HD.out with ⟨hbt, hd1, rfl, rfl⟩ | ⟨hbt, rfl, rfl, rfl⟩
      · have hr : 0 ≤ DN ∧ DN ≤ 128 := by simpa [bitsB] using hbt
        have n1 : ¬ DN < 0 := by omega
        have n2 : ¬ DN > 128 := by omega
        have hhas : hasB DA DN l = true := by rw [hasB, hbt, hd1]; simp
        have C24 : Hid (∀ w' : World, Calls Tryd.prog 24 #[.agg (pfx DA DN), .agg (u8s l)] w' fun e w'' => e = .returned (.bool true) ∧ Below w'.heap.size w' w'') := fun w' => by
          have h := refHas_is DA DN l w' hDA ha
          rw [hhas] at h; exact h
        clear HD hbt hd1 hr hhas
        go_wp2_with (first
          | (refine st42 _ _ rfl rfl w9.heap.size DA DN hDA.1 rfl rfl 42 _ (by rfl) (Row.new w9 42 (pfx zeros 0)) ?_; have RN : Hid (Row ((w9.alloc (.cells (pfx zeros 0) 42)).setRow w9.heap.size (pfx DA DN)) w9.heap.size 42 (pfx DA DN)) := (Row.new w9 42 _).setRow _; have RA10 : Hid (Row ((w9.alloc (.cells (pfx zeros 0) 42)).setRow w9.heap.size (pfx DA DN)) w.heap.size 22 (u8s l)) := (RA9.out.alloc _).rowOther _ _ (Nat.ne_of_lt RA9.out.lt); have B10 : Hid (Below w.heap.size w ((w9.alloc (.cells (pfx zeros 0) 42)).setRow w9.heap.size (pfx DA DN))) := below_setRow (B9.out.alloc B9.out.size _) B9.out.size _; generalize ((w9.alloc (.cells (pfx zeros 0) 42)).setRow w9.heap.size (pfx DA DN)) = w10 at *; have hbt10 := RN.out.bits hDA.1)
          | (refine ld25 _ rfl rfl w9.heap.size 0 rfl DA hDA.1 (pre_of RN.out.part) ?_)
          | (refine bd39 _ _ rfl rfl DA DN hDA.1 rfl rfl ?_)
          | (refine ld22 _ rfl rfl w.heap.size 0 rfl l ha.1 RA10.out.part ?_))
        refine (C24.out _).mono ?_
        rintro e w11 ⟨rfl, hb11⟩
        have B11 : Hid (Below w.heap.size w w11) := B10.out.trans (hb11.mono B10.out.size)
        clear hb11 hbt10
        by_cases hneg : mo < 0
        · have e1 : LP = 0 := by rw [HLP.out]; exact if_pos hneg
          have e2 : LE = 8 := by rw [HLE.out]; exact if_pos hneg
          subst e1 e2
          clear HLP HLE
          go_wp2_with (first
            | (go_at_call 14; refine (known_any _ (HV.out.grow B11.out)).mono ?_; rintro e w12 ⟨rfl, hb12⟩; have B12 : Hid (Below w.heap.size w w12) := B11.out.trans (hb12.mono B11.out.size); clear hb12))
          go_ret
          exact ⟨rfl, B12.out⟩
        · have e1 : LP = pl := by rw [HLP.out]; exact if_neg hneg
          have e2 : LE = 0 := by rw [HLE.out]; exact if_neg hneg
          subst e1 e2
          clear HLP HLE
          go_wp2_with (first
            | (go_at_call 14; refine (known_any _ (HV.out.grow B11.out)).mono ?_; rintro e w12 ⟨rfl, hb12⟩; have B12 : Hid (Below w.heap.size w w12) := B11.out.trans (hb12.mono B11.out.size); clear hb12))
          go_ret
          exact ⟨rfl, B12.out⟩
      · have hr : ¬ (0 ≤ n ∧ n ≤ 128) := by simpa [bitsB] using hbt
        have q := eq42_same zeros 0 rfl
        clear HD hbt
        by_cases n1 : n < 0
        · clear hr
          by_cases hneg : mo < 0
          · have e1 : LP = 0 := by rw [HLP.out]; exact if_pos hneg
            have e2 : LE = 8 := by rw [HLE.out]; exact if_pos hneg
            subst e1 e2
            clear HLP HLE
            go_wp2_with (first
            | (refine st42 _ _ rfl rfl w9.heap.size zeros 0 hDA.1 rfl rfl 42 _ (by rfl) (Row.new w9 42 (pfx zeros 0)) ?_; have RN : Hid (Row ((w9.alloc (.cells (pfx zeros 0) 42)).setRow w9.heap.size (pfx zeros 0)) w9.heap.size 42 (pfx zeros 0)) := (Row.new w9 42 _).setRow _; have RA10 : Hid (Row ((w9.alloc (.cells (pfx zeros 0) 42)).setRow w9.heap.size (pfx zeros 0)) w.heap.size 22 (u8s l)) := (RA9.out.alloc _).rowOther _ _ (Nat.ne_of_lt RA9.out.lt); have B10 : Hid (Below w.heap.size w ((w9.alloc (.cells (pfx zeros 0) 42)).setRow w9.heap.size (pfx zeros 0))) := below_setRow (B9.out.alloc B9.out.size _) B9.out.size _; generalize ((w9.alloc (.cells (pfx zeros 0) 42)).setRow w9.heap.size (pfx zeros 0)) = w10 at *; have hbt10 := RN.out.bits hDA.1)
            | (refine ld42 _ rfl rfl w9.heap.size 0 rfl zeros 0 rfl RN.out.part ?_)
              | (go_at_call 14; refine (known_any _ (HV.out.grow B10.out)).mono ?_; rintro e w12 ⟨rfl, hb12⟩; have B12 : Hid (Below w.heap.size w w12) := B10.out.trans (hb12.mono B10.out.size); clear hb12))
            go_ret
            exact ⟨rfl, B12.out⟩
          · have e1 : LP = pl := by rw [HLP.out]; exact if_neg hneg
            have e2 : LE = 0 := by rw [HLE.out]; exact if_neg hneg
            subst e1 e2
            clear HLP HLE
            go_wp2_with (first
            | (refine st42 _ _ rfl rfl w9.heap.size zeros 0 hDA.1 rfl rfl 42 _ (by rfl) (Row.new w9 42 (pfx zeros 0)) ?_; have RN : Hid (Row ((w9.alloc (.cells (pfx zeros 0) 42)).setRow w9.heap.size (pfx zeros 0)) w9.heap.size 42 (pfx zeros 0)) := (Row.new w9 42 _).setRow _; have RA10 : Hid (Row ((w9.alloc (.cells (pfx zeros 0) 42)).setRow w9.heap.size (pfx zeros 0)) w.heap.size 22 (u8s l)) := (RA9.out.alloc _).rowOther _ _ (Nat.ne_of_lt RA9.out.lt); have B10 : Hid (Below w.heap.size w ((w9.alloc (.cells (pfx zeros 0) 42)).setRow w9.heap.size (pfx zeros 0))) := below_setRow (B9.out.alloc B9.out.size _) B9.out.size _; generalize ((w9.alloc (.cells (pfx zeros 0) 42)).setRow w9.heap.size (pfx zeros 0)) = w10 at *; have hbt10 := RN.out.bits hDA.1)
            | (refine ld42 _ rfl rfl w9.heap.size 0 rfl zeros 0 rfl RN.out.part ?_)
              | (go_at_call 14; refine (known_any _ (HV.out.grow B10.out)).mono ?_; rintro e w12 ⟨rfl, hb12⟩; have B12 : Hid (Below w.heap.size w w12) := B10.out.trans (hb12.mono B10.out.size); clear hb12))
            go_ret
            exact ⟨rfl, B12.out⟩
        · have n2 : n > 128 := by omega
          clear hr
          by_cases hneg : mo < 0
          · have e1 : LP = 0 := by rw [HLP.out]; exact if_pos hneg
            have e2 : LE = 8 := by rw [HLE.out]; exact if_pos hneg
            subst e1 e2
            clear HLP HLE
            go_wp2_with (first
            | (refine st42 _ _ rfl rfl w9.heap.size zeros 0 hDA.1 rfl rfl 42 _ (by rfl) (Row.new w9 42 (pfx zeros 0)) ?_; have RN : Hid (Row ((w9.alloc (.cells (pfx zeros 0) 42)).setRow w9.heap.size (pfx zeros 0)) w9.heap.size 42 (pfx zeros 0)) := (Row.new w9 42 _).setRow _; have RA10 : Hid (Row ((w9.alloc (.cells (pfx zeros 0) 42)).setRow w9.heap.size (pfx zeros 0)) w.heap.size 22 (u8s l)) := (RA9.out.alloc _).rowOther _ _ (Nat.ne_of_lt RA9.out.lt); have B10 : Hid (Below w.heap.size w ((w9.alloc (.cells (pfx zeros 0) 42)).setRow w9.heap.size (pfx zeros 0))) := below_setRow (B9.out.alloc B9.out.size _) B9.out.size _; generalize ((w9.alloc (.cells (pfx zeros 0) 42)).setRow w9.heap.size (pfx zeros 0)) = w10 at *; have hbt10 := RN.out.bits hDA.1)
            | (refine ld42 _ rfl rfl w9.heap.size 0 rfl zeros 0 rfl RN.out.part ?_)
              | (go_at_call 14; refine (known_any _ (HV.out.grow B10.out)).mono ?_; rintro e w12 ⟨rfl, hb12⟩; have B12 : Hid (Below w.heap.size w w12) := B10.out.trans (hb12.mono B10.out.size); clear hb12))
            go_ret
            exact ⟨rfl, B12.out⟩
          · have e1 : LP = pl := by rw [HLP.out]; exact if_neg hneg
            have e2 : LE = 0 := by rw [HLE.out]; exact if_neg hneg
            subst e1 e2
            clear HLP HLE
            go_wp2_with (first
            | (refine st42 _ _ rfl rfl w9.heap.size zeros 0 hDA.1 rfl rfl 42 _ (by rfl) (Row.new w9 42 (pfx zeros 0)) ?_; have RN : Hid (Row ((w9.alloc (.cells (pfx zeros 0) 42)).setRow w9.heap.size (pfx zeros 0)) w9.heap.size 42 (pfx zeros 0)) := (Row.new w9 42 _).setRow _; have RA10 : Hid (Row ((w9.alloc (.cells (pfx zeros 0) 42)).setRow w9.heap.size (pfx zeros 0)) w.heap.size 22 (u8s l)) := (RA9.out.alloc _).rowOther _ _ (Nat.ne_of_lt RA9.out.lt); have B10 : Hid (Below w.heap.size w ((w9.alloc (.cells (pfx zeros 0) 42)).setRow w9.heap.size (pfx zeros 0))) := below_setRow (B9.out.alloc B9.out.size _) B9.out.size _; generalize ((w9.alloc (.cells (pfx zeros 0) 42)).setRow w9.heap.size (pfx zeros 0)) = w10 at *; have hbt10 := RN.out.bits hDA.1)
            | (refine ld42 _ rfl rfl w9.heap.size 0 rfl zeros 0 rfl RN.out.part ?_)
              | (go_at_call 14; refine (known_any _ (HV.out.grow B10.out)).mono ?_; rintro e w12 ⟨rfl, hb12⟩; have B12 : Hid (Below w.heap.size w w12) := B10.out.trans (hb12.mono B10.out.size); clear hb12))
            go_ret
            exact ⟨rfl, B12.out⟩
end Go.Proofs.YtoijfnkbjdekoaaDoor
