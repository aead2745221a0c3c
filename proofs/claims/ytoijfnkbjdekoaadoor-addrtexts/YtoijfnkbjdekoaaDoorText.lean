/- What addr's Text answers. -/
import Derived.Test.YtoijfnkbjdekoaaDoorZero
namespace Go.Proofs.YtoijfnkbjdekoaaDoor
open Go.ChangeShapes Go.WideShapes Go.ChangeAt Go.RowKit
set_option linter.unusedVariables false
set_option linter.unusedSimpArgs false

/-- The text of eight groups. -/
def txt (g : List Int) : List UInt8 := if (zr g).1 = (zr g).2 then jn g else jn (g.take (zr g).1) ++ [58, 58] ++ jn (g.drop (zr g).2)

theorem zst_ok (st : Nat × Nat) (first i : Nat) (h : st.1 ≤ st.2 ∧ st.2 ≤ 8) (hf : first ≤ i + 1) (hi : i < 8) : (zst st first i).1 ≤ (zst st first i).2 ∧ (zst st first i).2 ≤ 8 := by
  unfold zst; split
  · exact ⟨hf, by show i + 1 ≤ 8; omega⟩
  · exact h
theorem zin_ok (g : List Int) (first : Nat) : ∀ (f i : Nat) (st : Nat × Nat), st.1 ≤ st.2 ∧ st.2 ≤ 8 → first ≤ i → i + f ≤ 8 → (zin g first f i st).1 ≤ (zin g first f i st).2 ∧ (zin g first f i st).2 ≤ 8
  | 0, _, st, h, _, _ => h
  | f + 1, i, st, h, hf, hi => by
    unfold zin; split
    · exact zin_ok g first f (i + 1) _ (zst_ok st first i h (by omega) (by omega)) (by omega) (by omega)
    · exact h
theorem zout_ok (g : List Int) : ∀ (f first : Nat) (st : Nat × Nat), st.1 ≤ st.2 ∧ st.2 ≤ 8 → first + f ≤ 8 → (zout g f first st).1 ≤ (zout g f first st).2 ∧ (zout g f first st).2 ≤ 8
  | 0, _, st, h, _ => h
  | f + 1, first, st, h, hf => zout_ok g f (first + 1) _ (zin_ok g first (f + 1) first st h (Nat.le_refl _) (by omega)) (by omega)
theorem zr_ok (g : List Int) : (zr g).1 ≤ (zr g).2 ∧ (zr g).2 ≤ 8 := zout_ok g 8 0 (0, 0) ⟨Nat.le_refl _, by decide⟩ (by omega)

theorem row_lies {w : World} {b t : Nat} {g : List Int} (h : Row w b t (i64s g)) (off len : Nat) (l : List Int) (_ : True = True) (hl : l.length = len) (he : ∀ k, k < len → l[k]? = g[off + k]?) : Lies w (some ⟨b, off, none⟩) len l := by
  refine ⟨hl, fun k hk => ⟨b, off, rfl, ?_, h.lt⟩⟩
  have e := he k hk
  have hk' : k < l.length := by omega
  rw [List.getElem?_eq_getElem hk'] at e
  have hg : off + k < g.length := (List.getElem?_eq_some_iff.1 e.symm).1
  rw [h.cell, i64s_at g _ hg]
  rw [List.getElem?_eq_getElem hg] at e
  have := Option.some.inj e
  simp [hk', hg, this]

theorem under23 : Tryd.prog.underlying 23 = some (.array 8 3) := by kernel_rfl
theorem len23 : Tryd.prog.arrayLen 23 = 8 := by kernel_rfl
theorem elem23 : Tryd.prog.elem 23 = 3 := by kernel_rfl
theorem info3s : (Tryd.prog.info? 3).map (·.size) = some 1 := by kernel_rfl
theorem size3 (w : World) : (sizeOf 3).run Tryd.prog w = .ok 1 w := by
  cases hq : Tryd.prog.info? 3 with
  | none => have := info3s; rw [hq] at this; simp at this
  | some x => have := info3s; rw [hq] at this; simp at this; simp [sizeOf, typeInfo, hq, this]
theorem slice23_all (b : Nat) (w : World) : (Instr.sliceAt 23 (.pointer (some ⟨b, 0, none⟩)) none none none).run Tryd.prog w = .ok (.slice (some ⟨b, 0, none⟩) 8 8) w := by
  rw [run_sliceAt_array_all w 23 ⟨b, 0, none⟩ (by rw [len23, elem23]; exact under23), elem23, size3, len23]
  simp [slicedAt, Addr.add_mid]
theorem slice23_h (b f : Nat) (h : f ≤ 8) (w : World) : (Instr.sliceAt 23 (.pointer (some ⟨b, 0, none⟩)) none (some (.int .i64 (f : Int))) none).run Tryd.prog w = .ok (.slice (some ⟨b, 0, none⟩) f 8) w := by
  rw [run_sliceAt_array_h w 23 ⟨b, 0, none⟩ (by rw [len23, elem23]; exact under23) .i64 (f : Int) (by omega) (by rw [len23]; omega), elem23, size3, len23]
  simp [slicedAt, Addr.add_mid]
theorem slice23_l (b t : Nat) (h : t ≤ 8) (w : World) : (Instr.sliceAt 23 (.pointer (some ⟨b, 0, none⟩)) (some (.int .i64 (t : Int))) none none).run Tryd.prog w = .ok (.slice (some (if 8 = t then ⟨b, 0, none⟩ else ⟨b, t, none⟩)) (8 - t) (8 - t)) w := by
  rw [run_sliceAt_array_l w 23 ⟨b, 0, none⟩ (by rw [len23, elem23]; exact under23) .i64 (t : Int) (by omega) (by rw [len23]; omega), elem23, size3, len23]
  simp [slicedAt, Addr.add_mid]

theorem grp_ok {l : List Int} (h : Adr l) : ∀ x ∈ grpL l, 0 ≤ x ∧ x < 65536 := by
  intro x hx
  simp only [grpL, List.mem_map, List.mem_range] at hx
  obtain ⟨i, hi, rfl⟩ := hx
  have h1 := h.2 _ (getD_mem (k := 2 * i) (by rw [h.1]; omega))
  have h2 := h.2 _ (getD_mem (k := 2 * i + 1) (by rw [h.1]; omega))
  unfold grp; omega

theorem ret_str {a b : List UInt8} (h : a = b) : Ending.returned (.string ⟨a.toArray⟩) = .returned (.string ⟨b.toArray⟩) := by rw [h]
theorem cat3 (a b c : List UInt8) : ((⟨a.toArray⟩ : ByteArray) ++ ⟨b.toArray⟩ ++ ⟨c.toArray⟩) = ⟨(a ++ b ++ c).toArray⟩ := by apply ByteArray.ext; simp [ByteArray.data_append]
def z8L : List Int := [0, 0, 0, 0, 0, 0, 0, 0]
theorem z8 : (#[.int .i64 0, .int .i64 0, .int .i64 0, .int .i64 0, .int .i64 0, .int .i64 0, .int .i64 0, .int .i64 0] : Array Value) = i64s z8L := rfl

set_option maxRecDepth 1000000 in
set_option maxHeartbeats 3200000 in
theorem text_any (l : List Int) (w : World) (ha : Adr l) (hV : Vars w) :
    Calls Tryd.prog 11 #[.agg (u8s l)] w fun e w' => e = .returned (.string ⟨(txt (grpL l)).toArray⟩) ∧ Below w.heap.size w w' := by
  have hA : Row (w.alloc (.cells (u8s l) 25)) w.heap.size 25 (u8s l) := Row.new w 25 _
  have hvg := grp_ok ha
  have HT : Hid (txt (grpL l) = if (zr (grpL l)).1 = (zr (grpL l)).2 then jn (grpL l) else jn ((grpL l).take (zr (grpL l)).1) ++ [58, 58] ++ jn ((grpL l).drop (zr (grpL l)).2)) := rfl
  have hz := zr_ok (grpL l)
  have hgl := grpL_len l
  have hgc := groups_any l (w.alloc (.cells (u8s l) 25)) ha
  have hzr := zeroRun_any (grpL l)
  obtain ⟨g, hg⟩ : ∃ g, grpL l = g := ⟨_, rfl⟩
  rw [hg] at hvg hz hgl hgc hzr HT ⊢
  generalize txt g = T at *
  obtain ⟨f, hf⟩ : ∃ f, (zr g).1 = f := ⟨_, rfl⟩
  obtain ⟨t, ht⟩ : ∃ t, (zr g).2 = t := ⟨_, rfl⟩
  rw [hf, ht] at hz hzr HT
  have HVg : Hid (∀ x ∈ g, 0 ≤ x ∧ x < 65536) := hvg
  have HGC : Hid (Calls Tryd.prog 8 #[.agg (u8s l)] (w.alloc (.cells (u8s l) 25)) fun e w' => e = .returned (.agg (i64s g)) ∧ Below (w.heap.size + 1) (w.alloc (.cells (u8s l) 25)) w') := by rw [World.size_alloc] at hgc; exact hgc
  have HZR : Hid (∀ (w : World), g.length = 8 → Calls Tryd.prog 30 #[.agg (i64s g)] w fun e w' => e = .returned (.tuple #[.int .i64 (f : Int), .int .i64 (t : Int)]) ∧ Below w.heap.size w w') := hzr
  obtain ⟨hft, ht8⟩ := hz
  clear hg hf ht hvg hgc hzr
  have z8 := z8
  by_cases heq : f = t
  · have q1 : ((f : Int) == (t : Int)) = true := by simp [heq]
    have HT1 : Hid (T = jn g) := by show _ = _; rw [HT.out, if_pos heq]
    clear heq HT
    go_enter Tryd.func11, Tryd.ntmps11
    go_wp2_with (first
      | (refine ld25 _ rfl rfl w.heap.size 0 rfl l ha.1 hA.part ?_)
      | (go_at_call 8; refine HGC.out.mono ?_; rintro e w1 ⟨rfl, hb1⟩; have B1 : Hid (Below w.heap.size w w1) := (below_new w _).trans (hb1.mono (Nat.le_succ _)); clear hb1; have N1 := Row.new w1 23 (i64s z8L))
      | (refine st23 _ _ rfl rfl w1.heap.size g hgl rfl rfl 23 _ (by rfl) N1 ?_; have N2 : Row ((w1.alloc (.cells (i64s z8L) 23)).setRow w1.heap.size (i64s g)) w1.heap.size 23 (i64s g) := N1.setRow _; have B2 : Hid (Below w.heap.size w ((w1.alloc (.cells (i64s z8L) 23)).setRow w1.heap.size (i64s g))) := below_setRow (B1.out.alloc B1.out.size _) B1.out.size _; generalize ((w1.alloc (.cells (i64s z8L) 23)).setRow w1.heap.size (i64s g)) = w3 at *)
      | (refine ld23 _ rfl rfl w1.heap.size 0 rfl g hgl N2.part ?_)
      | (go_at_call 30; refine (HZR.out w3 hgl).mono ?_; rintro e w4 ⟨rfl, hb4⟩; have R4 : Hid (Row w4 w1.heap.size 23 (i64s g)) := N2.below hb4 N2.lt; have B4 : Hid (Below w.heap.size w w4) := B2.out.trans (hb4.mono B2.out.size); have V4 : Hid (Vars w4) := hV.grow B4.out; clear hb4))
    refine (joined_any (some ⟨w1.heap.size, 0, none⟩) 8 8 g w4 (row_lies R4.out 0 8 g rfl hgl (fun k hk => by rw [Nat.zero_add])) (by omega) HVg.out V4.out).mono ?_
    rintro e w5 ⟨rfl, hb5⟩
    have B5 : Hid (Below w.heap.size w w5) := B4.out.trans (hb5.mono B4.out.size)
    clear hb5
    go_wp2_with fail
    go_ret
    exact ⟨ret_str HT1.out.symm, B5.out⟩
  · have q1 : ((f : Int) == (t : Int)) = false := by simp; omega
    have HT1 : Hid (T = jn (g.take f) ++ [58, 58] ++ jn (g.drop t)) := by show _ = _; rw [HT.out, if_neg heq]
    clear heq HT
    go_enter Tryd.func11, Tryd.ntmps11
    go_wp2_with (first
      | (refine ld25 _ rfl rfl w.heap.size 0 rfl l ha.1 hA.part ?_)
      | (go_at_call 8; refine HGC.out.mono ?_; rintro e w1 ⟨rfl, hb1⟩; have B1 : Hid (Below w.heap.size w w1) := (below_new w _).trans (hb1.mono (Nat.le_succ _)); clear hb1; have N1 := Row.new w1 23 (i64s z8L))
      | (refine st23 _ _ rfl rfl w1.heap.size g hgl rfl rfl 23 _ (by rfl) N1 ?_; have N2 : Row ((w1.alloc (.cells (i64s z8L) 23)).setRow w1.heap.size (i64s g)) w1.heap.size 23 (i64s g) := N1.setRow _; have B2 : Hid (Below w.heap.size w ((w1.alloc (.cells (i64s z8L) 23)).setRow w1.heap.size (i64s g))) := below_setRow (B1.out.alloc B1.out.size _) B1.out.size _; generalize ((w1.alloc (.cells (i64s z8L) 23)).setRow w1.heap.size (i64s g)) = w3 at *)
      | (refine ld23 _ rfl rfl w1.heap.size 0 rfl g hgl N2.part ?_)
      | (go_at_call 30; refine (HZR.out w3 hgl).mono ?_; rintro e w4 ⟨rfl, hb4⟩; have R4 : Hid (Row w4 w1.heap.size 23 (i64s g)) := N2.below hb4 N2.lt; have B4 : Hid (Below w.heap.size w w4) := B2.out.trans (hb4.mono B2.out.size); have V4 : Hid (Vars w4) := hV.grow B4.out; clear hb4))
    have s1 := slice23_h w1.heap.size f (by omega)
    have s2 := slice23_l w1.heap.size t ht8
    obtain ⟨at2, hat⟩ : ∃ at2 : Addr, (if 8 = t then (⟨w1.heap.size, 0, none⟩ : Addr) else ⟨w1.heap.size, t, none⟩) = at2 := ⟨_, rfl⟩
    obtain ⟨nt, hnt⟩ : ∃ nt, 8 - t = nt := ⟨_, rfl⟩
    rw [hat, hnt] at s2
    have LT : Hid (∀ w' : World, Row w' w1.heap.size 23 (i64s g) → Lies w' (some at2) nt (g.drop t)) := by
      intro w' hr
      rw [← hat, ← hnt]
      split
      · exact ⟨by rw [List.length_drop, hgl], fun k hk => by omega⟩
      · exact row_lies hr t (8 - t) (g.drop t) rfl (by rw [List.length_drop, hgl]) (fun k hk => by rw [List.getElem?_drop])
    have hnt8 : nt ≤ 8 := by omega
    have j1 := jn_len (g.take f) (by rw [List.length_take]; omega)
    have j2 := jn_len (g.drop t) (by rw [List.length_drop]; omega)
    have n1 : ¬ 9223372036854775807 < (jn (g.take f)).length + 2 := by omega
    have n2 : ¬ 9223372036854775807 < (jn (g.take f)).length + 2 + (jn (g.drop t)).length := by omega
    clear hat hnt
    refine wp_region_held_drew (S := (fun w' => Row w' w1.heap.size 23 (i64s g) ∧ Vars w')) (by kernel_rfl) ?_ (fun hHeld => ?_)
    · exact ⟨R4.out, V4.out⟩
    refine wpAnyH_take (i := 0) (oi := _) (v := ?v0) rfl (by kernel_rfl) (by kernel_rfl) (by kernel_rfl) (fun _ _ _ h => h) (Or.inl ⟨by rfl, ?hy0⟩) (by assumption) ?rest0
    case hy0 => (intro w hSw; (try dsimp only at hSw); go_split_ands; go_simp; try (with_reducible rfl))
    try simp only [List.getElem_toArray, List.getElem_cons_zero, List.getElem_cons_succ, Act.put, List.setIfInBounds_toArray, List.set_cons_zero, List.set_cons_succ]
    refine wpAnyH_take (i := 1) (oi := _) (v := ?v1) rfl (by kernel_rfl) (by kernel_rfl) (by kernel_rfl) (fun _ _ _ h => h) (Or.inl ⟨by rfl, ?hy1⟩) (by assumption) ?rest1
    case hy1 => (intro w hSw; (try dsimp only at hSw); go_split_ands; go_simp; try (with_reducible rfl))
    try simp only [List.getElem_toArray, List.getElem_cons_zero, List.getElem_cons_succ, Act.put, List.setIfInBounds_toArray, List.set_cons_zero, List.set_cons_succ]
    refine wpAnyH_take (i := 4) (oi := _) (v := ?v4) rfl (by kernel_rfl) (by kernel_rfl) (by kernel_rfl) (fun _ _ _ h => h) (Or.inl ⟨by rfl, ?hy4⟩) (by assumption) ?rest4
    case hy4 => (intro w hSw; (try dsimp only at hSw); go_split_ands; go_simp; try (with_reducible rfl))
    try simp only [List.getElem_toArray, List.getElem_cons_zero, List.getElem_cons_succ, Act.put, List.setIfInBounds_toArray, List.set_cons_zero, List.set_cons_succ]
    refine wpAnyH_take (i := 5) (oi := _) (v := ?v5) rfl (by kernel_rfl) (by kernel_rfl) (by kernel_rfl) (fun _ _ _ h => h) (Or.inl ⟨by rfl, ?hy5⟩) (by assumption) ?rest5
    case hy5 => (intro w hSw; (try dsimp only at hSw); go_split_ands; go_simp; try (with_reducible rfl))
    try simp only [List.getElem_toArray, List.getElem_cons_zero, List.getElem_cons_succ, Act.put, List.setIfInBounds_toArray, List.set_cons_zero, List.set_cons_succ]
    refine wpAnyH_ready (rs := [2]) (by kernel_rfl) (by simp) ?_
    refine AllReadyH.cons (o := _) rfl (fun K hK => ?_) AllReadyH.nil
    go_simp
    refine (joined_any (some ⟨w1.heap.size, 0, none⟩) f 8 (g.take f) _ (row_lies hHeld.1 0 f (g.take f) rfl (by rw [List.length_take]; omega) (fun k hk => by simp [List.getElem?_take, hk])) (by omega) (fun x hx => HVg.out x (List.mem_of_mem_take hx)) hHeld.2).mono ?_; rintro e w5 ⟨rfl, hb5⟩; have B5 : Hid (Below _ _ w5) := hb5; have hR5 := hHeld.1.below B5.out hHeld.1.lt; have hV5 := hHeld.2.grow B5.out; clear hb5 hHeld
    go_wp2_with fail
    refine hK.out _ _ ⟨hR5, hV5⟩ (fun hHeld => ?_)
    clear hK K
    try simp only [Act.put, List.setIfInBounds_toArray, List.set_cons_zero, List.set_cons_succ]
    refine wpAnyH_take (i := 3) (oi := _) (v := ?v3) rfl (by kernel_rfl) (by kernel_rfl) (by kernel_rfl) (fun _ _ _ h => h) (Or.inl ⟨by rfl, ?hy3⟩) (by assumption) ?rest3
    case hy3 => (intro w hSw; (try dsimp only at hSw); go_split_ands; go_simp; try (with_reducible rfl))
    try simp only [List.getElem_toArray, List.getElem_cons_zero, List.getElem_cons_succ, Act.put, List.setIfInBounds_toArray, List.set_cons_zero, List.set_cons_succ]
    refine wpAnyH_ready (rs := [6]) (by kernel_rfl) (by simp) ?_
    refine AllReadyH.cons (o := _) rfl (fun K hK => ?_) AllReadyH.nil
    go_simp
    refine (joined_any (some at2) nt nt (g.drop t) _ (LT.out _ hHeld.1) (by omega) (fun x hx => HVg.out x (List.mem_of_mem_drop hx)) hHeld.2).mono ?_; rintro e w6 ⟨rfl, hb6⟩; have B6 : Hid (Below _ _ w6) := hb6; have hR6 := hHeld.1.below B6.out hHeld.1.lt; have hV6 := hHeld.2.grow B6.out; clear hb6 hHeld
    go_wp2_with fail
    refine hK.out _ _ ⟨hR6, hV6⟩ (fun hHeld => ?_)
    clear hK K
    try simp only [Act.put, List.setIfInBounds_toArray, List.set_cons_zero, List.set_cons_succ]
    refine wpAnyH_take (i := 7) (oi := _) (v := ?v7) rfl (by kernel_rfl) (by kernel_rfl) (by kernel_rfl) (fun _ _ _ h => h) (Or.inl ⟨by rfl, ?hy7⟩) (by assumption) ?rest7
    case hy7 => (intro w hSw; (try dsimp only at hSw); go_split_ands; go_simp; try (with_reducible rfl))
    try simp only [List.getElem_toArray, List.getElem_cons_zero, List.getElem_cons_succ, Act.put, List.setIfInBounds_toArray, List.set_cons_zero, List.set_cons_succ]
    refine wpAnyH_take (i := 8) (oi := _) (v := ?v8) rfl (by kernel_rfl) (by kernel_rfl) (by kernel_rfl) (fun _ _ _ h => h) (Or.inl ⟨by rfl, ?hy8⟩) (by assumption) ?rest8
    case hy8 => (intro w hSw; (try dsimp only at hSw); go_split_ands; go_simp; try (with_reducible rfl))
    try simp only [List.getElem_toArray, List.getElem_cons_zero, List.getElem_cons_succ, Act.put, List.setIfInBounds_toArray, List.set_cons_zero, List.set_cons_succ]
    refine wpAnyH_done (by kernel_rfl) ?_ _
    go_wp2
    go_ret
    refine ⟨?_, ?_⟩
    · exact congrArg (fun s => Ending.returned (.string s)) ((cat3 (jn (g.take f)) [58, 58] (jn (g.drop t))).trans (by rw [HT1.out]))
    · have b5 : Below w4.heap.size w4 w5 := ⟨B5.out.os, B5.out.tape, B5.out.output, B5.out.size, B5.out.block⟩
      have b6 : Below w5.heap.size w5 w6 := ⟨B6.out.os, B6.out.tape, B6.out.output, B6.out.size, B6.out.block⟩
      have c5 := B4.out.trans (b5.mono B4.out.size)
      exact c5.trans (b6.mono c5.size)
end Go.Proofs.YtoijfnkbjdekoaaDoor
