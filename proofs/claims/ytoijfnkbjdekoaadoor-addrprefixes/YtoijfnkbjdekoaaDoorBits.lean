/- What the document's bit, Right and Has answer. -/
import Derived.Test.YtoijfnkbjdekoaaDoorCutsWalk
namespace Go.Proofs.YtoijfnkbjdekoaaDoor
open Go.ChangeShapes Go.WideShapes Go.ChangeAt Go.RowKit
set_option linter.unusedVariables false
set_option linter.unusedSimpArgs false

/-- An address's bit, from the highest one on. -/
def bitI (l : List Int) (i : Nat) : Int := (((l.getD (i / 8) 0).toNat / 2 ^ (7 - i % 8) % 2 : Nat) : Int)
theorem ret_int {k : IntKind} {a b : Int} (h : a = b) : Ending.returned (.int k a) = .returned (.int k b) := by rw [h]
theorem half (x : Int) (h : 0 ≤ x) : x.tdiv 2 = x / 2 := Int.tdiv_eq_ediv_of_nonneg h
theorem oddr (x : Int) (h : 0 ≤ x) : x.tmod 2 = x % 2 := Int.tmod_eq_emod_of_nonneg h

set_option maxHeartbeats 1600000 in
theorem bit_any (l : List Int) (I : Int) (w : World) (ha : Adr l) (h0 : 0 ≤ I) (h1 : I < 128) :
    Calls Tryd.prog 35 #[.agg (u8s l), .int .i64 I] w fun e w' => e = .returned (.int .i64 (bitI l I.toNat)) ∧ Below w.heap.size w w' := by
  have hA : Row (w.alloc (.cells (u8s l) 22)) w.heap.size 22 (u8s l) := Row.new w 22 _
  obtain ⟨i, rfl⟩ := Int.eq_ofNat_of_zero_le h0
  have hi : i < 128 := by omega
  have hv := ha.2 _ (getD_mem (k := i / 8) (by rw [ha.1]; omega))
  have hc : (w.alloc (.cells (u8s l) 22)).cell? ⟨w.heap.size, i / 8, none⟩ = some (.int .u8 (l.getD (i / 8) 0)) := by rw [hA.cell, u8s_at _ _ (by rw [ha.1]; omega)]
  have HB : Hid (bitI l ((i : Int)).toNat = (((l.getD (i / 8) 0).toNat / 2 ^ (7 - i % 8) % 2 : Nat) : Int)) := by show bitI l ((i : Int)).toNat = _; rw [Int.toNat_natCast]; rfl
  generalize bitI l ((i : Int)).toNat = R at *
  generalize l.getD (i / 8) 0 = x at *
  obtain ⟨X, rfl⟩ := Int.eq_ofNat_of_zero_le hv.1
  have hX : X < 256 := by omega
  obtain ⟨I, hI⟩ : ∃ I : Int, I = (i : Int) := ⟨_, rfl⟩
  have d1 : I.tdiv 8 = ((i / 8 : Nat) : Int) := by rw [hI, Int.tdiv_eq_ediv_of_nonneg (by omega)]; omega
  have d2 : I.tmod 8 = ((i % 8 : Nat) : Int) := by rw [hI, Int.tmod_eq_emod_of_nonneg (by omega)]; omega
  rw [← hI]
  have hj : i / 8 < 16 := by omega
  have hr : i % 8 < 8 := by omega
  have HB2 : Hid (R = ((X / 2 ^ (7 - i % 8) % 2 : Nat) : Int)) := by have := HB.out; rw [Int.toNat_natCast] at this; exact this
  generalize i / 8 = j at *
  generalize i % 8 = r at *
  have j1 : ((j : Nat) : Int) < 16 := by omega
  clear hI HB hv h0 h1 hA ha
  go_enter Tryd.func35, Tryd.ntmps35
  go_wp2
  go_loopw [5, 6] (fun vn vk wr => ∃ (k Y : Nat), vn = .int .i64 (Y : Int) ∧ vk = .int .i64 (k : Int) ∧ k ≤ 7 ∧ Y < 256 ∧ Hid (R = ((Y / 2 ^ (7 - k) % 2 : Nat) : Int)) ∧ wr = w.alloc (.cells (u8s l) 22))
    (fun _ vk _ => 8 - (intOf vk).toNat)
  case atStart => exact ⟨r, X, rfl, rfl, by omega, hX, HB2, rfl⟩
  case round =>
    obtain ⟨k, Y, rfl, rfl, hk, hY, HR, rfl⟩ := hrel
    by_cases hlt : k < 7
    · have i1 : (k : Int) < 7 := by omega
      have HN : Hid (R = ((Y / 2 / 2 ^ (7 - (k + 1)) % 2 : Nat) : Int)) := by
        show R = _
        rw [HR.out, Nat.div_div_eq_div_mul, ← Nat.pow_succ', show (7 - (k + 1)).succ = 7 - k by omega]
      have d : ((Y : Nat) : Int).tdiv 2 = ((Y / 2 : Nat) : Int) := by rw [half _ (by omega)]; omega
      have hY2 : Y / 2 < 256 := by omega
      generalize Y / 2 = Z at *
      go_wp2
      go_roundw
      case rel => exact ⟨k + 1, Z, by go_num, by go_num, by omega, hY2, HN, by trivial⟩
      case measure => simp [intOf]; omega
    · obtain rfl : k = 7 := by omega
      have HN : Hid (R = ((Y % 2 : Nat) : Int)) := by show R = _; rw [HR.out]; simp
      have d : ((Y : Nat) : Int).tmod 2 = ((Y % 2 : Nat) : Int) := by rw [oddr _ (by omega)]; omega
      generalize Y % 2 = Z at *
      go_wp2
      go_ret
      exact ⟨ret_int HN.out.symm, below_new w _⟩
theorem bit_nat (l : List Int) (k : Nat) (w : World) (ha : Adr l) (h : k < 128) :
    Calls Tryd.prog 35 #[.agg (u8s l), .int .i64 (k : Int)] w fun e w' => e = .returned (.int .i64 (bitI l k)) ∧ Below w.heap.size w w' := by
  have := bit_any l (k : Int) w ha (by omega) (by omega)
  rw [Int.toNat_natCast] at this
  exact this

/-- All the bits behind these are 0. -/
def tailB (p : List Int) (n : Nat) : Bool := (List.range 128).all fun i => decide (i < n) || bitI p i == 0
def headB (p a : List Int) (n : Nat) : Bool := (List.range 128).all fun i => decide (n ≤ i) || bitI p i == bitI a i
theorem tailB_no {p : List Int} {n i : Nat} (h0 : n ≤ i) (h1 : i < 128) (h : bitI p i ≠ 0) : tailB p n = false := by
  rw [tailB, List.all_eq_false]; exact ⟨i, by simp; omega, by simp [h]; omega⟩
theorem headB_no {p a : List Int} {n i : Nat} (h0 : i < n) (h1 : i < 128) (h : bitI p i ≠ bitI a i) : headB p a n = false := by
  rw [headB, List.all_eq_false]; exact ⟨i, by simp; omega, by simp [h]; omega⟩

set_option maxHeartbeats 1600000 in
theorem refRight_ok (p : List Int) (n : Nat) (w : World) (hp : Adr p) (hn : n ≤ 128) :
    Calls Tryd.prog 22 #[.agg (pfx p (n : Int))] w fun e w' => e = .returned (.bool (tailB p n)) ∧ Below w.heap.size w w' := by
  have hR : Row (w.alloc (.cells (pfx p (n : Int)) 39)) w.heap.size 39 (pfx p (n : Int)) := Row.new w 39 _
  have hbt := hR.bits hp.1
  have n0 : decide ((n : Int) < 0) = false := decide_eq_false (by omega)
  have n1 : decide (128 < (n : Int)) = false := decide_eq_false (by omega)
  have n2 : decide (128 < n) = false := decide_eq_false (by omega)
  go_enter Tryd.func22, Tryd.ntmps22
  go_wp2
  go_loopw [3] (fun vi wr => ∃ k : Nat, vi = .int .i64 (k : Int) ∧ n ≤ k ∧ k ≤ 128 ∧ Hid (∀ i, n ≤ i → i < k → bitI p i = 0) ∧ Hid (Row wr w.heap.size 39 (pfx p (n : Int))) ∧ Hid (Below w.heap.size w wr))
    (fun vi _ => 128 - (intOf vi).toNat)
  case atStart => exact ⟨n, rfl, Nat.le_refl _, hn, fun i h1 h2 => by omega, hR, below_new w _⟩
  case round =>
    obtain ⟨k, rfl, hk0, hk1, HZ, RP, B4⟩ := hrel
    by_cases hlt : k < 128
    · have i1 : (k : Int) < 128 := by omega
      have hbit := fun w' => bit_any p (k : Int) w' hp (by omega) i1
      rw [Int.toNat_natCast] at hbit
      have HBt : Hid (∀ w' : World, Calls Tryd.prog 35 #[.agg (u8s p), .int .i64 (k : Int)] w' fun e w'' => e = .returned (.int .i64 (bitI p k)) ∧ Below w'.heap.size w' w'') := hbit
      have HI : Hid (∃ x, x = bitI p k) := ⟨_, rfl⟩
      by_cases hx : bitI p k = 0
      · have HZ2 : Hid (∀ i, n ≤ i → i < k + 1 → bitI p i = 0) := fun i h1 h2 => by rcases Nat.lt_succ_iff_lt_or_eq.1 h2 with h | rfl; exact HZ.out i h1 h; exact hx
        rw [hx] at HBt
        clear hbit hx
        go_wp2_with (first
          | (refine ld22 _ rfl rfl w.heap.size 0 rfl p hp.1 RP.out.pre ?_)
          | (go_at_call 35; refine (HBt.out _).mono ?_; rintro e w5 ⟨rfl, hb5⟩; have R5 : Hid (Row w5 w.heap.size 39 (pfx p (n : Int))) := RP.out.below hb5 RP.out.lt; have B5 : Hid (Below w.heap.size w w5) := B4.out.trans (hb5.mono B4.out.size); clear hb5))
        refine ⟨⟨k + 1, by go_num, by omega, by omega, HZ2, R5, B5⟩, by simp [intOf]; omega⟩
      · have HF : Hid (tailB p n = false) := tailB_no hk0 hlt hx
        generalize bitI p k = x at *
        have hx' : (x != 0) = true := by simpa using hx
        clear hbit hx
        go_wp2_with (first
          | (refine ld22 _ rfl rfl w.heap.size 0 rfl p hp.1 RP.out.pre ?_)
          | (go_at_call 35; refine (HBt.out _).mono ?_; rintro e w5 ⟨rfl, hb5⟩; have B5 : Hid (Below w.heap.size w w5) := B4.out.trans (hb5.mono B4.out.size); clear hb5))
        go_ret
        exact ⟨ret_bool HF.out.symm, B5.out⟩
    · have i1 : ¬ (k : Int) < 128 := by omega
      have HF : Hid (tailB p n = true) := by
        rw [Hid, tailB, List.all_eq_true]
        intro i hi
        simp only [List.mem_range] at hi
        by_cases h : i < n
        · simp [h]
        · simp [HZ.out i (by omega) (by omega)]
      go_wp2
      go_ret
      exact ⟨ret_bool HF.out.symm, B4.out⟩

theorem refRight_any (p : List Int) (n : Int) (w : World) (hp : Adr p) :
    Calls Tryd.prog 22 #[.agg (pfx p n)] w fun e w' => e = .returned (.bool (bitsB n && tailB p n.toNat)) ∧ Below w.heap.size w w' := by
  cases hb : bitsB n
  · have hR : Row (w.alloc (.cells (pfx p n) 39)) w.heap.size 39 (pfx p n) := Row.new w 39 _
    have hbt := hR.bits hp.1
    rcases bitsB_no hb with h | h
    · have n0 : decide (n < 0) = true := decide_eq_true h
      go_enter Tryd.func22, Tryd.ntmps22
      go_wp2
      go_ret
      exact ⟨rfl, below_new w _⟩
    · have n0 : decide (n < 0) = false := decide_eq_false (by omega)
      go_enter Tryd.func22, Tryd.ntmps22
      go_wp2
      go_ret
      exact ⟨rfl, below_new w _⟩
  · obtain ⟨h0, h1⟩ := bitsB_yes hb
    obtain ⟨m, rfl⟩ := Int.eq_ofNat_of_zero_le h0
    rw [Bool.true_and, Int.toNat_natCast]
    exact refRight_ok p m w hp (by omega)

set_option maxRecDepth 1000000 in
set_option maxHeartbeats 3200000 in
theorem refHas_any (p : List Int) (n : Int) (l : List Int) (w : World) (hp : Adr p) (ha : Adr l) :
    Calls Tryd.prog 24 #[.agg (pfx p n), .agg (u8s l)] w fun e w' => e = .returned (.bool (bitsB n && tailB p n.toNat && headB p l n.toNat)) ∧ Below w.heap.size w w' := by
  have hR : Row ((w.alloc (.cells (pfx p n) 39)).alloc (.cells (u8s l) 22)) w.heap.size 39 (pfx p n) := (Row.new w 39 _).alloc _
  have hR2 : Row ((w.alloc (.cells (pfx p n) 39)).alloc (.cells (u8s l) 22)) (w.heap.size + 1) 22 (u8s l) := by simpa using Row.new (w.alloc (.cells (pfx p n) 39)) 22 (u8s l)
  have hrt := refRight_any p n ((w.alloc (.cells (pfx p n) 39)).alloc (.cells (u8s l) 22)) hp
  cases hb : (bitsB n && tailB p n.toNat)
  · rw [hb] at hrt
    go_enter Tryd.func24, Tryd.ntmps24
    go_wp2_with (first
      | (refine ld39 _ rfl rfl w.heap.size 0 rfl p n hp.1 hR.part ?_)
      | (go_at_call 22; refine hrt.mono ?_; rintro e w1 ⟨rfl, hb1⟩; have B1 : Hid (Below w.heap.size w w1) := (below_new2 w _ _).trans (hb1.mono (by simp; omega)); clear hb1))
    go_ret
    exact ⟨rfl, B1.out⟩
  · rw [hb] at hrt
    have hbn : bitsB n = true := by cases h : bitsB n <;> simp_all
    obtain ⟨h0, h1⟩ := bitsB_yes hbn
    obtain ⟨m, rfl⟩ := Int.eq_ofNat_of_zero_le h0
    have hm : m ≤ 128 := by omega
    rw [Bool.true_and, Int.toNat_natCast]
    have HP : Hid (Adr p) := hp
    have HA : Hid (Adr l) := ha
    have sz1 : (Tryd.prog.info? 22).map (·.size) = some (cl p).length := by rw [cl_len, hp.1]; exact size22
    have sz2 : (Tryd.prog.info? 22).map (·.size) = some (cl l).length := by rw [cl_len, ha.1]; exact size22
    clear hb hbn h0 h1
    go_enter Tryd.func24, Tryd.ntmps24
    go_wp2_with (first
      | (refine ld39 _ rfl rfl w.heap.size 0 rfl p (m : Int) hp.1 hR.part ?_)
      | (go_at_call 22; refine hrt.mono ?_; rintro e w1 ⟨rfl, hb1⟩; have B1 : Hid (Below w.heap.size w w1) := (below_new2 w _ _).trans (hb1.mono (by simp; omega)); have RP1 : Hid (Row w1 w.heap.size 39 (pfx p (m : Int))) := hR.below hb1 (by simp; omega); have RA1 : Hid (Row w1 (w.heap.size + 1) 22 (u8s l)) := hR2.below hb1 (by simp); clear hb1))
    go_loopw [5] (fun vi wr => ∃ k : Nat, vi = .int .i64 (k : Int) ∧ k ≤ m ∧ Hid (∀ i, i < k → bitI p i = bitI l i) ∧ Hid (Row wr w.heap.size 39 (pfx p (m : Int))) ∧ Hid (Row wr (w.heap.size + 1) 22 (u8s l)) ∧ Hid (Below w.heap.size w wr))
      (fun vi _ => m - (intOf vi).toNat)
    case atStart => exact ⟨0, rfl, Nat.zero_le _, fun i h => by omega, RP1, RA1, B1⟩
    case round =>
      obtain ⟨k, rfl, hk1, HZ, RP, RA, B4⟩ := hrel
      have hbt := RP.out.bits hp.1
      have hsz : w.heap.size + 2 ≤ wr.drew.heap.size := RA.out.lt
      by_cases hlt : k < m
      · have i1 : (k : Int) < (m : Int) := by omega
        by_cases hx : bitI p k = bitI l k
        · have HZ2 : Hid (∀ i, i < k + 1 → bitI p i = bitI l i) := fun i h2 => by rcases Nat.lt_succ_iff_lt_or_eq.1 h2 with h | rfl; exact HZ.out i h; exact hx
          have hx' : (bitI p k != bitI l k) = false := by simpa using hx
          clear hx
          go_wp2_with fail
          refine wp_region_held_drew (S := (fun w' => w'.rangeAt w.heap.size 0 (cl p) ∧ w'.rangeAt (w.heap.size + 1) 0 (cl l) ∧ w.heap.size + 2 ≤ w'.heap.size ∧ Below w.heap.size w w')) (by kernel_rfl) ?_ (fun hHeld => ?_)
          · exact ⟨RP.out.pre.range, RA.out.part.range, hsz, B4.out.drew⟩
          refine wpAnyH_take (i := 0) (oi := _) (v := ?v0) rfl (by kernel_rfl) (by kernel_rfl) (by kernel_rfl) (fun _ _ _ h => h) (Or.inl ⟨by rfl, ?hy0⟩) (by assumption) ?rest0
          case hy0 => (intro w hSw; (try dsimp only at hSw); go_split_ands; go_simp; try (with_reducible rfl))
          try simp only [List.getElem_toArray, List.getElem_cons_zero, List.getElem_cons_succ, Act.put, List.setIfInBounds_toArray, List.set_cons_zero, List.set_cons_succ]
          refine wpAnyH_take (i := 1) (oi := _) (v := .agg (u8s p)) rfl (by kernel_rfl) (by kernel_rfl) (by kernel_rfl) (fun _ _ _ h => h) (yieldsIf_load_mid (by rfl) 22 _ rfl w.heap.size 0 rfl (cl p) _ (fun w h => h.1) Tryd.underlying22 rfl sz1) (by assumption) ?_
          try simp only [List.getElem_toArray, List.getElem_cons_zero, List.getElem_cons_succ, Act.put, List.setIfInBounds_toArray, List.set_cons_zero, List.set_cons_succ]
          refine wpAnyH_take (i := 2) (oi := _) (v := ?v2) rfl (by kernel_rfl) (by kernel_rfl) (by kernel_rfl) (fun _ _ _ h => h) (Or.inl ⟨by rfl, ?hy2⟩) (by assumption) ?rest2
          case hy2 => (intro w hSw; (try dsimp only at hSw); go_split_ands; go_simp; try (with_reducible rfl))
          try simp only [List.getElem_toArray, List.getElem_cons_zero, List.getElem_cons_succ, Act.put, List.setIfInBounds_toArray, List.set_cons_zero, List.set_cons_succ]
          refine wpAnyH_take (i := 4) (oi := _) (v := .agg (u8s l)) rfl (by kernel_rfl) (by kernel_rfl) (by kernel_rfl) (fun _ _ _ h => h) (yieldsIf_load_mid (by rfl) 22 _ rfl (w.heap.size + 1) 0 rfl (cl l) _ (fun w h => h.2.1) Tryd.underlying22 rfl sz2) (by assumption) ?_
          try simp only [List.getElem_toArray, List.getElem_cons_zero, List.getElem_cons_succ, Act.put, List.setIfInBounds_toArray, List.set_cons_zero, List.set_cons_succ]
          refine wpAnyH_take (i := 5) (oi := _) (v := ?v5) rfl (by kernel_rfl) (by kernel_rfl) (by kernel_rfl) (fun _ _ _ h => h) (Or.inl ⟨by rfl, ?hy5⟩) (by assumption) ?rest5
          case hy5 => (intro w hSw; (try dsimp only at hSw); go_split_ands; go_simp; try (with_reducible rfl))
          try simp only [List.getElem_toArray, List.getElem_cons_zero, List.getElem_cons_succ, Act.put, List.setIfInBounds_toArray, List.set_cons_zero, List.set_cons_succ]
          refine wpAnyH_ready (rs := [3]) (by kernel_rfl) (by simp) ?_
          refine AllReadyH.cons (o := _) rfl (fun K hK => ?_) AllReadyH.nil
          go_simp
          refine (bit_nat p k _ HP.out (by omega)).mono ?_; rintro e w5 ⟨rfl, hb5⟩; have B5 : Hid (Below _ _ w5) := hb5; have s1 := range_below hHeld.1 B5.out (by have := hHeld.2.2.1; omega); have s2 := range_below hHeld.2.1 B5.out (by have := hHeld.2.2.1; omega); have s3 : w.heap.size + 2 ≤ w5.heap.size := Nat.le_trans hHeld.2.2.1 B5.out.size; have s4 := hHeld.2.2.2.trans (B5.out.mono hHeld.2.2.2.size); clear hb5 hHeld
          go_wp2_with fail
          refine hK.out _ _ ⟨s1, s2, s3, s4⟩ (fun hHeld => ?_)
          clear hK K
          try simp only [Act.put, List.setIfInBounds_toArray, List.set_cons_zero, List.set_cons_succ]
          refine wpAnyH_ready (rs := [6]) (by kernel_rfl) (by simp) ?_
          refine AllReadyH.cons (o := _) rfl (fun K hK => ?_) AllReadyH.nil
          go_simp
          refine (bit_nat l k _ HA.out (by omega)).mono ?_; rintro e w6 ⟨rfl, hb6⟩; have B6 : Hid (Below _ _ w6) := hb6; have s1 := range_below hHeld.1 B6.out (by have := hHeld.2.2.1; omega); have s2 := range_below hHeld.2.1 B6.out (by have := hHeld.2.2.1; omega); have s3 : w.heap.size + 2 ≤ w6.heap.size := Nat.le_trans hHeld.2.2.1 B6.out.size; have s4 := hHeld.2.2.2.trans (B6.out.mono hHeld.2.2.2.size); clear hb6 hHeld
          go_wp2_with fail
          refine hK.out _ _ ⟨s1, s2, s3, s4⟩ (fun hHeld => ?_)
          clear hK K
          try simp only [Act.put, List.setIfInBounds_toArray, List.set_cons_zero, List.set_cons_succ]
          refine wpAnyH_take (i := 7) (oi := _) (v := ?v7) rfl (by kernel_rfl) (by kernel_rfl) (by kernel_rfl) (fun _ _ _ h => h) (Or.inl ⟨by rfl, ?hy7⟩) (by assumption) ?rest7
          case hy7 => (intro w hSw; (try dsimp only at hSw); go_split_ands; go_simp; try (with_reducible rfl))
          try simp only [List.getElem_toArray, List.getElem_cons_zero, List.getElem_cons_succ, Act.put, List.setIfInBounds_toArray, List.set_cons_zero, List.set_cons_succ]
          refine wpAnyH_done (by kernel_rfl) ?_ _
          go_wp2
          refine ⟨⟨k + 1, by go_num, by omega, HZ2, ?_, ?_, s4⟩, by simp [intOf]; omega⟩
          · exact (RP.out.below (⟨B5.out.os, B5.out.tape, B5.out.output, B5.out.size, B5.out.block⟩ : Below wr.heap.size wr w5) RP.out.lt).below (⟨B6.out.os, B6.out.tape, B6.out.output, B6.out.size, B6.out.block⟩ : Below w5.heap.size w5 w6) (Nat.lt_of_lt_of_le RP.out.lt B5.out.size)
          · exact (RA.out.below (⟨B5.out.os, B5.out.tape, B5.out.output, B5.out.size, B5.out.block⟩ : Below wr.heap.size wr w5) RA.out.lt).below (⟨B6.out.os, B6.out.tape, B6.out.output, B6.out.size, B6.out.block⟩ : Below w5.heap.size w5 w6) (Nat.lt_of_lt_of_le RA.out.lt B5.out.size)
        · have HF : Hid (headB p l m = false) := headB_no hlt (by omega) hx
          have hx' : (bitI p k != bitI l k) = true := by simpa using hx
          clear hx
          go_wp2_with fail
          refine wp_region_held_drew (S := (fun w' => w'.rangeAt w.heap.size 0 (cl p) ∧ w'.rangeAt (w.heap.size + 1) 0 (cl l) ∧ w.heap.size + 2 ≤ w'.heap.size ∧ Below w.heap.size w w')) (by kernel_rfl) ?_ (fun hHeld => ?_)
          · exact ⟨RP.out.pre.range, RA.out.part.range, hsz, B4.out.drew⟩
          refine wpAnyH_take (i := 0) (oi := _) (v := ?vz0) rfl (by kernel_rfl) (by kernel_rfl) (by kernel_rfl) (fun _ _ _ h => h) (Or.inl ⟨by rfl, ?hyz0⟩) (by assumption) ?restz0
          case hyz0 => (intro w hSw; (try dsimp only at hSw); go_split_ands; go_simp; try (with_reducible rfl))
          try simp only [List.getElem_toArray, List.getElem_cons_zero, List.getElem_cons_succ, Act.put, List.setIfInBounds_toArray, List.set_cons_zero, List.set_cons_succ]
          refine wpAnyH_take (i := 1) (oi := _) (v := .agg (u8s p)) rfl (by kernel_rfl) (by kernel_rfl) (by kernel_rfl) (fun _ _ _ h => h) (yieldsIf_load_mid (by rfl) 22 _ rfl w.heap.size 0 rfl (cl p) _ (fun w h => h.1) Tryd.underlying22 rfl sz1) (by assumption) ?_
          try simp only [List.getElem_toArray, List.getElem_cons_zero, List.getElem_cons_succ, Act.put, List.setIfInBounds_toArray, List.set_cons_zero, List.set_cons_succ]
          refine wpAnyH_take (i := 2) (oi := _) (v := ?vz2) rfl (by kernel_rfl) (by kernel_rfl) (by kernel_rfl) (fun _ _ _ h => h) (Or.inl ⟨by rfl, ?hyz2⟩) (by assumption) ?restz2
          case hyz2 => (intro w hSw; (try dsimp only at hSw); go_split_ands; go_simp; try (with_reducible rfl))
          try simp only [List.getElem_toArray, List.getElem_cons_zero, List.getElem_cons_succ, Act.put, List.setIfInBounds_toArray, List.set_cons_zero, List.set_cons_succ]
          refine wpAnyH_take (i := 4) (oi := _) (v := .agg (u8s l)) rfl (by kernel_rfl) (by kernel_rfl) (by kernel_rfl) (fun _ _ _ h => h) (yieldsIf_load_mid (by rfl) 22 _ rfl (w.heap.size + 1) 0 rfl (cl l) _ (fun w h => h.2.1) Tryd.underlying22 rfl sz2) (by assumption) ?_
          try simp only [List.getElem_toArray, List.getElem_cons_zero, List.getElem_cons_succ, Act.put, List.setIfInBounds_toArray, List.set_cons_zero, List.set_cons_succ]
          refine wpAnyH_take (i := 5) (oi := _) (v := ?vz5) rfl (by kernel_rfl) (by kernel_rfl) (by kernel_rfl) (fun _ _ _ h => h) (Or.inl ⟨by rfl, ?hyz5⟩) (by assumption) ?restz5
          case hyz5 => (intro w hSw; (try dsimp only at hSw); go_split_ands; go_simp; try (with_reducible rfl))
          try simp only [List.getElem_toArray, List.getElem_cons_zero, List.getElem_cons_succ, Act.put, List.setIfInBounds_toArray, List.set_cons_zero, List.set_cons_succ]
          refine wpAnyH_ready (rs := [3]) (by kernel_rfl) (by simp) ?_
          refine AllReadyH.cons (o := _) rfl (fun K hK => ?_) AllReadyH.nil
          go_simp
          refine (bit_nat p k _ HP.out (by omega)).mono ?_; rintro e w5 ⟨rfl, hb5⟩; have B5 : Hid (Below _ _ w5) := hb5; have s1 := range_below hHeld.1 B5.out (by have := hHeld.2.2.1; omega); have s2 := range_below hHeld.2.1 B5.out (by have := hHeld.2.2.1; omega); have s3 : w.heap.size + 2 ≤ w5.heap.size := Nat.le_trans hHeld.2.2.1 B5.out.size; have s4 := hHeld.2.2.2.trans (B5.out.mono hHeld.2.2.2.size); clear hb5 hHeld
          go_wp2_with fail
          refine hK.out _ _ ⟨s1, s2, s3, s4⟩ (fun hHeld => ?_)
          clear hK K
          try simp only [Act.put, List.setIfInBounds_toArray, List.set_cons_zero, List.set_cons_succ]
          refine wpAnyH_ready (rs := [6]) (by kernel_rfl) (by simp) ?_
          refine AllReadyH.cons (o := _) rfl (fun K hK => ?_) AllReadyH.nil
          go_simp
          refine (bit_nat l k _ HA.out (by omega)).mono ?_; rintro e w6 ⟨rfl, hb6⟩; have B6 : Hid (Below _ _ w6) := hb6; have s1 := range_below hHeld.1 B6.out (by have := hHeld.2.2.1; omega); have s2 := range_below hHeld.2.1 B6.out (by have := hHeld.2.2.1; omega); have s3 : w.heap.size + 2 ≤ w6.heap.size := Nat.le_trans hHeld.2.2.1 B6.out.size; have s4 := hHeld.2.2.2.trans (B6.out.mono hHeld.2.2.2.size); clear hb6 hHeld
          go_wp2_with fail
          refine hK.out _ _ ⟨s1, s2, s3, s4⟩ (fun hHeld => ?_)
          clear hK K
          try simp only [Act.put, List.setIfInBounds_toArray, List.set_cons_zero, List.set_cons_succ]
          refine wpAnyH_take (i := 7) (oi := _) (v := ?vz7) rfl (by kernel_rfl) (by kernel_rfl) (by kernel_rfl) (fun _ _ _ h => h) (Or.inl ⟨by rfl, ?hyz7⟩) (by assumption) ?restz7
          case hyz7 => (intro w hSw; (try dsimp only at hSw); go_split_ands; go_simp; try (with_reducible rfl))
          try simp only [List.getElem_toArray, List.getElem_cons_zero, List.getElem_cons_succ, Act.put, List.setIfInBounds_toArray, List.set_cons_zero, List.set_cons_succ]
          refine wpAnyH_done (by kernel_rfl) ?_ _
          go_wp2
          go_ret
          exact ⟨ret_bool HF.out.symm, s4⟩
      · have i1 : ¬ (k : Int) < (m : Int) := by omega
        have HF : Hid (headB p l m = true) := by
          rw [Hid, headB, List.all_eq_true]
          intro i hi
          by_cases h : i < k
          · simp [HZ.out i h]
          · simp; omega
        go_wp2
        go_ret
        exact ⟨ret_bool HF.out.symm, B4.out⟩
end Go.Proofs.YtoijfnkbjdekoaaDoor
