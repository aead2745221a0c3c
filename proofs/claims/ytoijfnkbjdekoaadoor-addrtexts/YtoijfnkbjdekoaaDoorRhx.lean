/- The reference's sign of a group, and its groups. -/
import Derived.Test.YtoijfnkbjdekoaaDoorTxq
import Derived.BigQuiet
namespace Go.Proofs.YtoijfnkbjdekoaaDoor
open Go.ChangeShapes Go.WideShapes Go.ChangeAt Go.RowKit
set_option linter.unusedVariables false
set_option linter.unusedSimpArgs false

def signs : ByteArray := ⟨#[48, 49, 50, 51, 52, 53, 54, 55, 56, 57, 97, 98, 99, 100, 101, 102]⟩
theorem signs_all : ((List.range 16).all fun d => (signs.extract d (d + 1)).data.toList == [dg d]) = true := by kernel_rfl
theorem signs_at (d : Nat) (h : d < 16) : signs.extract d (d + 1) = ⟨#[dg d]⟩ := by
  have := List.all_eq_true.1 signs_all d (by simp; omega)
  have e := beq_iff_eq.1 this
  apply ByteArray.ext
  apply Array.ext'
  simpa using e

theorem cat2 (a b : List UInt8) : ((⟨a.toArray⟩ : ByteArray) ++ ⟨b.toArray⟩) = ⟨(a ++ b).toArray⟩ := by apply ByteArray.ext; simp [ByteArray.data_append]
set_option maxRecDepth 100000 in
set_option maxHeartbeats 800000 in
theorem refHex_small (n : Nat) (w : World) (h : n < 16) : Calls Tryd.prog 32 #[.int .i64 (n : Int)] w fun e w' => e = .returned (.string ⟨(hexT n).toArray⟩) ∧ w' = w := by
  have h1 : (n : Int).tmod 16 = (n : Int) := by rw [Int.tmod_eq_emod_of_nonneg (by omega)]; omega
  have h2 : (n : Int) < 16 := by omega
  have h3 := signs_at n h
  unfold signs at h3
  have HX : Hid (hexT n = [dg n]) := hexT_small n h
  go_enter Tryd.func32, Tryd.ntmps32
  go_wp2_with fail
  go_ret
  exact ⟨by rw [HX.out]; rfl, rfl⟩
set_option maxRecDepth 100000 in
set_option maxHeartbeats 800000 in
theorem refHex_step (n : Nat) (w : World) (h0 : 16 ≤ n) (h : n < 65536) (hc : Calls Tryd.prog 32 #[.int .i64 ((n / 16 : Nat) : Int)] w fun e w' => e = .returned (.string ⟨(hexT (n / 16)).toArray⟩) ∧ w' = w) :
    Calls Tryd.prog 32 #[.int .i64 (n : Int)] w fun e w' => e = .returned (.string ⟨(hexT n).toArray⟩) ∧ w' = w := by
  obtain ⟨d, hd⟩ : ∃ d, n % 16 = d := ⟨_, rfl⟩
  obtain ⟨q, hq⟩ : ∃ q, n / 16 = q := ⟨_, rfl⟩
  have hd16 : d < 16 := by omega
  have h1 : (n : Int).tmod 16 = (d : Int) := by rw [Int.tmod_eq_emod_of_nonneg (by omega)]; omega
  have h4 : (n : Int).tdiv 16 = (q : Int) := by rw [Int.tdiv_eq_ediv_of_nonneg (by omega)]; omega
  have h2 : ¬ (n : Int) < 16 := by omega
  have h3 := signs_at d hd16
  unfold signs at h3
  rw [hq] at hc
  have HX : Hid (hexT n = hexT q ++ [dg d]) := by rw [Hid, ← hq, ← hd]; exact hexT_step n h0 h
  have HC : Hid (Calls Tryd.prog 32 #[.int .i64 (q : Int)] w fun e w' => e = .returned (.string ⟨(hexT q).toArray⟩) ∧ w' = w) := hc
  have hq1 : q < 65536 := by omega
  have hw : wrap64 (q : Int) = (q : Int) := by unfold wrap64; omega
  clear hc hd hq
  have hTl : ¬ 9223372036854775807 < (hexT q).length + 1 := by have := (hexT_len q).2; omega
  generalize hexT q = T at *
  go_enter Tryd.func32, Tryd.ntmps32
  go_wp2_with fail
  refine HC.out.mono ?_
  rintro e w1 ⟨rfl, rfl⟩
  have h5 := cat2 T [dg d]
  go_wp2_with fail
  go_ret
  exact ⟨by rw [HX.out]; rfl, rfl⟩
theorem refHex_any : ∀ (k n : Nat) (w : World), n ≤ k → n < 65536 → Calls Tryd.prog 32 #[.int .i64 (n : Int)] w fun e w' => e = .returned (.string ⟨(hexT n).toArray⟩) ∧ w' = w
  | 0, n, w, h, hn => refHex_small n w (by omega)
  | k + 1, n, w, h, hn => by
    by_cases h16 : n < 16
    · exact refHex_small n w h16
    · exact refHex_step n w (by omega) hn (refHex_any k (n / 16) w (by omega) (by omega))

/-! The reference's groups. -/
def rgK (l : List Int) (k : Nat) : List Int := (List.range 8).map fun j => if 2 * j + 1 < k then grp l j else if 2 * j < k then l.getD (2 * j) 0 else 0
theorem rgK_len (l : List Int) (k : Nat) : (rgK l k).length = 8 := by simp [rgK]
theorem rgK_at (l : List Int) (k j : Nat) (h : j < 8) : (rgK l k).getD j 0 = if 2 * j + 1 < k then grp l j else if 2 * j < k then l.getD (2 * j) 0 else 0 := by
  rw [List.getD_eq_getElem?_getD, rgK, List.getElem?_map, List.getElem?_range h]; rfl
theorem rgK_next (l : List Int) (k : Nat) (h : k < 16) : (rgK l k).set (k / 2) (256 * (rgK l k).getD (k / 2) 0 + l.getD k 0) = rgK l (k + 1) := by
  apply List.ext_getElem?
  intro i
  rw [List.getElem?_set, rgK_len]
  by_cases hi : i < 8
  · have e2 : (rgK l (k + 1))[i]? = some (if 2 * i + 1 < k + 1 then grp l i else if 2 * i < k + 1 then l.getD (2 * i) 0 else 0) := by rw [rgK, List.getElem?_map, List.getElem?_range hi]; rfl
    have e1 : (rgK l k)[i]? = some (if 2 * i + 1 < k then grp l i else if 2 * i < k then l.getD (2 * i) 0 else 0) := by rw [rgK, List.getElem?_map, List.getElem?_range hi]; rfl
    rw [e2]
    by_cases hk : k / 2 = i
    · rw [if_pos hk, if_pos (by omega), rgK_at l k _ (by omega), hk]
      rcases Nat.mod_two_eq_zero_or_one k with hm | hm
      · rw [if_neg (by omega), if_neg (by omega), if_neg (by omega), if_pos (by omega), show 2 * i = k by omega]; simp
      · rw [if_neg (by omega), if_pos (by omega), if_pos (by omega), grp, show 2 * i + 1 = k by omega]
    · rw [if_neg hk, e1]
      have c1 : (2 * i + 1 < k + 1) = (2 * i + 1 < k) := propext (by omega)
      have c2 : (2 * i < k + 1) = (2 * i < k) := propext (by omega)
      simp only [c1, c2]
  · rw [if_neg (by omega), List.getElem?_eq_none (by rw [rgK_len]; omega), List.getElem?_eq_none (by rw [rgK_len]; omega)]
theorem rgK_end (l : List Int) : rgK l 16 = grpL l := by
  apply List.ext_getElem?
  intro i
  by_cases hi : i < 8
  · rw [rgK, grpL, List.getElem?_map, List.getElem?_map, List.getElem?_range hi]
    show some (if 2 * i + 1 < 16 then grp l i else if 2 * i < 16 then l.getD (2 * i) 0 else 0) = some (grp l i)
    rw [if_pos (by omega)]
  · rw [List.getElem?_eq_none (by rw [rgK_len]; omega), List.getElem?_eq_none (by rw [grpL_len]; omega)]
theorem rgK_start (l : List Int) : rgK l 0 = List.replicate 8 0 := by
  apply List.ext_getElem?
  intro i
  by_cases hi : i < 8
  · rw [rgK, List.getElem?_map, List.getElem?_range hi, List.getElem?_replicate, if_pos hi]
    show some (if 2 * i + 1 < 0 then grp l i else if 2 * i < 0 then l.getD (2 * i) 0 else 0) = some 0
    rw [if_neg (by omega), if_neg (by omega)]
  · rw [List.getElem?_eq_none (by rw [rgK_len]; omega), List.getElem?_eq_none (by simp; omega)]
theorem rgK_in (l : List Int) (k : Nat) (ha : Adr l) : ∀ x ∈ rgK l k, 0 ≤ x ∧ x < 65536 := by
  intro x hx
  simp only [rgK, List.mem_map, List.mem_range] at hx
  obtain ⟨j, hj, rfl⟩ := hx
  have hb : ∀ i, i < 16 → 0 ≤ l.getD i 0 ∧ l.getD i 0 < 256 := fun i hi => by
    rw [List.getD_eq_getElem?_getD, List.getElem?_eq_getElem (by rw [ha.1]; exact hi)]; exact ha.2 _ (List.getElem_mem _)
  have h1 := hb (2 * j) (by omega)
  have h2 := hb (2 * j + 1) (by omega)
  split
  · unfold grp; omega
  · split
    · omega
    · omega

set_option maxRecDepth 100000 in
set_option maxHeartbeats 1600000 in
theorem refGroups_any (l : List Int) (w : World) (ha : Adr l) :
    Calls Tryd.prog 12 #[.agg (u8s l)] w fun e w' => e = .returned (.agg (i64s (grpL l))) ∧ Below w.heap.size w w' := by
  have h8 := z8
  have hA : Row (((w.alloc (.cells (u8s l) 22)).alloc (.cells (i64s z8L) 23)).alloc (.cells (i64s z8L) 23)) w.heap.size 22 (u8s l) := ((Row.new w 22 _).alloc _).alloc _
  have hR : Row (((w.alloc (.cells (u8s l) 22)).alloc (.cells (i64s z8L) 23)).alloc (.cells (i64s z8L) 23)) (w.heap.size + 1) 23 (i64s z8L) := by
    have := (Row.new (w.alloc (.cells (u8s l) 22)) 23 (i64s z8L)).alloc (.cells (i64s z8L) 23)
    rw [World.size_alloc] at this
    exact this
  have hG : Row (((w.alloc (.cells (u8s l) 22)).alloc (.cells (i64s z8L) 23)).alloc (.cells (i64s z8L) 23)) (w.heap.size + 1 + 1) 23 (i64s z8L) := by
    have := Row.new ((w.alloc (.cells (u8s l) 22)).alloc (.cells (i64s z8L) 23)) 23 (i64s z8L)
    rw [World.size_alloc, World.size_alloc] at this
    exact this
  have hB : Below w.heap.size w (((w.alloc (.cells (u8s l) 22)).alloc (.cells (i64s z8L) 23)).alloc (.cells (i64s z8L) 23)) := (below_new2 w _ _).alloc (by simp; omega) _
  have RA0 : Hid _ := hA
  have RR0 : Hid _ := hR
  have RG0 : Hid (Row (((w.alloc (.cells (u8s l) 22)).alloc (.cells (i64s z8L) 23)).alloc (.cells (i64s z8L) 23)) (w.heap.size + 1 + 1) 23 (i64s (rgK l 0))) := by rw [rgK_start]; exact hG
  have HB0 : Hid _ := hB
  clear hA hR hG hB
  have HA : Hid (Adr l) := ha
  clear ha
  go_enter Tryd.func12, Tryd.ntmps12
  go_wp2_with fail
  go_loopw [4] (fun i wr => ∃ k : Nat, k ≤ 16 ∧ i = .int .i64 k ∧ Hid (Row wr w.heap.size 22 (u8s l)) ∧ Hid (Row wr (w.heap.size + 1) 23 (i64s z8L)) ∧ Hid (Row wr (w.heap.size + 1 + 1) 23 (i64s (rgK l k))) ∧ Hid (Below w.heap.size w wr))
    (fun i _ => 16 - (intOf i).toNat)
  case atStart => exact ⟨0, by omega, rfl, RA0, RR0, RG0, HB0⟩
  case round =>
    clear RA0 RR0 RG0 HB0
    obtain ⟨k, hk, rfl, RA, RR, RG, HB⟩ := hrel
    by_cases hlt : k < 16
    · have i1 : (k : Int) < 16 := by omega
      obtain ⟨j, hj⟩ : ∃ j, k / 2 = j := ⟨_, rfl⟩
      have hj8 : j < 8 := by omega
      have hj8' : (j : Int) < 8 := by omega
      have hq : (k : Int).tdiv 2 = (j : Int) := by rw [Int.tdiv_eq_ediv_of_nonneg (by omega)]; omega
      have ca : wr.cell? ⟨w.heap.size, k, none⟩ = some (.int .u8 (l.getD k 0)) := by rw [RA.out.cell, u8s_at _ _ (by rw [HA.out.1]; exact hlt)]
      have cg : wr.cell? ⟨w.heap.size + 1 + 1, j, none⟩ = some (.int .i64 ((rgK l k).getD j 0)) := by rw [RG.out.cell, i64s_at _ _ (by rw [rgK_len]; exact hj8)]
      have fg := RG.out.frozen j
      have hx : 0 ≤ l.getD k 0 ∧ l.getD k 0 < 256 := by
        rw [List.getD_eq_getElem?_getD, List.getElem?_eq_getElem (by rw [HA.out.1]; exact hlt)]; exact HA.out.2 _ (List.getElem_mem _)
      have hy : 0 ≤ (rgK l k).getD j 0 ∧ (rgK l k).getD j 0 < 65536 := by
        rw [List.getD_eq_getElem?_getD, List.getElem?_eq_getElem (by rw [rgK_len]; exact hj8)]; exact rgK_in l k HA.out _ (List.getElem_mem _)
      have HN : Hid ((rgK l k).set j (256 * (rgK l k).getD j 0 + l.getD k 0) = rgK l (k + 1)) := by rw [Hid, ← hj]; exact rgK_next l k hlt
      have hne : w.heap.size + 1 + 1 ≠ w.heap.size := by omega
      generalize l.getD k 0 = x at *
      generalize (rgK l k).getD j 0 = y at *
      clear hj
      have HR2 : Hid (Row (wr.setCell ⟨w.heap.size + 1 + 1, j, none⟩ (.int .i64 (256 * y + x))) (w.heap.size + 1 + 1) 23 (i64s (rgK l (k + 1)))) := by
        rw [Hid, ← HN.out, ← i64s_set]; exact RG.out.set _ _
      go_wp2_with fail
      go_region
      go_wp2_with fail
      go_roundw
      case rel => exact ⟨k + 1, by omega, by go_num, (RA.out.other _ _ (by show w.heap.size ≠ w.heap.size + 1 + 1; omega)).drew, (RR.out.other _ _ (by show w.heap.size + 1 ≠ w.heap.size + 1 + 1; omega)).drew, HR2.out.drew, (HB.out.setCell (by show w.heap.size ≤ w.heap.size + 1 + 1; omega) _).drew⟩
      case measure => simp [intOf]; omega
    · obtain rfl : k = 16 := by omega
      have hln : (grpL l).length = 8 := grpL_len l
      have hG : Row wr (w.heap.size + 1 + 1) 23 (i64s (grpL l)) := RG.out.as (by rw [rgK_end])
      obtain ⟨y, hy⟩ : ∃ y, grpL l = y := ⟨_, rfl⟩
      have HY : Hid (grpL l = y) := hy
      rw [hy] at hG hln
      clear hy
      go_wp2_with (first
        | (refine ld23 _ rfl rfl (w.heap.size + 1 + 1) 0 rfl y hln hG.part ?_)
        | (refine st23 _ _ rfl rfl (w.heap.size + 1) y hln rfl rfl 23 _ (by rfl) RR.out ?_))
      refine bodyPost_ret (res23 rfl _ _ _ 23 y hln rfl (RR.out.setRow _)) rfl ⟨by rw [HY.out], ?_⟩
      exact below_setRow HB.out (by omega) _
end Go.Proofs.YtoijfnkbjdekoaaDoor
