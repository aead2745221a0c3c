/- The walk of SumHeaders where all goes well. -/
import Derived.Test.YtinfkjnneibklaaHeadWalk
namespace Go.Proofs.Ytinfkjnneibklaa
open Go.ChangeShapes Go.WideShapes Go.ChangeAt Go.RowKit
set_option linter.unusedVariables false
set_option linter.unusedSimpArgs false

set_option maxRecDepth 1000000 in
set_option maxHeartbeats 1600000 in
theorem headers_ok (f t : List Int) (next : Int) (k : Nat) (a : Option Addr) (n0 cap : Nat) (L : List Int) (w : World) (hf : Adr f) (ht : Adr t) (h : Lies .u8 w a n0 cap L) (ho : Oct L) (hE : psE next (L.take (min n0 1300)).length = 0) (hp : k % 2 = 0 ∧ k + 2 ≤ min n0 1300) :
    Calls Try.prog 4 #[.agg (arr f), .agg (arr t), .int .i64 next, .slice a n0 cap, .int .i64 k] w fun e w' => e = .returned (.bool true) ∧ Below w.heap.size w w' := by
  obtain ⟨f1, t1, b1, z1⟩ := box2 w 34 f t
  have F1 := hid f1
  have T1 := hid t1
  have B1 := hid b1
  have hcm : n0 ≤ cap ∧ cap ≤ maxLen := ⟨h.2.1, h.2.2.1⟩
  unfold maxLen at hcm
  have L1 := hid ((h.pre (min n0 1300) (Nat.min_le_left ..)).below b1)
  have HF := hid hf
  have HT := hid ht
  have HO := hid (oct_take ho (min n0 1300))
  have hmin : min n0 1300 ≤ 1300 := Nat.min_le_right ..
  have hM : (if (1300 : Int) < (n0 : Int) then (1300 : Int) else (n0 : Int)) = ((min n0 1300 : Nat) : Int) := by split <;> omega
  have hmin2 : min n0 1300 ≤ n0 := Nat.min_le_left ..
  have HLn : Hid ((L.take (min n0 1300)).length = min n0 1300) := by have := h.1; rw [Hid, List.length_take]; omega
  generalize min n0 1300 = m at *
  generalize L.take m = l at *
  have HC := hid (chk_yes (f := f) (t := t) hE)
  have HE := hid hE
  have HP := hid hp
  have hr : ((k : Int) % 2 != 0) = false := by simp; omega
  have hd : decide ((m : Int) - 2 < (k : Int)) = false := by simp; omega
  have HR := hid (setL_right f t next l k hf ht HO.out hE hp.1 (by rw [HLn.out]; exact hp.2))
  have HSl : Hid ((setL f t next l k).length = m) := by rw [Hid, setL_len]; exact HLn.out
  have HSo := hid (setL_oct f t next l k HO.out)
  have HSt := hid (setL_take f t next l k (by rw [HLn.out]; exact hp.2))
  have HSd := hid (setL_drop f t next l k (by rw [HLn.out]; exact hp.2))
  clear f1 t1 b1 z1 hf ht ho h hE
  go_enter Try.func4, Try.ntmps4
  go_wp2_with (first
    | (refine ld34 _ rfl rfl w.heap.size rfl 34 f HF.out F1.out ?_)
    | (refine ld34 _ rfl rfl (w.heap.size + 1) rfl 34 t HT.out T1.out ?_))
  generalize (w.alloc (.cells (arr f) 34)).alloc (.cells (arr t) 34) = w1 at *
  refine (pseudo_any f t next a m cap l _ HF.out HT.out L1.out HO.out).mono ?_
  rintro e w2 ⟨rfl, hb2⟩
  rw [HE.out]
  have F2 := hid (F1.out.below hb2)
  have T2 := hid (T1.out.below hb2)
  have L2 := hid (L1.out.below hb2)
  have B2 := hid (bthen B1.out hb2)
  clear hb2 F1 T1 L1 B1
  go_wp2_with (first
    | (refine ld34 _ rfl rfl w.heap.size rfl 34 f HF.out F2.out ?_)
    | (refine ld34 _ rfl rfl (w.heap.size + 1) rfl 34 t HT.out T2.out ?_))
  refine (refPseudo_any f t next a m cap l _ HF.out HT.out L2.out HO.out).mono ?_
  rintro e w3 ⟨rfl, hb3⟩
  rw [HE.out]
  have F3 := hid (F2.out.below hb3)
  have T3 := hid (T2.out.below hb3)
  have L3 := hid (L2.out.below hb3)
  have B3 := hid (bthen B2.out hb3)
  clear hb3 F2 T2 L2 B2
  go_wp2_with (first
    | (refine ld34 _ rfl rfl w.heap.size rfl 34 f HF.out F3.out ?_)
    | (refine ld34 _ rfl rfl (w.heap.size + 1) rfl 34 t HT.out T3.out ?_))
  refine (check_any f t next a m cap l _ HF.out HT.out L3.out HO.out).mono ?_
  rintro e w4 ⟨rfl, hb4⟩
  rw [HC.out]
  have F4 := hid (F3.out.below hb4)
  have T4 := hid (T3.out.below hb4)
  have L4 := hid (L3.out.below hb4)
  have B4 := hid (bthen B3.out hb4)
  clear hb4 F3 T3 L3 B3
  go_wp2_with (first
    | (refine ld34 _ rfl rfl w.heap.size rfl 34 f HF.out F4.out ?_)
    | (refine ld34 _ rfl rfl (w.heap.size + 1) rfl 34 t HT.out T4.out ?_))
  refine (set_ok f t next k a m cap l _ HF.out HT.out L4.out HO.out HE.out HP.out).mono ?_
  rintro e w5 ⟨v5, rfl, ho5, hb5⟩
  have ho5' : w5.ownsRow w4.heap.size 5 1 v5 (setL f t next l k).length (u8s (setL f t next l k)) := by rw [HSl.out]; exact ho5
  obtain ⟨a5, cap5, rfl, hl5, _⟩ := owns_lies ho5'
  rw [HSl.out] at hl5 ⊢
  have M5 := hid hl5
  clear ho5 ho5' hl5
  have F5 := hid (F4.out.below hb5)
  have T5 := hid (T4.out.below hb5)
  have L5 := hid (L4.out.below hb5)
  have B5 := hid (bthen B4.out hb5)
  clear hb5 F4 T4 L4 B4
  generalize setL f t next l k = S at *
  generalize psV f t next l = V at *
  go_wp2_with (first
    | (refine ld34 _ rfl rfl w.heap.size rfl 34 f HF.out F5.out ?_)
    | (refine ld34 _ rfl rfl (w.heap.size + 1) rfl 34 t HT.out T5.out ?_))
  refine (check_any f t next a5 m cap5 S _ HF.out HT.out M5.out HSo.out).mono ?_
  rintro e w6 ⟨rfl, hb6⟩
  rw [HR.out]
  have M6 := hid (M5.out.below hb6)
  have F6 := hid (F5.out.below hb6)
  have T6 := hid (T5.out.below hb6)
  have L6 := hid (L5.out.below hb6)
  have B6 := hid (bthen B5.out hb6)
  clear hb6 F5 T5 L5 B5
  clear M5
  have hk1 : k ≤ m := by omega
  have hc5 : m ≤ cap5 ∧ cap5 ≤ maxLen := ⟨M6.out.2.1, M6.out.2.2.1⟩
  unfold maxLen at hc5
  obtain ⟨hm5, hc5'⟩ := hc5
  obtain ⟨hm0, hc0'⟩ := hcm
  have hmc : m ≤ cap := by omega
  have hk5 : k ≤ cap5 := by omega
  have hkc : k ≤ cap := by omega
  obtain ⟨k2, hk2⟩ : ∃ k2, k2 = k + 2 := ⟨_, rfl⟩
  have hw2 : IntKind.i64.wrap ((k : Int) + 2) = (k2 : Int) := by rw [IntKind.wrap_i64]; omega
  have hkm : k2 ≤ m := by omega
  have hkm5 : k2 ≤ cap5 := by omega
  have hkmc : k2 ≤ cap := by omega
  rw [← hk2] at HSd
  clear hk2
  go_wp2_with fail
  refine wp_region_held_drew (S := fun _ => True) (by kernel_rfl) ?_ (fun hHeld => ?_)
  · trivial
  refine wpAnyH_ready (rs := [0]) (by kernel_rfl) (by simp) ?_
  refine AllReadyH.cons (o := _) rfl (fun K hK => ?_) AllReadyH.nil
  go_simp
  refine (known_any _).mono ?_
  rintro e w7 ⟨rfl, hb7⟩
  have M7 := hid (Lies.below (show Lies .u8 w6.drew _ _ _ _ from M6.out) hb7)
  have L7 := hid (Lies.below (show Lies .u8 w6.drew _ _ _ _ from L6.out) hb7)
  have B7 := hid (bthen (bdrew B6.out 1) hb7)
  clear hb7 M6 L6 B6 F6 T6
  go_wp2_with fail
  refine hK.out _ _ trivial (fun hHeld => ?_)
  clear hK K
  try simp only [List.getElem_toArray, List.getElem_cons_zero, List.getElem_cons_succ, Act.put, List.setIfInBounds_toArray, List.set_cons_zero, List.set_cons_succ]
  refine wpAnyH_take (i := 1) (oi := _) (v := ?vq1) rfl (by kernel_rfl) (by kernel_rfl) (by kernel_rfl) (fun _ _ _ h => h) (Or.inl ⟨by rfl, ?hyq1⟩) (by assumption) ?restq1
  case hyq1 => (intro w hSw; (try dsimp only at hSw); go_split_ands; go_simp; try (with_reducible rfl))
  try simp only [List.getElem_toArray, List.getElem_cons_zero, List.getElem_cons_succ, Act.put, List.setIfInBounds_toArray, List.set_cons_zero, List.set_cons_succ]
  refine wpAnyH_take (i := 2) (oi := _) (v := ?vq2) rfl (by kernel_rfl) (by kernel_rfl) (by kernel_rfl) (fun _ _ _ h => h) (Or.inl ⟨by rfl, ?hyq2⟩) (by assumption) ?restq2
  case hyq2 => (intro w hSw; (try dsimp only at hSw); go_split_ands; go_simp; try (with_reducible rfl))
  try simp only [List.getElem_toArray, List.getElem_cons_zero, List.getElem_cons_succ, Act.put, List.setIfInBounds_toArray, List.set_cons_zero, List.set_cons_succ]
  refine wpAnyH_take (i := 3) (oi := _) (v := ?vq3) rfl (by kernel_rfl) (by kernel_rfl) (by kernel_rfl) (fun _ _ _ h => h) (Or.inl ⟨by rfl, ?hyq3⟩) (by assumption) ?restq3
  case hyq3 => (intro w hSw; (try dsimp only at hSw); go_split_ands; go_simp; try (with_reducible rfl))
  try simp only [List.getElem_toArray, List.getElem_cons_zero, List.getElem_cons_succ, Act.put, List.setIfInBounds_toArray, List.set_cons_zero, List.set_cons_succ]
  refine wpAnyH_take (i := 4) (oi := _) (v := ?vq4) rfl (by kernel_rfl) (by kernel_rfl) (by kernel_rfl) (fun _ _ _ h => h) (Or.inl ⟨by rfl, ?hyq4⟩) (by assumption) ?restq4
  case hyq4 => (intro w hSw; (try dsimp only at hSw); go_split_ands; go_simp; try (with_reducible rfl))
  try simp only [List.getElem_toArray, List.getElem_cons_zero, List.getElem_cons_succ, Act.put, List.setIfInBounds_toArray, List.set_cons_zero, List.set_cons_succ]
  refine wpAnyH_take (i := 5) (oi := _) (v := ?vq5) rfl (by kernel_rfl) (by kernel_rfl) (by kernel_rfl) (fun _ _ _ h => h) (Or.inl ⟨by rfl, ?hyq5⟩) (by assumption) ?restq5
  case hyq5 => (intro w hSw; (try dsimp only at hSw); go_split_ands; go_simp; try (with_reducible rfl))
  try simp only [List.getElem_toArray, List.getElem_cons_zero, List.getElem_cons_succ, Act.put, List.setIfInBounds_toArray, List.set_cons_zero, List.set_cons_succ]
  refine wpAnyH_take (i := 6) (oi := _) (v := ?vq6) rfl (by kernel_rfl) (by kernel_rfl) (by kernel_rfl) (fun _ _ _ h => h) (Or.inl ⟨by rfl, ?hyq6⟩) (by assumption) ?restq6
  case hyq6 => (intro w hSw; (try dsimp only at hSw); go_split_ands; go_simp; try (with_reducible rfl))
  try simp only [List.getElem_toArray, List.getElem_cons_zero, List.getElem_cons_succ, Act.put, List.setIfInBounds_toArray, List.set_cons_zero, List.set_cons_succ]
  refine wpAnyH_take (i := 7) (oi := _) (v := ?vq7) rfl (by kernel_rfl) (by kernel_rfl) (by kernel_rfl) (fun _ _ _ h => h) (Or.inl ⟨by rfl, ?hyq7⟩) (by assumption) ?restq7
  case hyq7 => (intro w hSw; (try dsimp only at hSw); go_split_ands; go_simp; try (with_reducible rfl))
  try simp only [List.getElem_toArray, List.getElem_cons_zero, List.getElem_cons_succ, Act.put, List.setIfInBounds_toArray, List.set_cons_zero, List.set_cons_succ]
  refine wpAnyH_ready (rs := [8]) (by kernel_rfl) (by simp) ?_
  refine AllReadyH.cons (o := _) rfl (fun K hK => ?_) AllReadyH.nil
  go_simp
  refine (same_any _ _ _ _ _ _ (S.take k) (l.take k) _ (M7.out.pre k hk1) (L7.out.pre k hk1)).mono ?_
  rintro e w8 ⟨rfl, q, rfl⟩
  rw [HSt.out, beq_self_eq_true]
  go_wp2_with fail
  refine hK.out _ _ trivial (fun hHeld => ?_)
  clear hK K
  try simp only [List.getElem_toArray, List.getElem_cons_zero, List.getElem_cons_succ, Act.put, List.setIfInBounds_toArray, List.set_cons_zero, List.set_cons_succ]
  refine wpAnyH_take (i := 9) (oi := _) (v := ?vq9) rfl (by kernel_rfl) (by kernel_rfl) (by kernel_rfl) (fun _ _ _ h => h) (Or.inl ⟨by rfl, ?hyq9⟩) (by assumption) ?restq9
  case hyq9 => (intro w hSw; (try dsimp only at hSw); go_split_ands; go_simp; try (with_reducible rfl))
  try simp only [List.getElem_toArray, List.getElem_cons_zero, List.getElem_cons_succ, Act.put, List.setIfInBounds_toArray, List.set_cons_zero, List.set_cons_succ]
  refine wpAnyH_take (i := 10) (oi := _) (v := ?vq10) rfl (by kernel_rfl) (by kernel_rfl) (by kernel_rfl) (fun _ _ _ h => h) (Or.inl ⟨by rfl, ?hyq10⟩) (by assumption) ?restq10
  case hyq10 => (intro w hSw; (try dsimp only at hSw); go_split_ands; go_simp; try (with_reducible rfl))
  try simp only [List.getElem_toArray, List.getElem_cons_zero, List.getElem_cons_succ, Act.put, List.setIfInBounds_toArray, List.set_cons_zero, List.set_cons_succ]
  refine wpAnyH_take (i := 11) (oi := _) (v := ?vq11) rfl (by kernel_rfl) (by kernel_rfl) (by kernel_rfl) (fun _ _ _ h => h) (Or.inl ⟨by rfl, ?hyq11⟩) (by assumption) ?restq11
  case hyq11 => (intro w hSw; (try dsimp only at hSw); go_split_ands; go_simp; try (with_reducible rfl))
  try simp only [List.getElem_toArray, List.getElem_cons_zero, List.getElem_cons_succ, Act.put, List.setIfInBounds_toArray, List.set_cons_zero, List.set_cons_succ]
  refine wpAnyH_take (i := 12) (oi := _) (v := ?vq12) rfl (by kernel_rfl) (by kernel_rfl) (by kernel_rfl) (fun _ _ _ h => h) (Or.inl ⟨by rfl, ?hyq12⟩) (by assumption) ?restq12
  case hyq12 => (intro w hSw; (try dsimp only at hSw); go_split_ands; go_simp; try (with_reducible rfl))
  try simp only [List.getElem_toArray, List.getElem_cons_zero, List.getElem_cons_succ, Act.put, List.setIfInBounds_toArray, List.set_cons_zero, List.set_cons_succ]
  refine wpAnyH_take (i := 13) (oi := _) (v := ?vq13) rfl (by kernel_rfl) (by kernel_rfl) (by kernel_rfl) (fun _ _ _ h => h) (Or.inl ⟨by rfl, ?hyq13⟩) (by assumption) ?restq13
  case hyq13 => (intro w hSw; (try dsimp only at hSw); go_split_ands; go_simp; try (with_reducible rfl))
  try simp only [List.getElem_toArray, List.getElem_cons_zero, List.getElem_cons_succ, Act.put, List.setIfInBounds_toArray, List.set_cons_zero, List.set_cons_succ]
  refine wpAnyH_take (i := 14) (oi := _) (v := ?vq14) rfl (by kernel_rfl) (by kernel_rfl) (by kernel_rfl) (fun _ _ _ h => h) (Or.inl ⟨by rfl, ?hyq14⟩) (by assumption) ?restq14
  case hyq14 => (intro w hSw; (try dsimp only at hSw); go_split_ands; go_simp; try (with_reducible rfl))
  try simp only [List.getElem_toArray, List.getElem_cons_zero, List.getElem_cons_succ, Act.put, List.setIfInBounds_toArray, List.set_cons_zero, List.set_cons_succ]
  refine wpAnyH_take (i := 15) (oi := _) (v := ?vq15) rfl (by kernel_rfl) (by kernel_rfl) (by kernel_rfl) (fun _ _ _ h => h) (Or.inl ⟨by rfl, ?hyq15⟩) (by assumption) ?restq15
  case hyq15 => (intro w hSw; (try dsimp only at hSw); go_split_ands; go_simp; try (with_reducible rfl))
  try simp only [List.getElem_toArray, List.getElem_cons_zero, List.getElem_cons_succ, Act.put, List.setIfInBounds_toArray, List.set_cons_zero, List.set_cons_succ]
  refine wpAnyH_take (i := 16) (oi := _) (v := ?vq16) rfl (by kernel_rfl) (by kernel_rfl) (by kernel_rfl) (fun _ _ _ h => h) (Or.inl ⟨by rfl, ?hyq16⟩) (by assumption) ?restq16
  case hyq16 => (intro w hSw; (try dsimp only at hSw); go_split_ands; go_simp; try (with_reducible rfl))
  try simp only [List.getElem_toArray, List.getElem_cons_zero, List.getElem_cons_succ, Act.put, List.setIfInBounds_toArray, List.set_cons_zero, List.set_cons_succ]
  refine wpAnyH_take (i := 17) (oi := _) (v := ?vq17) rfl (by kernel_rfl) (by kernel_rfl) (by kernel_rfl) (fun _ _ _ h => h) (Or.inl ⟨by rfl, ?hyq17⟩) (by assumption) ?restq17
  case hyq17 => (intro w hSw; (try dsimp only at hSw); go_split_ands; go_simp; try (with_reducible rfl))
  try simp only [List.getElem_toArray, List.getElem_cons_zero, List.getElem_cons_succ, Act.put, List.setIfInBounds_toArray, List.set_cons_zero, List.set_cons_succ]
  refine wpAnyH_take (i := 18) (oi := _) (v := ?vq18) rfl (by kernel_rfl) (by kernel_rfl) (by kernel_rfl) (fun _ _ _ h => h) (Or.inl ⟨by rfl, ?hyq18⟩) (by assumption) ?restq18
  case hyq18 => (intro w hSw; (try dsimp only at hSw); go_split_ands; go_simp; try (with_reducible rfl))
  try simp only [List.getElem_toArray, List.getElem_cons_zero, List.getElem_cons_succ, Act.put, List.setIfInBounds_toArray, List.set_cons_zero, List.set_cons_succ]
  refine wpAnyH_ready (rs := [19]) (by kernel_rfl) (by simp) ?_
  refine AllReadyH.cons (o := _) rfl (fun K hK => ?_) AllReadyH.nil
  go_simp
  have M9 := hid ((M7.out.drewN q).cut k2 (m - k2) cap5 (by omega) (by omega) (Nat.le_refl _) (a' := if cap5 = k2 then a5 else Option.map (fun x => x.add k2) a5) (fun h => if_neg h) (fun h => if_pos h))
  have L9 := hid ((L7.out.drewN q).cut k2 (m - k2) cap (by omega) (by omega) (Nat.le_refl _) (a' := if cap = k2 then a else Option.map (fun x => x.add k2) a) (fun h => if_neg h) (fun h => if_pos h))
  refine (same_any _ _ _ _ _ _ _ _ _ M9.out L9.out).mono ?_
  rintro e w9 ⟨rfl, q9, rfl⟩
  rw [HSd.out, beq_self_eq_true]
  clear M9 L9
  generalize (if cap5 = k2 then a5 else Option.map (fun x => x.add k2) a5) = x5
  generalize (if cap = k2 then a else Option.map (fun x => x.add k2) a) = x6
  go_wp2_with fail
  refine hK.out _ _ trivial (fun hHeld => ?_)
  clear hK K
  try simp only [List.getElem_toArray, List.getElem_cons_zero, List.getElem_cons_succ, Act.put, List.setIfInBounds_toArray, List.set_cons_zero, List.set_cons_succ]
  refine wpAnyH_take (i := 20) (oi := _) (v := ?vq20) rfl (by kernel_rfl) (by kernel_rfl) (by kernel_rfl) (fun _ _ _ h => h) (Or.inl ⟨by rfl, ?hyq20⟩) (by assumption) ?restq20
  case hyq20 => (intro w hSw; (try dsimp only at hSw); go_split_ands; go_simp; try (with_reducible rfl))
  try simp only [List.getElem_toArray, List.getElem_cons_zero, List.getElem_cons_succ, Act.put, List.setIfInBounds_toArray, List.set_cons_zero, List.set_cons_succ]
  refine wpAnyH_take (i := 21) (oi := _) (v := ?vq21) rfl (by kernel_rfl) (by kernel_rfl) (by kernel_rfl) (fun _ _ _ h => h) (Or.inl ⟨by rfl, ?hyq21⟩) (by assumption) ?restq21
  case hyq21 => (intro w hSw; (try dsimp only at hSw); go_split_ands; go_simp; try (with_reducible rfl))
  try simp only [List.getElem_toArray, List.getElem_cons_zero, List.getElem_cons_succ, Act.put, List.setIfInBounds_toArray, List.set_cons_zero, List.set_cons_succ]
  refine wpAnyH_done (by kernel_rfl) ?_ _
  all_goals
    go_wp2_with fail
    go_ret
    exact ⟨rfl, bdrew B7.out (q + q9)⟩

theorem headers_walk (f t : List Int) (next : Int) (a : Option Addr) (n0 cap : Nat) (L : List Int) (at_ : Int) (w : World) (hf : Adr f) (ht : Adr t) (w2 : (Lit.int .i64 next).wf = true) (h : IsRow .u8 w a n0 cap L) (w4 : (Lit.int .i64 at_).wf = true) :
    Calls Try.prog 4 #[.agg (arr f), .agg (arr t), .int .i64 next, .slice a n0 cap, .int .i64 at_] w fun e w' => e = .returned (.bool true) ∧ Below w.heap.size w w' := by
  by_cases hE : psE next ((L.take n0).take (min n0 1300)).length = 0
  · by_cases hp : 0 ≤ at_ ∧ at_ % 2 = 0 ∧ at_ + 2 ≤ (min n0 1300 : Nat)
    · obtain ⟨k, rfl⟩ := Int.eq_ofNat_of_zero_le hp.1
      exact headers_ok f t next k a n0 cap _ w hf ht h.lies (oct_take h.oct _) hE (by omega)
    · refine headers_arg f t next at_ a n0 cap _ w hf ht h.lies (oct_take h.oct _) hE hp ?_
      by_cases h0 : at_ < 0
      · exact .inl h0
      · by_cases h1 : at_ % 2 = 0
        · exact .inr (.inr ⟨by omega, by simp [h1], by simp; omega⟩)
        · exact .inr (.inl ⟨by omega, by rw [bne_iff_ne]; exact h1⟩)
  · exact headers_err f t next at_ a n0 cap _ w hf ht h.lies (oct_take h.oct _) hE

/-! How an address that came in is opened. -/
theorem c34 : Try.prog.cellsOf 34 = 16 := by kernel_rfl
theorem okWide_row {W : World} {base : Nat} {v : Value} (hok : Value.okWide Try.prog W .any base 34 v) : ∃ cs, v = .agg cs ∧ cs.size = 16 := by
  simp only [Value.okWide, Try.underlying34] at hok
  obtain ⟨cs, h1, h2, _⟩ := hok
  exact ⟨cs, h1, h2.trans c34⟩
theorem open_adr {H : Type} {enc : TypeId × Value → H} {W : World} {base : Nat} {held : Bool} {v : Value} {d : DataW H} {p : List MemPlace}
    (hok : Value.okWide Try.prog W .any base 34 v) (h : DataW.Trod enc Try.prog W 0 (fun _ => true) held 34 v d p) : ∃ l, v = .agg (arr l) ∧ Adr l := by
  obtain ⟨cs, rfl, hsz⟩ := okWide_row hok
  obtain ⟨fuel, hf⟩ := h
  obtain ⟨xs, m, rfl, hx, hl, hxl, hall⟩ := DataW.trod_array Try.underlying34 hf
  have hlen : cs.toList.length = 16 := by simpa using hsz
  have key : ∀ i, i < 16 → ∃ z, cs.toList[i]? = some (.int .u8 z) ∧ 0 ≤ z ∧ z < 256 := by
    intro i hi
    have h1 := hall i hi
    rw [cells5, Nat.mul_one] at h1
    obtain ⟨b, hb⟩ : ∃ b, xs[i]? = some b := ⟨xs[i]'(by omega), List.getElem?_eq_getElem (by omega)⟩
    rw [hb] at h1
    obtain ⟨z, hz, _, hw⟩ := DataW.trod_int Try.underlying5 h1
    have h2 : cs.toList[i]? = some (.int .u8 z) := by
      have := congrArg (·[0]?) hz
      simpa [List.getElem?_take, List.getElem?_drop, Value.cells] using this
    exact ⟨z, h2, wf_u8 hw⟩
  refine ⟨cs.toList.map intOf, ?_, ?_, ?_⟩
  · have : cs = arr (cs.toList.map intOf) := by
      apply Array.ext'
      apply List.ext_getElem?
      intro i
      by_cases hi : i < 16
      · obtain ⟨z, hz, _⟩ := key i hi
        simp only [arr, u8s, List.getElem?_map, hz, Option.map_some, intOf]
      · rw [List.getElem?_eq_none (by omega), List.getElem?_eq_none (by simp [arr, u8s]; omega)]
    rw [← this]
  · simp; omega
  · intro x hx
    simp only [List.mem_map] at hx
    obtain ⟨v, hv, rfl⟩ := hx
    obtain ⟨i, hi, rfl⟩ := List.mem_iff_getElem.1 hv
    obtain ⟨z, hz, h0, h1⟩ := key i (by omega)
    rw [List.getElem?_eq_getElem hi] at hz
    rw [Option.some.inj hz]
    exact ⟨h0, h1⟩
end Go.Proofs.Ytinfkjnneibklaa
