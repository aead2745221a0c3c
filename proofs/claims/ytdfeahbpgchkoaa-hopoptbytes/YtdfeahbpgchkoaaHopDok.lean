/- hopopt's Decode. -/
import Derived.Test.YtdfeahbpgchkoaaHopDer
namespace Go.Proofs.Ytdfeahbpgchkoaa
open Go.ChangeShapes Go.WideShapes Go.ChangeAt Go.RowKit
set_option linter.unusedVariables false
set_option linter.unusedSimpArgs false

theorem noU8_ho {w : World} {g : Nat} {t : TypeId} {h : Ho} (hr : Row w g t h.cs) : NoU8 w g := by
  intro o x e
  rw [hr.cell] at e
  match o with
  | 0 => rw [h.at0] at e; simp at e
  | 1 => rw [h.at1] at e; simp at e
  | 2 => rw [h.at2] at e; simp at e
  | 3 => rw [h.at3] at e; simp at e
  | 4 => rw [h.at4] at e; simp at e
  | n + 5 => rw [Array.getElem?_eq_none (by rw [h.size]; omega)] at e; cases e
theorem num1 (l : List Int) (k : Nat) (h : k < l.length) : numOf ((l.drop k).take 1) = l.getD k 0 := by
  rw [List.drop_eq_getElem_cons h, List.take_succ_cons, List.take_zero]; simp [numOf, h]
theorem num2 (l : List Int) (k : Nat) (h : k + 1 < l.length) : numOf ((l.drop k).take 2) = 256 * l.getD k 0 + l.getD (k + 1) 0 := by
  rw [List.drop_eq_getElem_cons (by omega), List.drop_eq_getElem_cons h, List.take_succ_cons, List.take_succ_cons, List.take_zero]; simp [numOf, h, (by omega : k < l.length)]
set_option maxHeartbeats 3200000 in
set_option maxRecDepth 100000 in
theorem dec_ok (a : Option Addr) (len cap : Nat) (l : List Int) (w : World) (h : Lies .u8 w a len cap l) (ho : Oct l) (hsm : len ≤ 100000) (hs : 8 ≤ len) (k1 : l.getD 1 0 = 0) (k2 : l.getD 2 0 = 99) (k3 : l.getD 3 0 = 4) (hk : l.getD 4 0 % 32 = 0) :
    Calls Try.prog 8 #[.slice a len cap] w fun r w' => ∃ v, r = .returned (.tuple #[.int .i64 (l.getD 0 0), .agg (opO l).cs, v, .int .i64 0]) ∧ w'.ownsRow w.heap.size 5 1 v (l.drop 8).length (u8s (l.drop 8)) ∧ Below w.heap.size w w' := by
  have hz := zho
  have Z1 := hid (Row.new w 28 Ho.zero.cs)
  have B1 := hid (balloc (Below.refl w.heap.size w) (.cells Ho.zero.cs 28))
  obtain ⟨b, off, rfl, hcell⟩ := (h.below B1.out).at (by omega)
  have hcm : cap ≤ maxLen := h.2.2.1
  have hlc := h.2.1
  have hll := h.1
  unfold maxLen at hcm
  have q1 := hcell 1 (by omega)
  have q2 := hcell 2 (by omega)
  have q3 := hcell 3 (by omega)
  have q4 := hcell 4 (by omega)
  have x4b := ho.at 4 (by omega)
  have v0 : numOf ((l.drop 0).take 1) = l.getD 0 0 := num1 l 0 (by omega)
  have v4 : numOf ((l.drop 4).take 1) = l.getD 4 0 := num1 l 4 (by omega)
  have v5 : numOf ((l.drop 5).take 1) = l.getD 5 0 := num1 l 5 (by omega)
  have v6 : numOf ((l.drop 6).take 2) = 256 * l.getD 6 0 + l.getD 7 0 := num2 l 6 (by omega)
  have V0 := hid v0
  have V4 := hid v4
  have V5 := hid v5
  have V6 := hid v6
  have HF := hid (flags_of x4b.1 x4b.2 Ho.zero)
  have e4 : (bits .andNot .u8 (l.getD 4 0) 224 != 0) = false := by rw [more_of x4b.1 x4b.2, decide_eq_true hk]; rfl
  have HP : Hid (opO l = ⟨l.getD 4 0 / 128 == 1, l.getD 4 0 / 64 % 2 == 1, l.getD 4 0 / 32 % 2 == 1, l.getD 5 0, 256 * l.getD 6 0 + l.getD 7 0⟩) := rfl
  generalize l.getD 0 0 = x0 at *
  generalize l.getD 1 0 = x1 at *
  generalize l.getD 2 0 = x2 at *
  generalize l.getD 3 0 = x3 at *
  generalize l.getD 4 0 = x4 at *
  generalize l.getD 5 0 = x5 at *
  generalize 256 * l.getD 6 0 + l.getD 7 0 = x67 at *
  subst k1
  subst k2
  subst k3
  have hs' : decide ((len : Int) < 8) = false := by simp; omega
  have HB := hid (h.below B1.out)
  have HO := hid ho
  have HLL := hid hll
  clear h hcell ho hll v0 v4 v5 v6 hk
  go_enter Try.func8, Try.ntmps8
  go_upto_region 1 with fail
  have hs1 : w.heap.size < (w.alloc (.cells Ho.zero.cs 28)).heap.size := by simp
  generalize w.alloc (.cells Ho.zero.cs 28) = w1 at *
  go_wp2_with fail
  clear q1 q2 q3 q4 e4
  refine (over_any _ len cap l _ HB.out HO.out hsm).mono ?_
  rintro e w2 ⟨c, ca, ccap, rfl, hc, hb2, hc1, hc2⟩
  have C2 := hid hc
  have B2 := hid (bthen B1.out hb2)
  have Z2 := hid (Z1.out.below hb2)
  have hcw : w.heap.size < c := by omega
  clear hc hb2 B1 Z1 HB hc1 hc2 hs1
  go_wp2_with fail
  refine (take_ok _ c ca len ccap 0 l 1 1 C2.out rfl rfl (by omega)).mono ?_
  rintro e w3 ⟨rfl, hc, hg, hs⟩
  have C3 := hid hc
  have B3 := hid (bgrown B2.out hg (by omega))
  have Z3 := hid (Z2.out.kept hg (by simp; omega))
  rw [V0.out]
  clear hc hg hs C2 B2 Z2
  go_wp2_with fail
  refine (bytes_ok _ c ca len ccap 1 l 3 3 C3.out rfl (by omega)).mono ?_
  rintro e w4 ⟨v4, rfl, _, hc, hg⟩
  have C4 := hid hc
  have B4 := hid (bgrown B3.out hg (by omega))
  have Z4 := hid (Z3.out.kept hg (by simp; omega))
  clear hc hg C3 B3 Z3
  go_wp2_with fail
  refine (take_ok _ c ca len ccap 4 l 1 1 C4.out rfl rfl (by omega)).mono ?_
  rintro e w5 ⟨rfl, hc, hg, hs⟩
  have C5 := hid hc
  have B5 := hid (bgrown B4.out hg (by omega))
  have Z5 := hid (Z4.out.kept hg (by simp; omega))
  rw [V4.out]
  clear hc hg hs C4 B4 Z4
  go_wp2_with fail
  refine (flaggedOf_any x4 _).mono ?_
  rintro e w6 ⟨rfl, hb6⟩
  rw [HF.out]
  have N7 := hid (layO_new w6 28 ⟨x4 / 128 == 1, x4 / 64 % 2 == 1, x4 / 32 % 2 == 1, Ho.zero.i, Ho.zero.r⟩)
  have b7 := bthen hb6 (layO_below w6 28 ⟨x4 / 128 == 1, x4 / 64 % 2 == 1, x4 / 32 % 2 == 1, Ho.zero.i, Ho.zero.r⟩)
  have C7 := hid (C5.out.below b7)
  have B7 := hid (bthen B5.out b7)
  have Z7 := hid (Z5.out.below b7)
  have hgo : c < w6.heap.size := Nat.lt_of_lt_of_le C5.out.lt hb6.size
  generalize hO1 : (⟨x4 / 128 == 1, x4 / 64 % 2 == 1, x4 / 32 % 2 == 1, Ho.zero.i, Ho.zero.r⟩ : Ho) = O1 at *
  have HO1 := hid hO1
  clear hb6 b7 C5 B5 Z5 hO1 HF
  go_upto_region 11 with (refine stO oh _ _ rfl rfl w6.heap.size O1 rfl rfl 28 Ho.zero (Row.new w6 28 _) ?_)
  generalize (w6.alloc (.cells Ho.zero.cs 28)).setRow w6.heap.size O1.cs = w7 at *
  generalize w6.heap.size = go at *
  go_wp2_with fail
  refine (take_ok _ c ca len ccap 5 l 1 1 C7.out rfl rfl (by omega)).mono ?_
  rintro e w8 ⟨rfl, hc, hg, hs⟩
  have C8 := hid hc
  have B8 := hid (bgrown B7.out hg (by omega))
  have Z8 := hid (Z7.out.kept hg (by simp; omega))
  have N8 := hid (N7.out.kept hg (by simp; omega))
  rw [V5.out]
  clear hc hg hs C7 B7 Z7 N7
  have f3 := N8.out.frozen 3
  have n3 := (N8.out.cell 3).trans O1.at3
  have N9 : Hid (Row (w8.setCell ⟨go, 3, none⟩ (.int .i64 x5)) go 28 (O1.setI x5).cs) := by rw [Hid, ← Ho.set3]; exact N8.out.set 3 _
  have Z9 := hid (Z8.out.other ⟨go, 3, none⟩ (.int .i64 x5) (by simp; omega))
  have C9 := hid (C8.out.grown (noU8_ho N8.out) (by omega) (grownBy_setCell w8 go 3 (.int .i64 x5)))
  have B9 := hid (bset 3 (.int .i64 x5) B8.out (g := go) (by omega))
  clear N8 Z8 C8 B8
  go_upto_region 12 with fail
  generalize w8.setCell ⟨go, 3, none⟩ (.int .i64 x5) = w9 at *
  clear f3 n3
  go_wp2_with fail
  refine (take_ok _ c ca len ccap 6 l 2 2 C9.out rfl rfl (by omega)).mono ?_
  rintro e w10 ⟨rfl, hc, hg, hs⟩
  have C10 := hid hc
  have B10 := hid (bgrown B9.out hg (by omega))
  have Z10 := hid (Z9.out.kept hg (by simp; omega))
  have N10 := hid (N9.out.kept hg (by simp; omega))
  rw [V6.out]
  clear hc hg hs C9 B9 Z9 N9
  have f4 := N10.out.frozen 4
  have n4 := (N10.out.cell 4).trans (O1.setI x5).at4
  have N11 : Hid (Row (w10.setCell ⟨go, 4, none⟩ (.int .i64 x67)) go 28 ((O1.setI x5).setR x67).cs) := by rw [Hid, ← Ho.set4]; exact N10.out.set 4 _
  have Z11 := hid (Z10.out.other ⟨go, 4, none⟩ (.int .i64 x67) (by simp; omega))
  have C11 := hid (C10.out.grown (noU8_ho N10.out) (by omega) (grownBy_setCell w10 go 4 (.int .i64 x67)))
  have B11 := hid (bset 4 (.int .i64 x67) B10.out (g := go) (by omega))
  clear N10 Z10 C10 B10
  go_upto_region 13 with fail
  generalize w10.setCell ⟨go, 4, none⟩ (.int .i64 x67) = w11 at *
  clear f4 n4
  have hP : (O1.setI x5).setR x67 = opO l := by rw [HP.out, ← HO1.out]; rfl
  rw [hP] at N11
  clear hP HO1
  generalize hPP : opO l = P at *
  have HPP := hid hPP
  clear hPP
  refine wp_region_held_drew (S := fun w' => Row w' go 28 P.cs) (by kernel_rfl) ?_ (fun hHeld => ?_)
  · exact N11.out
  refine wpAnyH_take (i := 0) (oi := _) (v := ?va0) rfl (by kernel_rfl) (by kernel_rfl) (by kernel_rfl) (fun _ _ _ h => h) (Or.inl ⟨by rfl, ?hya0⟩) (by assumption) ?resta0
  case hya0 => (intro w hSw; (try dsimp only at hSw); go_split_ands; go_simp; try (with_reducible rfl))
  try simp only [List.getElem_toArray, List.getElem_cons_zero, List.getElem_cons_succ, Act.put, List.setIfInBounds_toArray, List.set_cons_zero, List.set_cons_succ]
  refine wpAnyH_take (i := 1) (oi := _) (v := .agg P.cs) rfl (by kernel_rfl) (by kernel_rfl) (by kernel_rfl) (fun _ _ _ h => h) (yldO oh (by rfl) _ rfl go rfl P _ (fun w h => h)) (by assumption) ?_
  try simp only [List.getElem_toArray, List.getElem_cons_zero, List.getElem_cons_succ, Act.put, List.setIfInBounds_toArray, List.set_cons_zero, List.set_cons_succ]
  refine wpAnyH_take (i := 2) (oi := _) (v := ?va2) rfl (by kernel_rfl) (by kernel_rfl) (by kernel_rfl) (fun _ _ _ h => h) (Or.inl ⟨by rfl, ?hya2⟩) (by assumption) ?resta2
  case hya2 => (intro w hSw; (try dsimp only at hSw); go_split_ands; go_simp; try (with_reducible rfl))
  try simp only [List.getElem_toArray, List.getElem_cons_zero, List.getElem_cons_succ, Act.put, List.setIfInBounds_toArray, List.set_cons_zero, List.set_cons_succ]
  refine wpAnyH_take (i := 3) (oi := _) (v := ?va3) rfl (by kernel_rfl) (by kernel_rfl) (by kernel_rfl) (fun _ _ _ h => h) (Or.inl ⟨by rfl, ?hya3⟩) (by assumption) ?resta3
  case hya3 => (intro w hSw; (try dsimp only at hSw); go_split_ands; go_simp; try (with_reducible rfl))
  try simp only [List.getElem_toArray, List.getElem_cons_zero, List.getElem_cons_succ, Act.put, List.setIfInBounds_toArray, List.set_cons_zero, List.set_cons_succ]
  refine wpAnyH_ready (rs := [4]) (by kernel_rfl) (by simp) ?_
  refine AllReadyH.cons (o := _) rfl (fun K hK => ?_) AllReadyH.nil
  go_simp
  refine (left_any _ c ca len ccap 8 l 0 (C11.out.drewN 1)).mono ?_
  rintro e w12 ⟨rfl, q, rfl⟩
  go_wp2_with fail
  refine hK.out _ _ (N11.out.drewN (1 + q)) (fun hHeld => ?_)
  clear hK K
  try simp only [List.getElem_toArray, List.getElem_cons_zero, List.getElem_cons_succ, Act.put, List.setIfInBounds_toArray, List.set_cons_zero, List.set_cons_succ]
  have HL8 : Hid (((len : Int) - 8) = ((len - 8 : Nat) : Int)) := by rw [Hid]; omega
  refine wpAnyH_ready (rs := [5]) (by kernel_rfl) (by simp) ?_
  refine AllReadyH.cons (o := _) rfl (fun K hK => ?_) AllReadyH.nil
  go_simp
  refine (bytes_ok _ c ca len ccap 8 l _ (len - 8) (C11.out.drewN (1 + q)) HL8.out (by omega)).mono ?_
  rintro e w13 ⟨v13, rfl, hown, hc, hg⟩
  have O13 := hid (own_mono hown (show w.heap.size ≤ _ from B11.out.size))
  have B13 := hid (bgrown (bdrew B11.out (1 + q)) hg (by omega))
  have N13 := hid ((N11.out.drewN (1 + q)).kept hg (by simp; omega))
  have Z13 := hid ((Z11.out.drewN (1 + q)).kept hg (by simp; omega))
  have hne13 := own_row (g := w.heap.size) hown Z13.out (by decide)
  clear hc hg hown N11 Z11 C11 B11
  go_wp2_with fail
  refine hK.out _ _ N13.out (fun hHeld => ?_)
  clear hK K
  try simp only [List.getElem_toArray, List.getElem_cons_zero, List.getElem_cons_succ, Act.put, List.setIfInBounds_toArray, List.set_cons_zero, List.set_cons_succ]
  refine wpAnyH_take (i := 6) (oi := _) (v := ?vb6) rfl (by kernel_rfl) (by kernel_rfl) (by kernel_rfl) (fun _ _ _ h => h) (Or.inl ⟨by rfl, ?hyb6⟩) (by assumption) ?restb6
  case hyb6 => (intro w hSw; (try dsimp only at hSw); go_split_ands; go_simp; try (with_reducible rfl))
  try simp only [List.getElem_toArray, List.getElem_cons_zero, List.getElem_cons_succ, Act.put, List.setIfInBounds_toArray, List.set_cons_zero, List.set_cons_succ]
  refine wpAnyH_ready (rs := [7]) (by kernel_rfl) (by simp) ?_
  refine AllReadyH.cons (o := _) rfl (fun K hK => ?_) AllReadyH.nil
  refine step_st rfl 28 _ _ rfl w.heap.size P.cs rfl rfl 28 Ho.zero.cs Z13.out oh.info rfl P.one ?_
  have N14 := hid (N13.out.rowOther w.heap.size P.cs (by omega))
  have Z14 := hid (Z13.out.setRow P.cs)
  have B14 := hid (below_setRow' B13.out (g := w.heap.size) (Nat.le_refl _) P.cs)
  have O14 := hid (O13.out.kept (grownBy_setRow w13 w.heap.size P.cs) (.inr hne13))
  generalize w13.setRow w.heap.size P.cs = w14 at *
  refine hK.out _ _ N14.out (fun hHeld => ?_)
  clear hK K
  try simp only [List.getElem_toArray, List.getElem_cons_zero, List.getElem_cons_succ, Act.put, List.setIfInBounds_toArray, List.set_cons_zero, List.set_cons_succ]
  refine wpAnyH_take (i := 8) (oi := _) (v := ?vc8) rfl (by kernel_rfl) (by kernel_rfl) (by kernel_rfl) (fun _ _ _ h => h) (Or.inl ⟨by rfl, ?hyc8⟩) (by assumption) ?restc8
  case hyc8 => (intro w hSw; (try dsimp only at hSw); go_split_ands; go_simp; try (with_reducible rfl))
  try simp only [List.getElem_toArray, List.getElem_cons_zero, List.getElem_cons_succ, Act.put, List.setIfInBounds_toArray, List.set_cons_zero, List.set_cons_succ]
  refine wpAnyH_take (i := 9) (oi := _) (v := ?vc9) rfl (by kernel_rfl) (by kernel_rfl) (by kernel_rfl) (fun _ _ _ h => h) (Or.inl ⟨by rfl, ?hyc9⟩) (by assumption) ?restc9
  case hyc9 => (intro w hSw; (try dsimp only at hSw); go_split_ands; go_simp; try (with_reducible rfl))
  try simp only [List.getElem_toArray, List.getElem_cons_zero, List.getElem_cons_succ, Act.put, List.setIfInBounds_toArray, List.set_cons_zero, List.set_cons_succ]
  refine wpAnyH_done (by kernel_rfl) ?_ _
  clear hHeld
  go_wp2_with fail
  exact bodyPost_ret (resOd oh rfl _ _ w.heap.size 28 P (.int .i64 x0) v13 (.int .i64 0) rfl rfl rfl rfl Z14.out) rfl ⟨v13, by rw [HPP.out], by rw [List.length_drop, HLL.out]; have := O14.out; rwa [List.take_of_length_le (by rw [List.length_drop, HLL.out]; omega)] at this, B14.out⟩
theorem hopDecode_any (a : Option Addr) (len cap : Nat) (l : List Int) (w : World) (h : Lies .u8 w a len cap l) (ho : Oct l) (hsm : len ≤ 100000) :
    Calls Try.prog 8 #[.slice a len cap] w fun r w' => ∃ v, r = .returned (.tuple #[.int .i64 (dcN l), .agg (dcO l).cs, v, .int .i64 (dcE l)]) ∧ w'.ownsRow w.heap.size 5 1 v (dcR l).length (u8s (dcR l)) ∧ Below w.heap.size w w' := by
  have hl := h.1
  have bad : ∀ x : Int, x ≠ 0 → dcE l = x → (Calls Try.prog 8 #[.slice a len cap] w fun r w' => r = .returned (.tuple #[.int .i64 0, .agg Ho.zero.cs, .slice none 0 0, .int .i64 x]) ∧ Below w.heap.size w w') →
      Calls Try.prog 8 #[.slice a len cap] w fun r w' => ∃ v, r = .returned (.tuple #[.int .i64 (dcN l), .agg (dcO l).cs, v, .int .i64 (dcE l)]) ∧ w'.ownsRow w.heap.size 5 1 v (dcR l).length (u8s (dcR l)) ∧ Below w.heap.size w w' := by
    intro x hx hE hc
    refine hc.mono ?_
    rintro r w' ⟨rfl, hb⟩
    rw [dcN, dcO, dcR, hE, if_neg hx, if_neg hx, if_neg hx]
    exact ⟨_, rfl, World.ownsRow_nil _ _ _ _, hb⟩
  by_cases h8 : len < 8
  · exact bad 4 (by decide) (by rw [dcE, if_pos (by omega)]) (dec_short a len cap l w h ho h8)
  · by_cases hk : l.getD 1 0 = 0 ∧ l.getD 2 0 = 99 ∧ l.getD 3 0 = 4
    · by_cases hf : l.getD 4 0 % 32 = 0
      · have hE : dcE l = 0 := by rw [dcE, if_neg (by omega), if_pos hk, if_pos hf]
        rw [dcN, dcO, dcR, hE, if_pos rfl, if_pos rfl, if_pos rfl]
        exact dec_ok a len cap l w h ho hsm (by omega) hk.1 hk.2.1 hk.2.2 hf
      · exact bad 3 (by decide) (by rw [dcE, if_neg (by omega), if_pos hk, if_neg hf]) (dec_form a len cap l w h ho (by omega) hk.1 hk.2.1 hk.2.2 hf)
    · exact bad 6 (by decide) (by rw [dcE, if_neg (by omega), if_neg hk]) (dec_kind a len cap l w h ho (by omega) hk)
end Go.Proofs.Ytdfeahbpgchkoaa
