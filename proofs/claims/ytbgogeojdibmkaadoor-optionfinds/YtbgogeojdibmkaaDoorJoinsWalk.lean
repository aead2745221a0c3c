/- OptionJoins' walk. -/
import Derived.Test.YtbgogeojdibmkaaDoorJnb
namespace Go.Proofs.YtbgogeojdibmkaaDoor
open Go.ChangeShapes Go.WideShapes Go.ChangeAt Go.RowKit Go.Deep
set_option linter.unusedVariables false
set_option linter.unusedSimpArgs false

theorem Opts.drewN {w : World} {a : Option Addr} {n cap : Nat} {L : List Ov} (h : Opts w a n cap L) (q : Nat) : Opts (w.drewN q) a n cap L := ⟨h.len, h.le, h.max, h.isNil, h.cell, fun o ho => (h.ok o ho).drewN q⟩
theorem to_small (a : Option Addr) (n cap : Nat) (L : List Ov) (w : World) (hL : Opts w a n cap L) (hn : n ≤ 8) :
    Calls Tryd.prog 7 #[.slice a n cap] w fun e w' => ∃ a' cap' L', e = .returned (.slice a' n cap') ∧ Opts w' a' n cap' L' ∧ Below w.heap.size w w' := by
  refine (to_any a n cap L w hL).mono ?_
  rintro e w' ⟨a', cap', L', rfl, hO, _, hb⟩
  have e : min n 20 = n := by omega
  rw [e] at hO ⊢
  exact ⟨a', cap', L', rfl, hO, hb⟩
set_option maxRecDepth 100000 in
set_option maxHeartbeats 3200000 in
theorem joins_walk (a1 : Option Addr) (n1 c1 : Nat) (L1 : List Ov) (a2 : Option Addr) (n2 c2 : Nat) (L2 : List Ov) (w : World) (h1 : Opts w a1 n1 c1 L1) (h2 : Opts w a2 n2 c2 L2) (hV : Vars w.heap.size w) :
    Calls Tryd.prog 6 #[.slice a1 n1 c1, .slice a2 n2 c2] w fun e w' => e = .returned (.bool true) ∧ Below w.heap.size w w' := by
  obtain ⟨q1, hq1⟩ : ∃ q1, min n1 8 = q1 := ⟨_, rfl⟩
  obtain ⟨q2, hq2⟩ : ∃ q2, min n2 8 = q2 := ⟨_, rfl⟩
  have hmin1 : (if (8 : Int) < (n1 : Int) then (8 : Int) else (n1 : Int)) = (q1 : Int) := by split <;> omega
  have hmin2 : (if (8 : Int) < (n2 : Int) then (8 : Int) else (n2 : Int)) = (q2 : Int) := by split <;> omega
  have k1 := h1.le
  have k2 := h2.le
  have k3 := h1.max
  have k4 := h2.max
  unfold maxLen at k3 k4
  have j1 : (q1 : Int) ≤ (c1 : Int) := by omega
  have j2 : (q2 : Int) ≤ (c2 : Int) := by omega
  have L1 := hid (h1.pre q1 (by omega))
  have L2 := hid (h2.pre q2 (by omega))
  have hq1 : q1 ≤ 8 := by omega
  have hq2 : q2 ≤ 8 := by omega
  have HV := hid hV
  clear h1 h2 hV
  go_enter Tryd.func6, Tryd.ntmps6
  go_wp2_with fail
  refine wp_region_held_drew (S := fun w' => True) (by kernel_rfl) ?_ (fun hHeld => ?_)
  · exact trivial
  refine wpAnyH_take (i := 0) (oi := _) (v := ?va0) rfl (by kernel_rfl) (by kernel_rfl) (by kernel_rfl) (fun _ _ _ h => h) (Or.inl ⟨by rfl, ?hya0⟩) (by assumption) ?resta0
  case hya0 => (intro w hSw; (try dsimp only at hSw); go_split_ands; go_simp; try (with_reducible rfl))
  try simp only [List.getElem_toArray, List.getElem_cons_zero, List.getElem_cons_succ, Act.put, List.setIfInBounds_toArray, List.set_cons_zero, List.set_cons_succ]
  refine wpAnyH_take (i := 1) (oi := _) (v := ?va1) rfl (by kernel_rfl) (by kernel_rfl) (by kernel_rfl) (fun _ _ _ h => h) (Or.inl ⟨by rfl, ?hya1⟩) (by assumption) ?resta1
  case hya1 => (intro w hSw; (try dsimp only at hSw); go_split_ands; go_simp; try (with_reducible rfl))
  try simp only [List.getElem_toArray, List.getElem_cons_zero, List.getElem_cons_succ, Act.put, List.setIfInBounds_toArray, List.set_cons_zero, List.set_cons_succ]
  refine wpAnyH_take (i := 2) (oi := _) (v := ?va2) rfl (by kernel_rfl) (by kernel_rfl) (by kernel_rfl) (fun _ _ _ h => h) (Or.inl ⟨by rfl, ?hya2⟩) (by assumption) ?resta2
  case hya2 => (intro w hSw; (try dsimp only at hSw); go_split_ands; go_simp; try (with_reducible rfl))
  try simp only [List.getElem_toArray, List.getElem_cons_zero, List.getElem_cons_succ, Act.put, List.setIfInBounds_toArray, List.set_cons_zero, List.set_cons_succ]
  refine wpAnyH_take (i := 3) (oi := _) (v := ?va3) rfl (by kernel_rfl) (by kernel_rfl) (by kernel_rfl) (fun _ _ _ h => h) (Or.inl ⟨by rfl, ?hya3⟩) (by assumption) ?resta3
  case hya3 => (intro w hSw; (try dsimp only at hSw); go_split_ands; go_simp; try (with_reducible rfl))
  try simp only [List.getElem_toArray, List.getElem_cons_zero, List.getElem_cons_succ, Act.put, List.setIfInBounds_toArray, List.set_cons_zero, List.set_cons_succ]
  refine wpAnyH_take (i := 4) (oi := _) (v := ?va4) rfl (by kernel_rfl) (by kernel_rfl) (by kernel_rfl) (fun _ _ _ h => h) (Or.inl ⟨by rfl, ?hya4⟩) (by assumption) ?resta4
  case hya4 => (intro w hSw; (try dsimp only at hSw); go_split_ands; go_simp; try (with_reducible rfl))
  try simp only [List.getElem_toArray, List.getElem_cons_zero, List.getElem_cons_succ, Act.put, List.setIfInBounds_toArray, List.set_cons_zero, List.set_cons_succ]
  refine wpAnyH_take (i := 6) (oi := _) (v := ?va6) rfl (by kernel_rfl) (by kernel_rfl) (by kernel_rfl) (fun _ _ _ h => h) (Or.inl ⟨by rfl, ?hya6⟩) (by assumption) ?resta6
  case hya6 => (intro w hSw; (try dsimp only at hSw); go_split_ands; go_simp; try (with_reducible rfl))
  try simp only [List.getElem_toArray, List.getElem_cons_zero, List.getElem_cons_succ, Act.put, List.setIfInBounds_toArray, List.set_cons_zero, List.set_cons_succ]
  refine wpAnyH_take (i := 7) (oi := _) (v := ?va7) rfl (by kernel_rfl) (by kernel_rfl) (by kernel_rfl) (fun _ _ _ h => h) (Or.inl ⟨by rfl, ?hya7⟩) (by assumption) ?resta7
  case hya7 => (intro w hSw; (try dsimp only at hSw); go_split_ands; go_simp; try (with_reducible rfl))
  try simp only [List.getElem_toArray, List.getElem_cons_zero, List.getElem_cons_succ, Act.put, List.setIfInBounds_toArray, List.set_cons_zero, List.set_cons_succ]
  refine wpAnyH_take (i := 8) (oi := _) (v := ?va8) rfl (by kernel_rfl) (by kernel_rfl) (by kernel_rfl) (fun _ _ _ h => h) (Or.inl ⟨by rfl, ?hya8⟩) (by assumption) ?resta8
  case hya8 => (intro w hSw; (try dsimp only at hSw); go_split_ands; go_simp; try (with_reducible rfl))
  try simp only [List.getElem_toArray, List.getElem_cons_zero, List.getElem_cons_succ, Act.put, List.setIfInBounds_toArray, List.set_cons_zero, List.set_cons_succ]
  refine wpAnyH_take (i := 9) (oi := _) (v := ?va9) rfl (by kernel_rfl) (by kernel_rfl) (by kernel_rfl) (fun _ _ _ h => h) (Or.inl ⟨by rfl, ?hya9⟩) (by assumption) ?resta9
  case hya9 => (intro w hSw; (try dsimp only at hSw); go_split_ands; go_simp; try (with_reducible rfl))
  try simp only [List.getElem_toArray, List.getElem_cons_zero, List.getElem_cons_succ, Act.put, List.setIfInBounds_toArray, List.set_cons_zero, List.set_cons_succ]
  refine wpAnyH_take (i := 10) (oi := _) (v := ?va10) rfl (by kernel_rfl) (by kernel_rfl) (by kernel_rfl) (fun _ _ _ h => h) (Or.inl ⟨by rfl, ?hya10⟩) (by assumption) ?resta10
  case hya10 => (intro w hSw; (try dsimp only at hSw); go_split_ands; go_simp; try (with_reducible rfl))
  try simp only [List.getElem_toArray, List.getElem_cons_zero, List.getElem_cons_succ, Act.put, List.setIfInBounds_toArray, List.set_cons_zero, List.set_cons_succ]
  refine wpAnyH_ready (rs := [5]) (by kernel_rfl) (by simp) ?_
  refine AllReadyH.cons (o := _) rfl (fun K hK => ?_) AllReadyH.nil
  go_simp
  refine (to_small a1 q1 c1 _ _ (by exact L1.out.drewN 1) hq1).mono ?_
  rintro e w2 ⟨x1, d1, X1, rfl, hO1, hb1⟩
  have P1 := hid hO1
  have B1 := hid (bthen (bdrew (Below.refl w.heap.size w) 1) hb1)
  have L3 := hid (L2.out.below B1.out)
  clear hO1 hb1
  go_wp2_with fail
  refine hK.out _ _ trivial (fun hHeld => ?_)
  clear hK K
  try simp only [List.getElem_toArray, List.getElem_cons_zero, List.getElem_cons_succ, Act.put, List.setIfInBounds_toArray, List.set_cons_zero, List.set_cons_succ]
  refine wpAnyH_ready (rs := [11]) (by kernel_rfl) (by simp) ?_
  refine AllReadyH.cons (o := _) rfl (fun K hK => ?_) AllReadyH.nil
  go_simp
  refine (to_small a2 q2 c2 _ _ L3.out hq2).mono ?_
  rintro e w3 ⟨x2, d2, X2, rfl, hO2, hb2⟩
  have P2 := hid hO2
  have P1 := hid (P1.out.below hb2)
  have B2 := hid (bthen B1.out hb2)
  clear hO2 hb2
  go_wp2_with fail
  refine hK.out _ _ trivial (fun hHeld => ?_)
  clear hK K
  try simp only [List.getElem_toArray, List.getElem_cons_zero, List.getElem_cons_succ, Act.put, List.setIfInBounds_toArray, List.set_cons_zero, List.set_cons_succ]
  refine wpAnyH_take (i := 12) (oi := _) (v := ?va12) rfl (by kernel_rfl) (by kernel_rfl) (by kernel_rfl) (fun _ _ _ h => h) (Or.inl ⟨by rfl, ?hya12⟩) (by assumption) ?resta12
  case hya12 => (intro w hSw; (try dsimp only at hSw); go_split_ands; go_simp; try (with_reducible rfl))
  try simp only [List.getElem_toArray, List.getElem_cons_zero, List.getElem_cons_succ, Act.put, List.setIfInBounds_toArray, List.set_cons_zero, List.set_cons_succ]
  refine wpAnyH_take (i := 13) (oi := _) (v := ?va13) rfl (by kernel_rfl) (by kernel_rfl) (by kernel_rfl) (fun _ _ _ h => h) (Or.inl ⟨by rfl, ?hya13⟩) (by assumption) ?resta13
  case hya13 => (intro w hSw; (try dsimp only at hSw); go_split_ands; go_simp; try (with_reducible rfl))
  try simp only [List.getElem_toArray, List.getElem_cons_zero, List.getElem_cons_succ, Act.put, List.setIfInBounds_toArray, List.set_cons_zero, List.set_cons_succ]
  refine wpAnyH_done (by kernel_rfl) ?_ _
  have V2 := hid (HV.out.below B2.out)
  have J := hid (joins_pure (pos X1) (pos X2) (by rw [pos_len, P1.out.len]; exact hq1) (by rw [pos_len, P2.out.len]; exact hq2))
  clear L1 L2 L3 B1 HV
  go_wp2_with fail
  refine (encode_any x1 q1 d1 X1 _ P1.out V2.out (by omega)).mono ?_
  rintro e w4 ⟨v4, rfl, hown4, hb4⟩
  obtain ⟨a4, c4, rfl, hl4, _⟩ := owns_lies hown4
  have A4 := hid hl4
  have P3 := hid (P1.out.below hb4)
  have P4 := hid (P2.out.below hb4)
  have V4 := hid (V2.out.below hb4)
  have B4 := hid (bthen B2.out hb4)
  clear hown4 hl4 hb4 P1 P2 V2 B2
  have l1 := encL_le (pos X1)
  generalize encE (pos X1) = E1 at *
  generalize encL (pos X1) = T1 at *
  generalize ht1 : T1.length = t1 at *
  have HT1 := hid ht1
  clear ht1
  go_wp2_with fail
  refine (encode_any x2 q2 d2 X2 _ P4.out V4.out (by omega)).mono ?_
  rintro e w5 ⟨v5, rfl, hown5, hb5⟩
  obtain ⟨a5, c5, rfl, hl5, _⟩ := owns_lies hown5
  have A5 := hid hl5
  have A6 := hid (A4.out.below hb5)
  have P5 := hid (P3.out.below hb5)
  have P6 := hid (P4.out.below hb5)
  have V5 := hid (V4.out.below hb5)
  have B5 := hid (bthen B4.out hb5)
  clear hown5 hl5 hb5 P3 P4 V4 B4 A4
  have l2 := encL_le (pos X2)
  generalize encE (pos X2) = E2 at *
  generalize encL (pos X2) = T2 at *
  generalize ht2 : T2.length = t2 at *
  have HT2 := hid ht2
  clear ht2
  have BA := hid (balloc (Below.refl w5.heap.size w5) (.cells #[] 43))
  have OA := hid (World.ownsRow_made (e := 43) (size := 19) (base := w5.heap.size) w5 #[] 0 (Nat.le_refl _) (by decide) (by simp))
  have P7 := hid (P5.out.below BA.out)
  go_wp2_with (at_builtin; refine wpList_appO s23 (base := w5.heap.size) (n := 0) (xs := []) rfl _ _ rfl rfl rfl OA.out P7.out ?c1 ?c2 ?_)
  case c1 => exact BA.out.size
  case c2 => omega
  intro v6 w6 ho6 hb6
  try rw [Nat.zero_add, List.nil_append] at ho6
  have B6 := hid (BA.out.trans hb6)
  have O6 := hid ho6
  have P8 := hid (P6.out.below B6.out)
  clear ho6 hb6 P7 OA BA
  go_wp2_with (at_builtin; refine wpList_appO s23 (base := w5.heap.size) rfl _ _ rfl rfl rfl O6.out P8.out ?c3 ?c4 ?_)
  case c3 => exact B6.out.size
  case c4 => omega
  intro v7 w7 ho7 hb7
  have B7 := hid (B6.out.trans hb7)
  obtain ⟨q3, hq3⟩ : ∃ q3, q1 + q2 = q3 := ⟨_, rfl⟩
  have hq3' : q3 ≤ 16 := by omega
  have hlen7 : (X1 ++ X2).length = q3 := by rw [List.length_append, P5.out.len, P6.out.len]; exact hq3
  rw [hq3, ← hlen7] at ho7
  obtain ⟨x7, d7, rfl, hP7⟩ := owns_opts ho7 (fun o ho => by
    rcases List.mem_append.1 ho with h | h
    · exact (P5.out.ok o h).below B7.out
    · exact (P6.out.ok o h).below B7.out)
  rw [hlen7] at hP7 ⊢
  have P9 := hid hP7
  have V7 := hid (V5.out.below B7.out)
  have A7 := hid (A5.out.below B7.out)
  have A8 := hid (A6.out.below B7.out)
  have B8 := hid (bthen B5.out B7.out)
  clear ho7 hb7 hP7 hlen7 hq3 P5 P6 P8 O6 B6 B7 V5 A5 A6 B5
  go_wp2_with fail
  refine (encode_any x7 q3 d7 (X1 ++ X2) _ P9.out V7.out (by omega)).mono ?_
  rintro e w9 ⟨v9, rfl, hown9, hb9⟩
  obtain ⟨a9, c9, rfl, hl9, _⟩ := owns_lies hown9
  have A9 := hid hl9
  have A10 := hid (A7.out.below hb9)
  have A11 := hid (A8.out.below hb9)
  have V9 := hid (V7.out.below hb9)
  have B9 := hid (bthen B8.out hb9)
  clear hown9 hl9 hb9 P9 V7 A7 A8 B8
  have ep : pos (X1 ++ X2) = pos X1 ++ pos X2 := by simp [pos]
  rw [ep] at A9 ⊢
  have l3 := encL_le (pos X1 ++ pos X2)
  generalize encE (pos X1 ++ pos X2) = E3 at *
  generalize encL (pos X1 ++ pos X2) = T3 at *
  generalize ht3 : T3.length = t3 at *
  have HT3 := hid ht3
  clear ht3
  clear ep
  by_cases f1 : E1 = 0
  · by_cases f2 : E2 = 0
    · rcases J.out.2.2 f1 f2 with ⟨f3, f4⟩ | ⟨f3, f4⟩
      · subst f1; subst f2; subst f3
        have f4' : (1280 : Int) < (t1 : Int) + (t2 : Int) := by omega
        go_wp2_with fail
        refine (known_any _ V9.out).mono ?_
        rintro e wk ⟨rfl, hbk⟩
        have BK := hid (bthen B9.out hbk)
        go_wp2_with fail
        go_ret
        exact ⟨rfl, BK.out⟩
      · subst f1; subst f2; subst f3; subst f4
        go_wp2_with fail
        refine (known_any _ V9.out).mono ?_
        rintro e wk ⟨rfl, hbk⟩
        have BK := hid (bthen B9.out hbk)
        have A12 := hid (A9.out.below hbk)
        have A13 := hid (A10.out.below hbk)
        have A14 := hid (A11.out.below hbk)
        clear hbk A9 A10 A11
        have BB := hid (balloc (Below.refl wk.heap.size wk) (.cells #[] 5))
        have OB := hid (World.ownsRow_made (e := 5) (size := 1) (base := wk.heap.size) wk #[] 0 (Nat.le_refl _) (by decide) (by simp))
        have A15 := hid (A14.out.below BB.out)
        go_wp2_with (at_builtin; refine wpList_appBg (base := wk.heap.size) (n := 0) (xs := []) rfl _ _ rfl rfl rfl OB.out A15.out ?c5 ?c6 ?_)
        case c5 => exact BB.out.size
        case c6 => omega
        intro v10 w10 ho10 hb10
        try rw [Nat.zero_add, List.nil_append] at ho10
        have B10 := hid (BB.out.trans hb10)
        have O10 := hid ho10
        have A16 := hid (A13.out.below B10.out)
        clear ho10 hb10
        go_wp2_with (at_builtin; refine wpList_appBg (base := wk.heap.size) rfl _ _ rfl rfl rfl O10.out A16.out ?c7 ?c8 ?_)
        case c7 => exact B10.out.size
        case c8 => omega
        intro v11 w11 ho11 hb11
        have B11 := hid (B10.out.trans hb11)
        have hT3 : (T1 ++ T2).length = t3 := HT3.out
        have ho11 : w11.ownsRow wk.heap.size 5 1 v11 (T1 ++ T2).length (u8s (T1 ++ T2)) := ownsRow_u8 ho11 (by rw [List.length_append, HT1.out, HT2.out]) rfl
        obtain ⟨a12, c12, rfl, hl12, _⟩ := owns_lies ho11
        have A17 := hid hl12
        have A18 := hid (A12.out.below B11.out)
        clear ho11 hb11 hl12
        rw [hT3] at A17 ⊢
        generalize T1 ++ T2 = T3 at *
        clear hT3
        go_wp2_with fail
        refine (same_any a9 a12 t3 c9 t3 c12 T3 T3 _ A18.out A17.out).mono ?_
        rintro e w12 ⟨rfl, q, rfl⟩
        rw [show (T3 == T3) = true by simp]
        go_wp2_with fail
        go_ret
        exact ⟨rfl, bdrew (bthen BK.out B11.out) q⟩
    · have f3 := J.out.2.1 f1 f2
      subst f1
      have g2 : (E2 != 0) = true := by simpa using f2
      have g3 : (E3 != 0) = true := by simpa using f3
      clear f2 f3 J
      go_wp2_with fail
      refine (known_any _ V9.out).mono ?_
      rintro e wk ⟨rfl, hbk⟩
      have BK := hid (bthen B9.out hbk)
      go_wp2_with fail
      go_ret
      exact ⟨rfl, BK.out⟩
  · have f3 := J.out.1 f1
    have g1 : (E1 != 0) = true := by simpa using f1
    have g3 : (E3 != 0) = true := by simpa using f3
    clear f1 f3 J
    go_wp2_with fail
    refine (known_any _ V9.out).mono ?_
    rintro e wk ⟨rfl, hbk⟩
    have BK := hid (bthen B9.out hbk)
    go_wp2_with fail
    go_ret
    exact ⟨rfl, BK.out⟩
end Go.Proofs.YtbgogeojdibmkaaDoor
