/- The walk of HeaderDecodes. -/
import Derived.Test.YtmpkemlnpmephaaPrr
import Derived.Test.YtmpkemlnpmephaaRde
namespace Go.Proofs.Ytmpkemlnpmephaa
open Go.ChangeShapes Go.WideShapes Go.ChangeAt Go.RowKit
set_option linter.unusedVariables false
set_option linter.unusedSimpArgs false

theorem lay_new24 (w : World) (h : Hd) : Row ((w.alloc (.cells Hd.zero.cs 24)).setRow w.heap.size h.cs) w.heap.size 24 h.cs := (Row.new w 24 _).setRow _

set_option maxHeartbeats 1600000 in
theorem decodes_core (a : Option Addr) (len m cap : Nat) (l : List Int) (w : World) (hm : m = min len 1400) (hlc : len ≤ cap) (hcm : cap ≤ maxLen) (h : Lies .u8 w a m cap l) (ho : Oct l) :
    Calls Try.prog 4 #[.slice a len cap] w fun e w' => e = .returned (.bool true) ∧ Below w.heap.size w w' := by
  have hz := zhd
  have HL := hid h
  have HO := hid ho
  unfold maxLen at hcm
  have hD := hid (fun w' (hb : Below w.heap.size w w') => decode_any a m cap l w' (h.below hb) ho)
  have hR := hid (fun w' (hb : Below w.heap.size w w') => refDecode_any a m cap l w' (h.below hb) ho)
  have kV := decV_ok ho
  have oR := decR_oct ho
  have lR := decR_le l
  have PB := hid (fun hE : decE l = 0 => with_back ho hE)
  have q24 := eq24_same (decV l) kV
  generalize decV l = V at *
  generalize hRr : decR l = R at *
  generalize decE l = E at *
  clear h ho hRr
  go_enter Try.func4, Try.ntmps4
  by_cases hbig : 1400 < len
  · obtain rfl : m = 1400 := by omega
    clear hm
    go_upto_region 2 with fail
    go_wp2_with fail
    refine (hD.out _ (Below.refl _ _)).mono ?_
    rintro e w1 ⟨v1, rfl, hown, hb1⟩
    obtain ⟨a1, cap1, rfl, hl1, _⟩ := owns_lies hown
    have B1 := hid hb1
    have X2 := hid (lay_new w1 V)
    have L2 := hid (hl1.below (lay_below w1 28 V))
    have B2 := hid (bthen hb1 (lay_below w1 28 V))
    have S2 := hid (lay_size w1 28 V)
    clear hown hb1 hl1 hD
    generalize hRn : R.length = rn at *
    have HRn := hid hRn
    clear hRn
    go_wp2_with (refine st28 _ _ rfl rfl w1.heap.size V kV rfl rfl 28 Hd.zero Hd.zero_ok (Row.new w1 28 _) ?_; generalize (w1.alloc (.cells Hd.zero.cs 28)).setRow w1.heap.size V.cs = w2 at *)
    refine (hR.out _ B2.out).mono ?_
    rintro e w3 ⟨a3, n3, c3, rfl, hl3, hb3⟩
    obtain rfl : rn = n3 := by rw [← HRn.out]; exact hl3.1
    have Y4 := hid (lay_new24 w3 V)
    have X4 := hid ((X2.out.below hb3).below (lay_below w3 24 V))
    have L4 := hid ((L2.out.below hb3).below (lay_below w3 24 V))
    have M4 := hid (hl3.below (lay_below w3 24 V))
    have B4 := hid (bthen (bthen B2.out hb3) (lay_below w3 24 V))
    clear hl3 hb3 hR X2 L2 B2 S2
    go_wp2_with (refine st24 _ _ rfl rfl w3.heap.size V kV rfl rfl 24 Hd.zero Hd.zero_ok (Row.new w3 24 _) ?_; generalize (w3.alloc (.cells Hd.zero.cs 24)).setRow w3.heap.size V.cs = w4 at *)
    generalize w1.heap.size = gx at *
    generalize w3.heap.size = gy at *
    clear hz
    have hEE : (E != E) = false := by simp
    refine wp_region_held_drew (S := fun w' => Row w' gx 28 V.cs ∧ Row w' gy 24 V.cs) (by kernel_rfl) ?_ (fun hHeld => ?_)
    · exact ⟨X4.out, Y4.out⟩
    refine wpAnyH_ready (rs := [0]) (by kernel_rfl) (by simp) ?_
    refine AllReadyH.cons (o := _) rfl (fun K hK => ?_) AllReadyH.nil
    go_simp
    refine (known_any _).mono ?_
    rintro e w5 ⟨rfl, hb5⟩
    have bb : Below w4.heap.size w4 w5 := bthen (bdrew (Below.refl _ _) 1) hb5
    have X5 := hid (X4.out.below bb)
    have Y5 := hid (Y4.out.below bb)
    have L5 := hid (L4.out.below bb)
    have M5 := hid (M4.out.below bb)
    have B5 := hid (bthen B4.out bb)
    clear hb5 bb X4 Y4 L4 M4 B4
    go_wp2_with fail
    refine hK.out _ _ ⟨X5.out, Y5.out⟩ (fun hHeld => ?_)
    clear hK K
    try simp only [List.getElem_toArray, List.getElem_cons_zero, List.getElem_cons_succ, Act.put, List.setIfInBounds_toArray, List.set_cons_zero, List.set_cons_succ]
    refine wpAnyH_take (i := 1) (oi := _) (v := ?vdA1) rfl (by kernel_rfl) (by kernel_rfl) (by kernel_rfl) (fun _ _ _ h => h) (Or.inl ⟨by rfl, ?hydA1⟩) (by assumption) ?restdA1
    case hydA1 => (intro w hSw; (try dsimp only at hSw); go_split_ands; go_simp; try (with_reducible rfl))
    try simp only [List.getElem_toArray, List.getElem_cons_zero, List.getElem_cons_succ, Act.put, List.setIfInBounds_toArray, List.set_cons_zero, List.set_cons_succ]
    refine wpAnyH_take (i := 2) (oi := _) (v := ?vdA2) rfl (by kernel_rfl) (by kernel_rfl) (by kernel_rfl) (fun _ _ _ h => h) (Or.inl ⟨by rfl, ?hydA2⟩) (by assumption) ?restdA2
    case hydA2 => (intro w hSw; (try dsimp only at hSw); go_split_ands; go_simp; try (with_reducible rfl))
    try simp only [List.getElem_toArray, List.getElem_cons_zero, List.getElem_cons_succ, Act.put, List.setIfInBounds_toArray, List.set_cons_zero, List.set_cons_succ]
    refine wpAnyH_take (i := 3) (oi := _) (v := ?vdA3) rfl (by kernel_rfl) (by kernel_rfl) (by kernel_rfl) (fun _ _ _ h => h) (Or.inl ⟨by rfl, ?hydA3⟩) (by assumption) ?restdA3
    case hydA3 => (intro w hSw; (try dsimp only at hSw); go_split_ands; go_simp; try (with_reducible rfl))
    try simp only [List.getElem_toArray, List.getElem_cons_zero, List.getElem_cons_succ, Act.put, List.setIfInBounds_toArray, List.set_cons_zero, List.set_cons_succ]
    refine wpAnyH_take (i := 4) (oi := _) (v := ?vdA4) rfl (by kernel_rfl) (by kernel_rfl) (by kernel_rfl) (fun _ _ _ h => h) (Or.inl ⟨by rfl, ?hydA4⟩) (by assumption) ?restdA4
    case hydA4 => (intro w hSw; (try dsimp only at hSw); go_split_ands; go_simp; try (with_reducible rfl))
    try simp only [List.getElem_toArray, List.getElem_cons_zero, List.getElem_cons_succ, Act.put, List.setIfInBounds_toArray, List.set_cons_zero, List.set_cons_succ]
    refine wpAnyH_take (i := 5) (oi := _) (v := ?vdA5) rfl (by kernel_rfl) (by kernel_rfl) (by kernel_rfl) (fun _ _ _ h => h) (Or.inl ⟨by rfl, ?hydA5⟩) (by assumption) ?restdA5
    case hydA5 => (intro w hSw; (try dsimp only at hSw); go_split_ands; go_simp; try (with_reducible rfl))
    try simp only [List.getElem_toArray, List.getElem_cons_zero, List.getElem_cons_succ, Act.put, List.setIfInBounds_toArray, List.set_cons_zero, List.set_cons_succ]
    refine wpAnyH_take (i := 6) (oi := _) (v := ?vdA6) rfl (by kernel_rfl) (by kernel_rfl) (by kernel_rfl) (fun _ _ _ h => h) (Or.inl ⟨by rfl, ?hydA6⟩) (by assumption) ?restdA6
    case hydA6 => (intro w hSw; (try dsimp only at hSw); go_split_ands; go_simp; try (with_reducible rfl))
    try simp only [List.getElem_toArray, List.getElem_cons_zero, List.getElem_cons_succ, Act.put, List.setIfInBounds_toArray, List.set_cons_zero, List.set_cons_succ]
    refine wpAnyH_take (i := 7) (oi := _) (v := ?vdA7) rfl (by kernel_rfl) (by kernel_rfl) (by kernel_rfl) (fun _ _ _ h => h) (Or.inl ⟨by rfl, ?hydA7⟩) (by assumption) ?restdA7
    case hydA7 => (intro w hSw; (try dsimp only at hSw); go_split_ands; go_simp; try (with_reducible rfl))
    try simp only [List.getElem_toArray, List.getElem_cons_zero, List.getElem_cons_succ, Act.put, List.setIfInBounds_toArray, List.set_cons_zero, List.set_cons_succ]
    refine wpAnyH_take (i := 8) (oi := _) (v := .agg V.cs) rfl (by kernel_rfl) (by kernel_rfl) (by kernel_rfl) (fun _ _ _ h => h) (yields_ld (by rfl) 28 _ rfl gx rfl V.cs _ (fun w h => h.1.part) Try.underlying28 rfl (by rw [Hd.size kV]; exact size28)) (by assumption) ?_
    try simp only [List.getElem_toArray, List.getElem_cons_zero, List.getElem_cons_succ, Act.put, List.setIfInBounds_toArray, List.set_cons_zero, List.set_cons_succ]
    refine wpAnyH_take (i := 10) (oi := _) (v := .agg V.cs) rfl (by kernel_rfl) (by kernel_rfl) (by kernel_rfl) (fun _ _ _ h => h) (yields_ld (by rfl) 24 _ rfl gy rfl V.cs _ (fun w h => h.2.part) Try.underlying24 rfl (by rw [Hd.size kV]; exact size24)) (by assumption) ?_
    try simp only [List.getElem_toArray, List.getElem_cons_zero, List.getElem_cons_succ, Act.put, List.setIfInBounds_toArray, List.set_cons_zero, List.set_cons_succ]
    refine wpAnyH_ready (rs := [9]) (by kernel_rfl) (by simp) ?_
    refine AllReadyH.cons (o := _) rfl (fun K hK => ?_) AllReadyH.nil
    go_simp
    refine (of_any V kV _).mono ?_
    rintro e w6 ⟨rfl, hb6⟩
    have X6 := hid (X5.out.below hb6)
    have Y6 := hid (Y5.out.below hb6)
    have L6 := hid (L5.out.below hb6)
    have M6 := hid (M5.out.below hb6)
    have B6 := hid (bthen B5.out hb6)
    clear hb6 X5 Y5 L5 M5 B5
    go_wp2_with fail
    refine hK.out _ _ ⟨X6.out, Y6.out⟩ (fun hHeld => ?_)
    clear hK K
    try simp only [List.getElem_toArray, List.getElem_cons_zero, List.getElem_cons_succ, Act.put, List.setIfInBounds_toArray, List.set_cons_zero, List.set_cons_succ]
    refine wpAnyH_take (i := 11) (oi := _) (v := ?veA11) rfl (by kernel_rfl) (by kernel_rfl) (by kernel_rfl) (fun _ _ _ h => h) (Or.inl ⟨by rfl, ?hyeA11⟩) (by assumption) ?resteA11
    case hyeA11 => (intro w hSw; (try dsimp only at hSw); go_split_ands; go_simp; try (with_reducible rfl))
    try simp only [List.getElem_toArray, List.getElem_cons_zero, List.getElem_cons_succ, Act.put, List.setIfInBounds_toArray, List.set_cons_zero, List.set_cons_succ]
    refine wpAnyH_take (i := 12) (oi := _) (v := ?veA12) rfl (by kernel_rfl) (by kernel_rfl) (by kernel_rfl) (fun _ _ _ h => h) (Or.inl ⟨by rfl, ?hyeA12⟩) (by assumption) ?resteA12
    case hyeA12 => (intro w hSw; (try dsimp only at hSw); go_split_ands; go_simp; try (with_reducible rfl))
    try simp only [List.getElem_toArray, List.getElem_cons_zero, List.getElem_cons_succ, Act.put, List.setIfInBounds_toArray, List.set_cons_zero, List.set_cons_succ]
    refine wpAnyH_take (i := 13) (oi := _) (v := ?veA13) rfl (by kernel_rfl) (by kernel_rfl) (by kernel_rfl) (fun _ _ _ h => h) (Or.inl ⟨by rfl, ?hyeA13⟩) (by assumption) ?resteA13
    case hyeA13 => (intro w hSw; (try dsimp only at hSw); go_split_ands; go_simp; try (with_reducible rfl))
    try simp only [List.getElem_toArray, List.getElem_cons_zero, List.getElem_cons_succ, Act.put, List.setIfInBounds_toArray, List.set_cons_zero, List.set_cons_succ]
    refine wpAnyH_take (i := 14) (oi := _) (v := ?veA14) rfl (by kernel_rfl) (by kernel_rfl) (by kernel_rfl) (fun _ _ _ h => h) (Or.inl ⟨by rfl, ?hyeA14⟩) (by assumption) ?resteA14
    case hyeA14 => (intro w hSw; (try dsimp only at hSw); go_split_ands; go_simp; try (with_reducible rfl))
    try simp only [List.getElem_toArray, List.getElem_cons_zero, List.getElem_cons_succ, Act.put, List.setIfInBounds_toArray, List.set_cons_zero, List.set_cons_succ]
    refine wpAnyH_take (i := 15) (oi := _) (v := ?veA15) rfl (by kernel_rfl) (by kernel_rfl) (by kernel_rfl) (fun _ _ _ h => h) (Or.inl ⟨by rfl, ?hyeA15⟩) (by assumption) ?resteA15
    case hyeA15 => (intro w hSw; (try dsimp only at hSw); go_split_ands; go_simp; try (with_reducible rfl))
    try simp only [List.getElem_toArray, List.getElem_cons_zero, List.getElem_cons_succ, Act.put, List.setIfInBounds_toArray, List.set_cons_zero, List.set_cons_succ]
    refine wpAnyH_ready (rs := [16]) (by kernel_rfl) (by simp) ?_
    refine AllReadyH.cons (o := _) rfl (fun K hK => ?_) AllReadyH.nil
    go_simp
    refine (same_any _ _ _ _ _ _ R R _ L6.out M6.out).mono ?_
    rintro e w7 ⟨rfl, q, rfl⟩
    rw [beq_self_eq_true]
    go_wp2_with fail
    refine hK.out _ _ ⟨X6.out.drewN q, Y6.out.drewN q⟩ (fun hHeld => ?_)
    clear hK K
    try simp only [List.getElem_toArray, List.getElem_cons_zero, List.getElem_cons_succ, Act.put, List.setIfInBounds_toArray, List.set_cons_zero, List.set_cons_succ]
    refine wpAnyH_take (i := 17) (oi := _) (v := ?vfA17) rfl (by kernel_rfl) (by kernel_rfl) (by kernel_rfl) (fun _ _ _ h => h) (Or.inl ⟨by rfl, ?hyfA17⟩) (by assumption) ?restfA17
    case hyfA17 => (intro w hSw; (try dsimp only at hSw); go_split_ands; go_simp; try (with_reducible rfl))
    try simp only [List.getElem_toArray, List.getElem_cons_zero, List.getElem_cons_succ, Act.put, List.setIfInBounds_toArray, List.set_cons_zero, List.set_cons_succ]
    refine wpAnyH_take (i := 18) (oi := _) (v := ?vfA18) rfl (by kernel_rfl) (by kernel_rfl) (by kernel_rfl) (fun _ _ _ h => h) (Or.inl ⟨by rfl, ?hyfA18⟩) (by assumption) ?restfA18
    case hyfA18 => (intro w hSw; (try dsimp only at hSw); go_split_ands; go_simp; try (with_reducible rfl))
    try simp only [List.getElem_toArray, List.getElem_cons_zero, List.getElem_cons_succ, Act.put, List.setIfInBounds_toArray, List.set_cons_zero, List.set_cons_succ]
    refine wpAnyH_done (by kernel_rfl) ?_ _
    have X8 : Hid (Row (w6.drewN q) gx 28 V.cs) := X6.out.drewN q
    have L8 : Hid (Lies .u8 (w6.drewN q) a1 rn cap1 R) := L6.out.drewN q
    have B8 := hid (bdrew B6.out q)
    clear X6 Y6 L6 M6 B6 hHeld
    generalize w6.drewN q = w8 at *
    by_cases hE : E = 0
    · obtain ⟨e1, e2⟩ := PB.out hE
      subst hE
      have P1 := hid e1
      have P2 := hid e2
      have T9 := hid (texts_one w8 ⟨a1, rn, cap1, R⟩ ⟨L8.out, oR⟩)
      have B9 := hid (balloc B8.out (.cells #[.slice a1 rn cap1] 30))
      have b9 : bytes [⟨a1, rn, cap1, R⟩] = R := by simp [bytes]
      have Hb9 := hid b9
      clear e1 e2 PB b9 hEE
      go_wp2_with (refine ld28 _ rfl rfl gx rfl V kV 28 X8.out ?_)
      refine (with_any V kV _ 1 1 [⟨a1, rn, cap1, R⟩] _ T9.out).mono ?_
      rintro e w10 ⟨v10, rfl, hown, hb10⟩
      rw [Hb9.out, P2.out] at hown
      rw [Hb9.out, P1.out]
      obtain ⟨a10, cap10, rfl, hl10, _⟩ := owns_lies hown
      have L10 := hid hl10
      have B10 := hid (bthen B9.out hb10)
      have Lb := hid (HL.out.below B10.out)
      clear hown hb10 hl10
      generalize hln : l.length = ln at *
      clear hln
      go_wp2_with fail
      refine (same_any _ _ _ _ _ _ l l _ L10.out Lb.out).mono ?_
      rintro e w11 ⟨rfl, q2, rfl⟩
      rw [beq_self_eq_true]
      go_wp2_with fail
      go_ret
      exact ⟨rfl, bdrew B10.out q2⟩
    · have hE' : (E != 0) = true := by rw [bne_iff_ne]; exact hE
      go_wp2_with fail
      go_ret
      exact ⟨rfl, B8.out⟩
  · obtain rfl : m = len := by omega
    clear hm
    have hbig' : decide ((1400 : Int) < (m : Int)) = false := by simp; omega
    go_upto_region 2 with fail
    go_wp2_with fail
    refine (hD.out _ (Below.refl _ _)).mono ?_
    rintro e w1 ⟨v1, rfl, hown, hb1⟩
    obtain ⟨a1, cap1, rfl, hl1, _⟩ := owns_lies hown
    have B1 := hid hb1
    have X2 := hid (lay_new w1 V)
    have L2 := hid (hl1.below (lay_below w1 28 V))
    have B2 := hid (bthen hb1 (lay_below w1 28 V))
    have S2 := hid (lay_size w1 28 V)
    clear hown hb1 hl1 hD
    generalize hRn : R.length = rn at *
    have HRn := hid hRn
    clear hRn
    go_wp2_with (refine st28 _ _ rfl rfl w1.heap.size V kV rfl rfl 28 Hd.zero Hd.zero_ok (Row.new w1 28 _) ?_; generalize (w1.alloc (.cells Hd.zero.cs 28)).setRow w1.heap.size V.cs = w2 at *)
    refine (hR.out _ B2.out).mono ?_
    rintro e w3 ⟨a3, n3, c3, rfl, hl3, hb3⟩
    obtain rfl : rn = n3 := by rw [← HRn.out]; exact hl3.1
    have Y4 := hid (lay_new24 w3 V)
    have X4 := hid ((X2.out.below hb3).below (lay_below w3 24 V))
    have L4 := hid ((L2.out.below hb3).below (lay_below w3 24 V))
    have M4 := hid (hl3.below (lay_below w3 24 V))
    have B4 := hid (bthen (bthen B2.out hb3) (lay_below w3 24 V))
    clear hl3 hb3 hR X2 L2 B2 S2
    go_wp2_with (refine st24 _ _ rfl rfl w3.heap.size V kV rfl rfl 24 Hd.zero Hd.zero_ok (Row.new w3 24 _) ?_; generalize (w3.alloc (.cells Hd.zero.cs 24)).setRow w3.heap.size V.cs = w4 at *)
    generalize w1.heap.size = gx at *
    generalize w3.heap.size = gy at *
    clear hz
    have hEE : (E != E) = false := by simp
    refine wp_region_held_drew (S := fun w' => Row w' gx 28 V.cs ∧ Row w' gy 24 V.cs) (by kernel_rfl) ?_ (fun hHeld => ?_)
    · exact ⟨X4.out, Y4.out⟩
    refine wpAnyH_ready (rs := [0]) (by kernel_rfl) (by simp) ?_
    refine AllReadyH.cons (o := _) rfl (fun K hK => ?_) AllReadyH.nil
    go_simp
    refine (known_any _).mono ?_
    rintro e w5 ⟨rfl, hb5⟩
    have bb : Below w4.heap.size w4 w5 := bthen (bdrew (Below.refl _ _) 1) hb5
    have X5 := hid (X4.out.below bb)
    have Y5 := hid (Y4.out.below bb)
    have L5 := hid (L4.out.below bb)
    have M5 := hid (M4.out.below bb)
    have B5 := hid (bthen B4.out bb)
    clear hb5 bb X4 Y4 L4 M4 B4
    go_wp2_with fail
    refine hK.out _ _ ⟨X5.out, Y5.out⟩ (fun hHeld => ?_)
    clear hK K
    try simp only [List.getElem_toArray, List.getElem_cons_zero, List.getElem_cons_succ, Act.put, List.setIfInBounds_toArray, List.set_cons_zero, List.set_cons_succ]
    refine wpAnyH_take (i := 1) (oi := _) (v := ?vdB1) rfl (by kernel_rfl) (by kernel_rfl) (by kernel_rfl) (fun _ _ _ h => h) (Or.inl ⟨by rfl, ?hydB1⟩) (by assumption) ?restdB1
    case hydB1 => (intro w hSw; (try dsimp only at hSw); go_split_ands; go_simp; try (with_reducible rfl))
    try simp only [List.getElem_toArray, List.getElem_cons_zero, List.getElem_cons_succ, Act.put, List.setIfInBounds_toArray, List.set_cons_zero, List.set_cons_succ]
    refine wpAnyH_take (i := 2) (oi := _) (v := ?vdB2) rfl (by kernel_rfl) (by kernel_rfl) (by kernel_rfl) (fun _ _ _ h => h) (Or.inl ⟨by rfl, ?hydB2⟩) (by assumption) ?restdB2
    case hydB2 => (intro w hSw; (try dsimp only at hSw); go_split_ands; go_simp; try (with_reducible rfl))
    try simp only [List.getElem_toArray, List.getElem_cons_zero, List.getElem_cons_succ, Act.put, List.setIfInBounds_toArray, List.set_cons_zero, List.set_cons_succ]
    refine wpAnyH_take (i := 3) (oi := _) (v := ?vdB3) rfl (by kernel_rfl) (by kernel_rfl) (by kernel_rfl) (fun _ _ _ h => h) (Or.inl ⟨by rfl, ?hydB3⟩) (by assumption) ?restdB3
    case hydB3 => (intro w hSw; (try dsimp only at hSw); go_split_ands; go_simp; try (with_reducible rfl))
    try simp only [List.getElem_toArray, List.getElem_cons_zero, List.getElem_cons_succ, Act.put, List.setIfInBounds_toArray, List.set_cons_zero, List.set_cons_succ]
    refine wpAnyH_take (i := 4) (oi := _) (v := ?vdB4) rfl (by kernel_rfl) (by kernel_rfl) (by kernel_rfl) (fun _ _ _ h => h) (Or.inl ⟨by rfl, ?hydB4⟩) (by assumption) ?restdB4
    case hydB4 => (intro w hSw; (try dsimp only at hSw); go_split_ands; go_simp; try (with_reducible rfl))
    try simp only [List.getElem_toArray, List.getElem_cons_zero, List.getElem_cons_succ, Act.put, List.setIfInBounds_toArray, List.set_cons_zero, List.set_cons_succ]
    refine wpAnyH_take (i := 5) (oi := _) (v := ?vdB5) rfl (by kernel_rfl) (by kernel_rfl) (by kernel_rfl) (fun _ _ _ h => h) (Or.inl ⟨by rfl, ?hydB5⟩) (by assumption) ?restdB5
    case hydB5 => (intro w hSw; (try dsimp only at hSw); go_split_ands; go_simp; try (with_reducible rfl))
    try simp only [List.getElem_toArray, List.getElem_cons_zero, List.getElem_cons_succ, Act.put, List.setIfInBounds_toArray, List.set_cons_zero, List.set_cons_succ]
    refine wpAnyH_take (i := 6) (oi := _) (v := ?vdB6) rfl (by kernel_rfl) (by kernel_rfl) (by kernel_rfl) (fun _ _ _ h => h) (Or.inl ⟨by rfl, ?hydB6⟩) (by assumption) ?restdB6
    case hydB6 => (intro w hSw; (try dsimp only at hSw); go_split_ands; go_simp; try (with_reducible rfl))
    try simp only [List.getElem_toArray, List.getElem_cons_zero, List.getElem_cons_succ, Act.put, List.setIfInBounds_toArray, List.set_cons_zero, List.set_cons_succ]
    refine wpAnyH_take (i := 7) (oi := _) (v := ?vdB7) rfl (by kernel_rfl) (by kernel_rfl) (by kernel_rfl) (fun _ _ _ h => h) (Or.inl ⟨by rfl, ?hydB7⟩) (by assumption) ?restdB7
    case hydB7 => (intro w hSw; (try dsimp only at hSw); go_split_ands; go_simp; try (with_reducible rfl))
    try simp only [List.getElem_toArray, List.getElem_cons_zero, List.getElem_cons_succ, Act.put, List.setIfInBounds_toArray, List.set_cons_zero, List.set_cons_succ]
    refine wpAnyH_take (i := 8) (oi := _) (v := .agg V.cs) rfl (by kernel_rfl) (by kernel_rfl) (by kernel_rfl) (fun _ _ _ h => h) (yields_ld (by rfl) 28 _ rfl gx rfl V.cs _ (fun w h => h.1.part) Try.underlying28 rfl (by rw [Hd.size kV]; exact size28)) (by assumption) ?_
    try simp only [List.getElem_toArray, List.getElem_cons_zero, List.getElem_cons_succ, Act.put, List.setIfInBounds_toArray, List.set_cons_zero, List.set_cons_succ]
    refine wpAnyH_take (i := 10) (oi := _) (v := .agg V.cs) rfl (by kernel_rfl) (by kernel_rfl) (by kernel_rfl) (fun _ _ _ h => h) (yields_ld (by rfl) 24 _ rfl gy rfl V.cs _ (fun w h => h.2.part) Try.underlying24 rfl (by rw [Hd.size kV]; exact size24)) (by assumption) ?_
    try simp only [List.getElem_toArray, List.getElem_cons_zero, List.getElem_cons_succ, Act.put, List.setIfInBounds_toArray, List.set_cons_zero, List.set_cons_succ]
    refine wpAnyH_ready (rs := [9]) (by kernel_rfl) (by simp) ?_
    refine AllReadyH.cons (o := _) rfl (fun K hK => ?_) AllReadyH.nil
    go_simp
    refine (of_any V kV _).mono ?_
    rintro e w6 ⟨rfl, hb6⟩
    have X6 := hid (X5.out.below hb6)
    have Y6 := hid (Y5.out.below hb6)
    have L6 := hid (L5.out.below hb6)
    have M6 := hid (M5.out.below hb6)
    have B6 := hid (bthen B5.out hb6)
    clear hb6 X5 Y5 L5 M5 B5
    go_wp2_with fail
    refine hK.out _ _ ⟨X6.out, Y6.out⟩ (fun hHeld => ?_)
    clear hK K
    try simp only [List.getElem_toArray, List.getElem_cons_zero, List.getElem_cons_succ, Act.put, List.setIfInBounds_toArray, List.set_cons_zero, List.set_cons_succ]
    refine wpAnyH_take (i := 11) (oi := _) (v := ?veB11) rfl (by kernel_rfl) (by kernel_rfl) (by kernel_rfl) (fun _ _ _ h => h) (Or.inl ⟨by rfl, ?hyeB11⟩) (by assumption) ?resteB11
    case hyeB11 => (intro w hSw; (try dsimp only at hSw); go_split_ands; go_simp; try (with_reducible rfl))
    try simp only [List.getElem_toArray, List.getElem_cons_zero, List.getElem_cons_succ, Act.put, List.setIfInBounds_toArray, List.set_cons_zero, List.set_cons_succ]
    refine wpAnyH_take (i := 12) (oi := _) (v := ?veB12) rfl (by kernel_rfl) (by kernel_rfl) (by kernel_rfl) (fun _ _ _ h => h) (Or.inl ⟨by rfl, ?hyeB12⟩) (by assumption) ?resteB12
    case hyeB12 => (intro w hSw; (try dsimp only at hSw); go_split_ands; go_simp; try (with_reducible rfl))
    try simp only [List.getElem_toArray, List.getElem_cons_zero, List.getElem_cons_succ, Act.put, List.setIfInBounds_toArray, List.set_cons_zero, List.set_cons_succ]
    refine wpAnyH_take (i := 13) (oi := _) (v := ?veB13) rfl (by kernel_rfl) (by kernel_rfl) (by kernel_rfl) (fun _ _ _ h => h) (Or.inl ⟨by rfl, ?hyeB13⟩) (by assumption) ?resteB13
    case hyeB13 => (intro w hSw; (try dsimp only at hSw); go_split_ands; go_simp; try (with_reducible rfl))
    try simp only [List.getElem_toArray, List.getElem_cons_zero, List.getElem_cons_succ, Act.put, List.setIfInBounds_toArray, List.set_cons_zero, List.set_cons_succ]
    refine wpAnyH_take (i := 14) (oi := _) (v := ?veB14) rfl (by kernel_rfl) (by kernel_rfl) (by kernel_rfl) (fun _ _ _ h => h) (Or.inl ⟨by rfl, ?hyeB14⟩) (by assumption) ?resteB14
    case hyeB14 => (intro w hSw; (try dsimp only at hSw); go_split_ands; go_simp; try (with_reducible rfl))
    try simp only [List.getElem_toArray, List.getElem_cons_zero, List.getElem_cons_succ, Act.put, List.setIfInBounds_toArray, List.set_cons_zero, List.set_cons_succ]
    refine wpAnyH_take (i := 15) (oi := _) (v := ?veB15) rfl (by kernel_rfl) (by kernel_rfl) (by kernel_rfl) (fun _ _ _ h => h) (Or.inl ⟨by rfl, ?hyeB15⟩) (by assumption) ?resteB15
    case hyeB15 => (intro w hSw; (try dsimp only at hSw); go_split_ands; go_simp; try (with_reducible rfl))
    try simp only [List.getElem_toArray, List.getElem_cons_zero, List.getElem_cons_succ, Act.put, List.setIfInBounds_toArray, List.set_cons_zero, List.set_cons_succ]
    refine wpAnyH_ready (rs := [16]) (by kernel_rfl) (by simp) ?_
    refine AllReadyH.cons (o := _) rfl (fun K hK => ?_) AllReadyH.nil
    go_simp
    refine (same_any _ _ _ _ _ _ R R _ L6.out M6.out).mono ?_
    rintro e w7 ⟨rfl, q, rfl⟩
    rw [beq_self_eq_true]
    go_wp2_with fail
    refine hK.out _ _ ⟨X6.out.drewN q, Y6.out.drewN q⟩ (fun hHeld => ?_)
    clear hK K
    try simp only [List.getElem_toArray, List.getElem_cons_zero, List.getElem_cons_succ, Act.put, List.setIfInBounds_toArray, List.set_cons_zero, List.set_cons_succ]
    refine wpAnyH_take (i := 17) (oi := _) (v := ?vfB17) rfl (by kernel_rfl) (by kernel_rfl) (by kernel_rfl) (fun _ _ _ h => h) (Or.inl ⟨by rfl, ?hyfB17⟩) (by assumption) ?restfB17
    case hyfB17 => (intro w hSw; (try dsimp only at hSw); go_split_ands; go_simp; try (with_reducible rfl))
    try simp only [List.getElem_toArray, List.getElem_cons_zero, List.getElem_cons_succ, Act.put, List.setIfInBounds_toArray, List.set_cons_zero, List.set_cons_succ]
    refine wpAnyH_take (i := 18) (oi := _) (v := ?vfB18) rfl (by kernel_rfl) (by kernel_rfl) (by kernel_rfl) (fun _ _ _ h => h) (Or.inl ⟨by rfl, ?hyfB18⟩) (by assumption) ?restfB18
    case hyfB18 => (intro w hSw; (try dsimp only at hSw); go_split_ands; go_simp; try (with_reducible rfl))
    try simp only [List.getElem_toArray, List.getElem_cons_zero, List.getElem_cons_succ, Act.put, List.setIfInBounds_toArray, List.set_cons_zero, List.set_cons_succ]
    refine wpAnyH_done (by kernel_rfl) ?_ _
    have X8 : Hid (Row (w6.drewN q) gx 28 V.cs) := X6.out.drewN q
    have L8 : Hid (Lies .u8 (w6.drewN q) a1 rn cap1 R) := L6.out.drewN q
    have B8 := hid (bdrew B6.out q)
    clear X6 Y6 L6 M6 B6 hHeld
    generalize w6.drewN q = w8 at *
    by_cases hE : E = 0
    · obtain ⟨e1, e2⟩ := PB.out hE
      subst hE
      have P1 := hid e1
      have P2 := hid e2
      have T9 := hid (texts_one w8 ⟨a1, rn, cap1, R⟩ ⟨L8.out, oR⟩)
      have B9 := hid (balloc B8.out (.cells #[.slice a1 rn cap1] 30))
      have b9 : bytes [⟨a1, rn, cap1, R⟩] = R := by simp [bytes]
      have Hb9 := hid b9
      clear e1 e2 PB b9 hEE
      go_wp2_with (refine ld28 _ rfl rfl gx rfl V kV 28 X8.out ?_)
      refine (with_any V kV _ 1 1 [⟨a1, rn, cap1, R⟩] _ T9.out).mono ?_
      rintro e w10 ⟨v10, rfl, hown, hb10⟩
      rw [Hb9.out, P2.out] at hown
      rw [Hb9.out, P1.out]
      obtain ⟨a10, cap10, rfl, hl10, _⟩ := owns_lies hown
      have L10 := hid hl10
      have B10 := hid (bthen B9.out hb10)
      have Lb := hid (HL.out.below B10.out)
      clear hown hb10 hl10
      generalize hln : l.length = ln at *
      clear hln
      go_wp2_with fail
      refine (same_any _ _ _ _ _ _ l l _ L10.out Lb.out).mono ?_
      rintro e w11 ⟨rfl, q2, rfl⟩
      rw [beq_self_eq_true]
      go_wp2_with fail
      go_ret
      exact ⟨rfl, bdrew B10.out q2⟩
    · have hE' : (E != 0) = true := by rw [bne_iff_ne]; exact hE
      go_wp2_with fail
      go_ret
      exact ⟨rfl, B8.out⟩
theorem wf_u8 {n : Int} (h : (Lit.int .u8 n).wf = true) : 0 ≤ n ∧ n < 256 := by
  simp [Lit.wf, IntKind.min, IntKind.max, IntKind.bits, IntKind.signed] at h; omega
theorem IsRow.oct {w : World} {a : Option Addr} {len cap : Nat} {zs : List Int} (h : IsRow .u8 w a len cap zs) : Oct zs := fun x hx => wf_u8 (h.wf x hx)
theorem decodes_walk (a : Option Addr) (len cap : Nat) (z : List Int) (w : World) (h : IsRow .u8 w a len cap z) :
    Calls Try.prog 4 #[.slice a len cap] w fun e w' => e = .returned (.bool true) ∧ Below w.heap.size w w' :=
  decodes_core a len (min len 1400) cap ((z.take len).take (min len 1400)) w rfl h.lies.2.1 h.lies.2.2.1 (h.lies.pre _ (Nat.min_le_left ..)) (oct_take (oct_take h.oct _) _)
end Go.Proofs.Ytmpkemlnpmephaa
