/- The walk of HopoptHops. -/
import Derived.Test.YtdfeahbpgchkoaaHopMrk
import Derived.Test.YtdfeahbpgchkoaaHopKnw
import Derived.Test.YtdfeahbpgchkoaaHopOpn
namespace Go.Proofs.Ytdfeahbpgchkoaa
open Go.ChangeShapes Go.WideShapes Go.ChangeAt Go.RowKit
set_option linter.unusedVariables false
set_option linter.unusedSimpArgs false

theorem owE_cases (h : Ho) (own : Int) : owE h own = if (okO h && !decide (own < 0) && !decide (65535 < own)) = true then 0 else 1 := by
  have : (okO h && rkB own) = (okO h && !decide (own < 0) && !decide (65535 < own)) := by
    cases okO h <;> rw [Bool.eq_iff_iff] <;> simp [rkB]
  rw [owE, this]
set_option maxHeartbeats 3200000 in
set_option maxRecDepth 100000 in
theorem hops_walk (h : Ho) (own least : Int) (d : Bool) (w : World) (_ : True) (_ : (Lit.int .i64 own).wf = true) (_ : (Lit.int .i64 least).wf = true) :
    Calls Try.prog 4 #[.agg h.cs, .int .i64 own, .int .i64 least, .bool d] w fun e w' => e = .returned (.bool true) ∧ Below w.heap.size w w' := by
  have hz := zho
  have R1 := hid (Row.new w 23 h.cs)
  have B1 := hid (balloc (Below.refl w.heap.size w) (.cells h.cs 23))
  have HV : Hid (conV h own least = (hpB h own least && csB h own least)) := rfl
  have HP : Hid (hpE h own least = if hpB h own least = true then 0 else 1) := rfl
  have HC := hid (hpB_cases h own least)
  have HW := hid (owE_cases h own)
  have HM : Hid (mkO h own d = if owE h own = 0 then (h.setR own).setD d else Ho.zero) := rfl
  have chop := hid (fun w' => hop_any h own least w')
  have crop := hid (fun w' => refHop_any h own least w')
  have ccon := hid (fun w' => consistent_any h own least w')
  have cmrk := hid (fun w' => mark_any h own d w')
  have crco := hid (fun (k : hpB h own least = true) w' => refConsistent_any h own least w' k)
  have qP := eqRo (hopO h own least) (hopO h own least)
  rw [Ho.eqB_self] at qP
  have qM := eqRo ((h.setR own).setD d) ((h.setR own).setD d)
  rw [Ho.eqB_self] at qM
  generalize hopO h own least = P at *
  generalize hopE h own least = E at *
  generalize conV h own least = V at *
  generalize hpE h own least = pe at *
  generalize hpB h own least = pb at *
  generalize csB h own least = cb at *
  generalize mkO h own d = M at *
  generalize owE h own = oe at *
  have hEE : (E != E) = false := by simp
  have hVV : (V != V) = false := by simp
  go_enter Try.func4, Try.ntmps4
  go_upto_region 1 with fail
  generalize w.alloc (.cells h.cs 23) = w1 at *
  go_wp2_with (refine ldO or_ _ rfl rfl w.heap.size rfl h 23 R1.out ?_)
  refine (hopTo_any h _).mono ?_
  rintro e w2 ⟨rfl, hb2⟩
  have R2 := hid (R1.out.below hb2)
  have B2 := hid (bthen B1.out hb2)
  clear hb2 R1 B1
  go_wp2_with fail
  refine (chop.out _).mono ?_
  rintro e w3 ⟨rfl, hb3⟩
  have X4 := hid (layO_new w3 28 P)
  have R4 := hid ((R2.out.below hb3).below (layO_below w3 28 P))
  have B4 := hid (bthen (bthen B2.out hb3) (layO_below w3 28 P))
  clear hb3 R2 B2 chop
  go_upto_region 2 with (refine stO oh _ _ rfl rfl w3.heap.size P rfl rfl 28 Ho.zero (Row.new w3 28 _) ?_)
  generalize (w3.alloc (.cells Ho.zero.cs 28)).setRow w3.heap.size P.cs = w4 at *
  generalize w3.heap.size = gx at *
  go_wp2_with (refine ldO or_ _ rfl rfl w.heap.size rfl h 23 R4.out ?_)
  refine (crop.out _).mono ?_
  rintro e w5 ⟨rfl, hb5⟩
  have Y6 := hid (layO_new w5 23 P)
  have X6 := hid ((X4.out.below hb5).below (layO_below w5 23 P))
  have R6 := hid ((R4.out.below hb5).below (layO_below w5 23 P))
  have B6 := hid (bthen (bthen B4.out hb5) (layO_below w5 23 P))
  clear hb5 X4 R4 B4 crop
  go_upto_region 3 with (refine stO or_ _ _ rfl rfl w5.heap.size P rfl rfl 23 Ho.zero (Row.new w5 23 _) ?_)
  generalize (w5.alloc (.cells Ho.zero.cs 23)).setRow w5.heap.size P.cs = w6 at *
  generalize w5.heap.size = gy at *
  go_wp2_with (refine ldO or_ _ rfl rfl w.heap.size rfl h 23 R6.out ?_)
  refine (hopTo_any h _).mono ?_
  rintro e w7 ⟨rfl, hb7⟩
  have R7 := hid (R6.out.below hb7)
  have X7 := hid (X6.out.below hb7)
  have Y7 := hid (Y6.out.below hb7)
  have B7 := hid (bthen B6.out hb7)
  clear hb7 R6 X6 Y6 B6
  go_wp2_with fail
  refine (ccon.out _).mono ?_
  rintro e w8 ⟨rfl, hb8⟩
  have R8 := hid (R7.out.below hb8)
  have X8 := hid (X7.out.below hb8)
  have Y8 := hid (Y7.out.below hb8)
  have B8 := hid (bthen B7.out hb8)
  clear hb8 R7 X7 Y7 B7 ccon
  go_wp2_with (refine ldO or_ _ rfl rfl w.heap.size rfl h 23 R8.out ?_)
  refine (hopTo_any h _).mono ?_
  rintro e w9 ⟨rfl, hb9⟩
  have R9 := hid (R8.out.below hb9)
  have X9 := hid (X8.out.below hb9)
  have Y9 := hid (Y8.out.below hb9)
  have B9 := hid (bthen B8.out hb9)
  clear hb9 R8 X8 Y8 B8
  go_wp2_with fail
  refine (cmrk.out _).mono ?_
  rintro e w10 ⟨rfl, hb10⟩
  have M11 := hid (layO_new w10 28 M)
  have R11 := hid ((R9.out.below hb10).below (layO_below w10 28 M))
  have X11 := hid ((X9.out.below hb10).below (layO_below w10 28 M))
  have Y11 := hid ((Y9.out.below hb10).below (layO_below w10 28 M))
  have B11 := hid (bthen (bthen B9.out hb10) (layO_below w10 28 M))
  clear hb10 R9 X9 Y9 B9 cmrk
  go_upto_region 5 with (refine stO oh _ _ rfl rfl w10.heap.size M rfl rfl 28 Ho.zero (Row.new w10 28 _) ?_)
  generalize (w10.alloc (.cells Ho.zero.cs 28)).setRow w10.heap.size M.cs = w11 at *
  generalize w10.heap.size = gm at *
  refine wp_region_held_drew (S := fun w' => Row w' gx 28 P.cs ∧ Row w' gy 23 P.cs) (by kernel_rfl) ?_ (fun hHeld => ?_)
  · exact ⟨X11.out, Y11.out⟩
  refine wpAnyH_take (i := 0) (oi := _) (v := ?va0) rfl (by kernel_rfl) (by kernel_rfl) (by kernel_rfl) (fun _ _ _ h => h) (Or.inl ⟨by rfl, ?hya0⟩) (by assumption) ?resta0
  case hya0 => (intro w hSw; (try dsimp only at hSw); go_split_ands; go_simp; try (with_reducible rfl))
  try simp only [List.getElem_toArray, List.getElem_cons_zero, List.getElem_cons_succ, Act.put, List.setIfInBounds_toArray, List.set_cons_zero, List.set_cons_succ]
  refine wpAnyH_take (i := 1) (oi := _) (v := ?va1) rfl (by kernel_rfl) (by kernel_rfl) (by kernel_rfl) (fun _ _ _ h => h) (Or.inl ⟨by rfl, ?hya1⟩) (by assumption) ?resta1
  case hya1 => (intro w hSw; (try dsimp only at hSw); go_split_ands; go_simp; try (with_reducible rfl))
  try simp only [List.getElem_toArray, List.getElem_cons_zero, List.getElem_cons_succ, Act.put, List.setIfInBounds_toArray, List.set_cons_zero, List.set_cons_succ]
  refine wpAnyH_take (i := 2) (oi := _) (v := ?va2) rfl (by kernel_rfl) (by kernel_rfl) (by kernel_rfl) (fun _ _ _ h => h) (Or.inl ⟨by rfl, ?hya2⟩) (by assumption) ?resta2
  case hya2 => (intro w hSw; (try dsimp only at hSw); go_split_ands; go_simp; try (with_reducible rfl))
  try simp only [List.getElem_toArray, List.getElem_cons_zero, List.getElem_cons_succ, Act.put, List.setIfInBounds_toArray, List.set_cons_zero, List.set_cons_succ]
  refine wpAnyH_take (i := 3) (oi := _) (v := ?va3) rfl (by kernel_rfl) (by kernel_rfl) (by kernel_rfl) (fun _ _ _ h => h) (Or.inl ⟨by rfl, ?hya3⟩) (by assumption) ?resta3
  case hya3 => (intro w hSw; (try dsimp only at hSw); go_split_ands; go_simp; try (with_reducible rfl))
  try simp only [List.getElem_toArray, List.getElem_cons_zero, List.getElem_cons_succ, Act.put, List.setIfInBounds_toArray, List.set_cons_zero, List.set_cons_succ]
  refine wpAnyH_take (i := 4) (oi := _) (v := ?va4) rfl (by kernel_rfl) (by kernel_rfl) (by kernel_rfl) (fun _ _ _ h => h) (Or.inl ⟨by rfl, ?hya4⟩) (by assumption) ?resta4
  case hya4 => (intro w hSw; (try dsimp only at hSw); go_split_ands; go_simp; try (with_reducible rfl))
  try simp only [List.getElem_toArray, List.getElem_cons_zero, List.getElem_cons_succ, Act.put, List.setIfInBounds_toArray, List.set_cons_zero, List.set_cons_succ]
  refine wpAnyH_take (i := 5) (oi := _) (v := ?va5) rfl (by kernel_rfl) (by kernel_rfl) (by kernel_rfl) (fun _ _ _ h => h) (Or.inl ⟨by rfl, ?hya5⟩) (by assumption) ?resta5
  case hya5 => (intro w hSw; (try dsimp only at hSw); go_split_ands; go_simp; try (with_reducible rfl))
  try simp only [List.getElem_toArray, List.getElem_cons_zero, List.getElem_cons_succ, Act.put, List.setIfInBounds_toArray, List.set_cons_zero, List.set_cons_succ]
  refine wpAnyH_take (i := 6) (oi := _) (v := ?va6) rfl (by kernel_rfl) (by kernel_rfl) (by kernel_rfl) (fun _ _ _ h => h) (Or.inl ⟨by rfl, ?hya6⟩) (by assumption) ?resta6
  case hya6 => (intro w hSw; (try dsimp only at hSw); go_split_ands; go_simp; try (with_reducible rfl))
  try simp only [List.getElem_toArray, List.getElem_cons_zero, List.getElem_cons_succ, Act.put, List.setIfInBounds_toArray, List.set_cons_zero, List.set_cons_succ]
  refine wpAnyH_take (i := 7) (oi := _) (v := ?va7) rfl (by kernel_rfl) (by kernel_rfl) (by kernel_rfl) (fun _ _ _ h => h) (Or.inl ⟨by rfl, ?hya7⟩) (by assumption) ?resta7
  case hya7 => (intro w hSw; (try dsimp only at hSw); go_split_ands; go_simp; try (with_reducible rfl))
  try simp only [List.getElem_toArray, List.getElem_cons_zero, List.getElem_cons_succ, Act.put, List.setIfInBounds_toArray, List.set_cons_zero, List.set_cons_succ]
  refine wpAnyH_take (i := 8) (oi := _) (v := ?va8) rfl (by kernel_rfl) (by kernel_rfl) (by kernel_rfl) (fun _ _ _ h => h) (Or.inl ⟨by rfl, ?hya8⟩) (by assumption) ?resta8
  case hya8 => (intro w hSw; (try dsimp only at hSw); go_split_ands; go_simp; try (with_reducible rfl))
  try simp only [List.getElem_toArray, List.getElem_cons_zero, List.getElem_cons_succ, Act.put, List.setIfInBounds_toArray, List.set_cons_zero, List.set_cons_succ]
  refine wpAnyH_take (i := 9) (oi := _) (v := .agg P.cs) rfl (by kernel_rfl) (by kernel_rfl) (by kernel_rfl) (fun _ _ _ h => h) (yldO oh (by rfl) _ rfl gx rfl P _ (fun w h => h.1)) (by assumption) ?_
  try simp only [List.getElem_toArray, List.getElem_cons_zero, List.getElem_cons_succ, Act.put, List.setIfInBounds_toArray, List.set_cons_zero, List.set_cons_succ]
  refine wpAnyH_take (i := 11) (oi := _) (v := .agg P.cs) rfl (by kernel_rfl) (by kernel_rfl) (by kernel_rfl) (fun _ _ _ h => h) (yldO or_ (by rfl) _ rfl gy rfl P _ (fun w h => h.2)) (by assumption) ?_
  try simp only [List.getElem_toArray, List.getElem_cons_zero, List.getElem_cons_succ, Act.put, List.setIfInBounds_toArray, List.set_cons_zero, List.set_cons_succ]
  refine wpAnyH_ready (rs := [10]) (by kernel_rfl) (by simp) ?_
  refine AllReadyH.cons (o := _) rfl (fun K hK => ?_) AllReadyH.nil
  go_simp
  refine (hopOf_any P _).mono ?_
  rintro e w12 ⟨rfl, hb12⟩
  have bb : Below w11.heap.size w11 w12 := bthen (bdrew (Below.refl _ _) 1) hb12
  have R12 := hid (R11.out.below bb)
  have X12 := hid (X11.out.below bb)
  have Y12 := hid (Y11.out.below bb)
  have M12 := hid (M11.out.below bb)
  have B12 := hid (bthen B11.out bb)
  clear hb12 bb R11 X11 Y11 M11 B11
  go_wp2_with fail
  refine hK.out _ _ ⟨X12.out, Y12.out⟩ (fun hHeld => ?_)
  clear hK K
  try simp only [List.getElem_toArray, List.getElem_cons_zero, List.getElem_cons_succ, Act.put, List.setIfInBounds_toArray, List.set_cons_zero, List.set_cons_succ]
  refine wpAnyH_take (i := 12) (oi := _) (v := ?vb12) rfl (by kernel_rfl) (by kernel_rfl) (by kernel_rfl) (fun _ _ _ h => h) (Or.inl ⟨by rfl, ?hyb12⟩) (by assumption) ?restb12
  case hyb12 => (intro w hSw; (try dsimp only at hSw); go_split_ands; go_simp; try (with_reducible rfl))
  try simp only [List.getElem_toArray, List.getElem_cons_zero, List.getElem_cons_succ, Act.put, List.setIfInBounds_toArray, List.set_cons_zero, List.set_cons_succ]
  refine wpAnyH_take (i := 13) (oi := _) (v := ?vb13) rfl (by kernel_rfl) (by kernel_rfl) (by kernel_rfl) (fun _ _ _ h => h) (Or.inl ⟨by rfl, ?hyb13⟩) (by assumption) ?restb13
  case hyb13 => (intro w hSw; (try dsimp only at hSw); go_split_ands; go_simp; try (with_reducible rfl))
  try simp only [List.getElem_toArray, List.getElem_cons_zero, List.getElem_cons_succ, Act.put, List.setIfInBounds_toArray, List.set_cons_zero, List.set_cons_succ]
  refine wpAnyH_done (by kernel_rfl) ?_ _
  clear hHeld hEE hVV qP X12 Y12
  go_wp2_with (refine ldO or_ _ rfl rfl w.heap.size rfl h 23 R12.out ?_)
  refine (refRight_any h _).mono ?_
  rintro e w13 ⟨rfl, hb13⟩
  have R13 := hid (R12.out.below hb13)
  have M13 := hid (M12.out.below hb13)
  have B13 := hid (bthen B12.out hb13)
  clear hb13 R12 M12 B12
  generalize okO h = ob at *
  cases ob
  · obtain rfl : oe = 1 := by rw [HW.out]; rfl
    obtain rfl : pb = false := by rw [HC.out]; rfl
    obtain rfl : V = false := by rw [HV.out]; rfl
    obtain rfl : pe = 1 := by rw [HP.out]; rfl
    go_wp2_with fail
    refine (hopKnown_any _).mono ?_
    rintro e w14 ⟨rfl, hb14⟩
    go_wp2_with fail
    go_ret
    exact ⟨rfl, bthen B13.out hb14⟩
  · by_cases a0 : own < 0
    · have e0 : decide (own < 0) = true := decide_eq_true a0
      obtain rfl : oe = 1 := by rw [HW.out]; simp [e0]
      obtain rfl : pb = false := by rw [HC.out]; simp [e0]
      obtain rfl : V = false := by rw [HV.out]; rfl
      obtain rfl : pe = 1 := by rw [HP.out]; rfl
      go_wp2_with fail
      refine (hopKnown_any _).mono ?_
      rintro e w14 ⟨rfl, hb14⟩
      go_wp2_with fail
      go_ret
      exact ⟨rfl, bthen B13.out hb14⟩
    · have e0 : decide (own < 0) = false := decide_eq_false a0
      by_cases a1 : 65535 < own
      · have e1 : decide (65535 < own) = true := decide_eq_true a1
        obtain rfl : oe = 1 := by rw [HW.out]; simp [e1]
        obtain rfl : pb = false := by rw [HC.out]; simp [e1]
        obtain rfl : V = false := by rw [HV.out]; rfl
        obtain rfl : pe = 1 := by rw [HP.out]; rfl
        go_wp2_with fail
        refine (hopKnown_any _).mono ?_
        rintro e w14 ⟨rfl, hb14⟩
        go_wp2_with fail
        go_ret
        exact ⟨rfl, bthen B13.out hb14⟩
      · have e1 : decide (65535 < own) = false := decide_eq_false a1
        obtain rfl : oe = 0 := by rw [HW.out]; simp [e0, e1]
        obtain rfl : M = (h.setR own).setD d := by rw [HM.out]; rfl
        have Z14 := hid (layO_new w13 23 h)
        have R14 := hid (R13.out.below (layO_below w13 23 h))
        have M14 := hid (M13.out.below (layO_below w13 23 h))
        have B14 := hid (bthen B13.out (layO_below w13 23 h))
        have hgm : gm < w13.heap.size := M13.out.lt
        have hgo : w.heap.size < w13.heap.size := R13.out.lt
        go_upto_region 10 with (first
          | (refine ldO or_ _ rfl rfl w.heap.size rfl h 23 R13.out ?_)
          | (refine stO or_ _ _ rfl rfl w13.heap.size h rfl rfl 23 Ho.zero (Row.new w13 23 _) ?_))
        generalize (w13.alloc (.cells Ho.zero.cs 23)).setRow w13.heap.size h.cs = w14 at *
        generalize w13.heap.size = gz at *
        clear R13 M13 B13
        have f4 := Z14.out.frozen 4
        have n4 := (Z14.out.cell 4).trans h.at4
        have Z15 : Hid (Row (w14.setCell ⟨gz, 4, none⟩ (.int .i64 own)) gz 23 (h.setR own).cs) := by rw [Hid, ← Ho.set4]; exact Z14.out.set 4 _
        have f0 := Z15.out.frozen 0
        have n0 := (Z15.out.cell 0).trans (h.setR own).at0
        have Z16 : Hid (Row ((w14.setCell ⟨gz, 4, none⟩ (.int .i64 own)).setCell ⟨gz, 0, none⟩ (.bool d)) gz 23 ((h.setR own).setD d).cs) := by rw [Hid, ← Ho.set0]; exact Z15.out.set 0 _
        have M16 := hid ((M14.out.other ⟨gz, 4, none⟩ (.int .i64 own) (by simp; omega)).other ⟨gz, 0, none⟩ (.bool d) (by simp; omega))
        have R16 := hid ((R14.out.other ⟨gz, 4, none⟩ (.int .i64 own) (by simp; omega)).other ⟨gz, 0, none⟩ (.bool d) (by simp; omega))
        have B16 := hid (bset 0 (.bool d) (bset 4 (.int .i64 own) B14.out (g := gz) (by omega)) (g := gz) (by omega))
        clear Z14 M14 R14 B14 Z15
        go_upto_region 11 with fail
        generalize (w14.setCell ⟨gz, 4, none⟩ (.int .i64 own)).setCell ⟨gz, 0, none⟩ (.bool d) = w16 at *
        clear f4 n4 f0 n0
        refine wp_region_held_drew (S := fun w' => Row w' gm 28 ((h.setR own).setD d).cs ∧ Row w' gz 23 ((h.setR own).setD d).cs) (by kernel_rfl) ?_ (fun hHeld => ?_)
        · exact ⟨M16.out, Z16.out⟩
        refine wpAnyH_take (i := 0) (oi := _) (v := ?vc0) rfl (by kernel_rfl) (by kernel_rfl) (by kernel_rfl) (fun _ _ _ h => h) (Or.inl ⟨by rfl, ?hyc0⟩) (by assumption) ?restc0
        case hyc0 => (intro w hSw; (try dsimp only at hSw); go_split_ands; go_simp; try (with_reducible rfl))
        try simp only [List.getElem_toArray, List.getElem_cons_zero, List.getElem_cons_succ, Act.put, List.setIfInBounds_toArray, List.set_cons_zero, List.set_cons_succ]
        refine wpAnyH_take (i := 1) (oi := _) (v := ?vc1) rfl (by kernel_rfl) (by kernel_rfl) (by kernel_rfl) (fun _ _ _ h => h) (Or.inl ⟨by rfl, ?hyc1⟩) (by assumption) ?restc1
        case hyc1 => (intro w hSw; (try dsimp only at hSw); go_split_ands; go_simp; try (with_reducible rfl))
        try simp only [List.getElem_toArray, List.getElem_cons_zero, List.getElem_cons_succ, Act.put, List.setIfInBounds_toArray, List.set_cons_zero, List.set_cons_succ]
        refine wpAnyH_take (i := 2) (oi := _) (v := ?vc2) rfl (by kernel_rfl) (by kernel_rfl) (by kernel_rfl) (fun _ _ _ h => h) (Or.inl ⟨by rfl, ?hyc2⟩) (by assumption) ?restc2
        case hyc2 => (intro w hSw; (try dsimp only at hSw); go_split_ands; go_simp; try (with_reducible rfl))
        try simp only [List.getElem_toArray, List.getElem_cons_zero, List.getElem_cons_succ, Act.put, List.setIfInBounds_toArray, List.set_cons_zero, List.set_cons_succ]
        refine wpAnyH_take (i := 3) (oi := _) (v := .agg ((h.setR own).setD d).cs) rfl (by kernel_rfl) (by kernel_rfl) (by kernel_rfl) (fun _ _ _ h => h) (yldO oh (by rfl) _ rfl gm rfl ((h.setR own).setD d) _ (fun w h => h.1)) (by assumption) ?_
        try simp only [List.getElem_toArray, List.getElem_cons_zero, List.getElem_cons_succ, Act.put, List.setIfInBounds_toArray, List.set_cons_zero, List.set_cons_succ]
        refine wpAnyH_take (i := 5) (oi := _) (v := .agg ((h.setR own).setD d).cs) rfl (by kernel_rfl) (by kernel_rfl) (by kernel_rfl) (fun _ _ _ h => h) (yldO or_ (by rfl) _ rfl gz rfl ((h.setR own).setD d) _ (fun w h => h.2)) (by assumption) ?_
        try simp only [List.getElem_toArray, List.getElem_cons_zero, List.getElem_cons_succ, Act.put, List.setIfInBounds_toArray, List.set_cons_zero, List.set_cons_succ]
        refine wpAnyH_ready (rs := [4]) (by kernel_rfl) (by simp) ?_
        refine AllReadyH.cons (o := _) rfl (fun K hK => ?_) AllReadyH.nil
        go_simp
        refine (hopOf_any _ _).mono ?_
        rintro e w17 ⟨rfl, hb17⟩
        have bb : Below w16.heap.size w16 w17 := bthen (bdrew (Below.refl _ _) 1) hb17
        have R17 := hid (R16.out.below bb)
        have M17 := hid (M16.out.below bb)
        have Z17 := hid (Z16.out.below bb)
        have B17 := hid (bthen B16.out bb)
        clear hb17 bb R16 M16 Z16 B16
        go_wp2_with fail
        refine hK.out _ _ ⟨M17.out, Z17.out⟩ (fun hHeld => ?_)
        clear hK K
        try simp only [List.getElem_toArray, List.getElem_cons_zero, List.getElem_cons_succ, Act.put, List.setIfInBounds_toArray, List.set_cons_zero, List.set_cons_succ]
        refine wpAnyH_take (i := 6) (oi := _) (v := ?vd6) rfl (by kernel_rfl) (by kernel_rfl) (by kernel_rfl) (fun _ _ _ h => h) (Or.inl ⟨by rfl, ?hyd6⟩) (by assumption) ?restd6
        case hyd6 => (intro w hSw; (try dsimp only at hSw); go_split_ands; go_simp; try (with_reducible rfl))
        try simp only [List.getElem_toArray, List.getElem_cons_zero, List.getElem_cons_succ, Act.put, List.setIfInBounds_toArray, List.set_cons_zero, List.set_cons_succ]
        refine wpAnyH_take (i := 7) (oi := _) (v := ?vd7) rfl (by kernel_rfl) (by kernel_rfl) (by kernel_rfl) (fun _ _ _ h => h) (Or.inl ⟨by rfl, ?hyd7⟩) (by assumption) ?restd7
        case hyd7 => (intro w hSw; (try dsimp only at hSw); go_split_ands; go_simp; try (with_reducible rfl))
        try simp only [List.getElem_toArray, List.getElem_cons_zero, List.getElem_cons_succ, Act.put, List.setIfInBounds_toArray, List.set_cons_zero, List.set_cons_succ]
        refine wpAnyH_done (by kernel_rfl) ?_ _
        clear hHeld qM M17 Z17
        by_cases a2 : least < 1
        · have e2 : decide (least < 1) = true := decide_eq_true a2
          obtain rfl : pb = false := by rw [HC.out]; simp [e2]
          obtain rfl : pe = 1 := by rw [HP.out]; rfl
          go_wp2_with fail
          refine (hopKnown_any _).mono ?_
          rintro e w18 ⟨rfl, hb18⟩
          go_wp2_with fail
          go_ret
          exact ⟨rfl, bthen B17.out hb18⟩
        · have e2 : decide (least < 1) = false := decide_eq_false a2
          by_cases a3 : 65535 < least
          · have e3 : decide (65535 < least) = true := decide_eq_true a3
            obtain rfl : pb = false := by rw [HC.out]; simp [e3]
            obtain rfl : pe = 1 := by rw [HP.out]; rfl
            go_wp2_with fail
            refine (hopKnown_any _).mono ?_
            rintro e w18 ⟨rfl, hb18⟩
            go_wp2_with fail
            go_ret
            exact ⟨rfl, bthen B17.out hb18⟩
          · have e3 : decide (65535 < least) = false := decide_eq_false a3
            obtain rfl : pb = true := by rw [HC.out]; simp [e0, e1, e2, e3]
            obtain rfl : pe = 0 := by rw [HP.out]; rfl
            obtain rfl : V = cb := by rw [HV.out]; rfl
            have crco' := hid (crco.out rfl)
            clear crco
            go_wp2_with fail
            refine (hopKnown_any _).mono ?_
            rintro e w18 ⟨rfl, hb18⟩
            have R18 := hid (R17.out.below hb18)
            have B18 := hid (bthen B17.out hb18)
            clear hb18 R17 B17
            go_wp2_with (refine ldO or_ _ rfl rfl w.heap.size rfl h 23 R18.out ?_)
            refine (crco'.out _).mono ?_
            rintro e w19 ⟨rfl, hb19⟩
            go_wp2_with fail
            go_ret
            exact ⟨ret_bool (by simp), bthen B18.out hb19⟩
end Go.Proofs.Ytdfeahbpgchkoaa
