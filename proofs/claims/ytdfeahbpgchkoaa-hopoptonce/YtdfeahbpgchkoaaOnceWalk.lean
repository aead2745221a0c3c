/- The walk of HopoptOnce. -/
import Derived.Test.YtdfeahbpgchkoaaHopKnw
import Derived.Test.YtdfeahbpgchkoaaHopOpn
namespace Go.Proofs.Ytdfeahbpgchkoaa
open Go.ChangeShapes Go.WideShapes Go.ChangeAt Go.RowKit
set_option linter.unusedVariables false
set_option linter.unusedSimpArgs false

theorem rem_place (x : Int) (H : Nat) (h : 1 ≤ H) : ∃ P : Nat, (IntKind.u64.wrap x).tmod (H : Int) = (P : Int) ∧ P < H := by
  have h0 : 0 ≤ IntKind.u64.wrap x := by rw [IntKind.wrap_u64]; omega
  refine ⟨((IntKind.u64.wrap x) % (H : Int)).toNat, ?_, ?_⟩
  · rw [Int.tmod_eq_emod_of_nonneg h0, Int.toNat_of_nonneg (Int.emod_nonneg _ (by omega))]
  · have := Int.emod_lt_of_pos (IntKind.u64.wrap x) (show (0 : Int) < H by omega)
    have := Int.emod_nonneg (IntKind.u64.wrap x) (show (H : Int) ≠ 0 by omega)
    omega
set_option maxHeartbeats 1600000 in
set_option maxRecDepth 100000 in
theorem once_walk0 (h : Ho) (a : Option Addr) (n cap : Nat) (l : List Int) (least : Int) (w : World) (hL : Lies .i64 w a n cap l) :
    Calls Try.prog 5 #[.agg h.cs, .slice a n cap, .int .i64 least] w fun e w' => e = .returned (.bool true) ∧ Below w.heap.size w w' := by
  have hz := zho
  have HL := hid hL
  have hcm : n ≤ maxLen := Nat.le_trans hL.2.1 hL.2.2.1
  unfold maxLen at hcm
  clear hL
  obtain ⟨P, hP, hPlt⟩ := rem_place least 65535 (by omega)
  have hP' : (IntKind.u64.wrap least).tmod 65535 = (P : Int) := hP
  have R1 := hid (Row.new w 23 h.cs)
  have B1 := hid (balloc (Below.refl w.heap.size w) (.cells h.cs 23))
  clear hP
  go_enter Try.func5, Try.ntmps5
  go_upto_region 1 with fail
  generalize w.alloc (.cells h.cs 23) = w1 at *
  go_wp2_with (refine ldO or_ _ rfl rfl w.heap.size rfl h 23 R1.out ?_)
  refine (hopTo_any h _).mono ?_
  rintro e w2 ⟨rfl, hb2⟩
  have R2 := hid (R1.out.below hb2)
  have X3 := hid (layO_new w2 28 h)
  have R3 := hid (R2.out.below (layO_below w2 28 h))
  have B3 := hid (bthen (bthen B1.out hb2) (layO_below w2 28 h))
  have hg : w.heap.size < w2.heap.size := R2.out.lt
  clear hb2 R1 B1 R2
  go_upto_region 2 with (refine stO oh _ _ rfl rfl w2.heap.size h rfl rfl 28 Ho.zero (Row.new w2 28 _) ?_)
  generalize (w2.alloc (.cells Ho.zero.cs 28)).setRow w2.heap.size h.cs = w3 at *
  generalize w2.heap.size = gx at *
  go_wp2_with (refine ldO or_ _ rfl rfl w.heap.size rfl h 23 R3.out ?_)
  have hm1 : 1 ≤ (1 + (P : Int)) := by omega
  have hm2 : (1 + (P : Int)) ≤ 65535 := by omega
  generalize (1 + (P : Int)) = m at *
  clear hP' hPlt
  refine (refRight_any h _).mono ?_
  rintro e w4 ⟨rfl, hb4⟩
  have X4 := hid (X3.out.below hb4)
  have B4 := hid (bthen B3.out hb4)
  clear hb4 X3 R3 B3
  cases hok : okO h
  · clear hok
    go_wp2_with fail
    refine (hopKnown_any _).mono ?_
    rintro e w5 ⟨rfl, hb5⟩
    go_wp2_with fail
    go_ret
    exact ⟨rfl, bthen B4.out hb5⟩
  · have HK := hid hok
    have c1 := (X4.out.cell 1).trans h.at1
    have f1 := X4.out.frozen 1
    have X5 : Hid (Row (w4.setCell ⟨gx, 1, none⟩ (.bool false)) gx 28 (h.setW false).cs) := by rw [Hid, ← Ho.set1]; exact X4.out.set 1 _
    have B5 := hid (bset 1 (.bool false) B4.out (g := gx) (by omega))
    clear hok
    go_wp2_with fail
    generalize w4.setCell ⟨gx, 1, none⟩ (.bool false) = w5 at *
    clear X4 B4 c1 f1
    go_loopw [8, 9] (fun bad i wr => ∃ (k b : Nat) (o : Ho), k ≤ n ∧ k ≤ 30 ∧ b ≤ 1 ∧ bad = .int .i64 b ∧ i = .int .i64 k ∧ Hid (Row wr gx 28 o.cs) ∧ Hid (okO o = true) ∧ Hid (o.w = decide (b = 1)) ∧ Hid (Below w.heap.size w wr)) (fun _ i _ => 30 - (intOf i).toNat)
    case atStart => exact ⟨0, 0, h.setW false, by omega, by omega, by omega, rfl, rfl, X5.out, HK.out, rfl, B5.out⟩
    case round =>
      obtain ⟨k, b, o, hk, hk30, hb1, rfl, rfl, hX, hO, hW, hB⟩ := hrel
      clear X5 B5 HK
      by_cases hlt : k < n
      · by_cases hlt30 : k < 30
        · have hd1 : decide ((k : Int) < (n : Int)) = true := by simp; omega
          have hd2 : decide ((k : Int) < 30) = true := by simp; omega
          obtain ⟨bb, off, rfl, hcell⟩ := (HL.out.below hB.out).2.2.2.2 k hlt
          generalize l.getD k 0 = z at *
          obtain ⟨Y, hY, hYlt⟩ := rem_place z 65536 (by omega)
          have hY' : (IntKind.u64.wrap z).tmod 65536 = (Y : Int) := hY
          clear hY
          go_wp2_with (refine ldO oh _ rfl rfl gx rfl o 28 hX.out ?_)
          have hrk : Hid (rkB (Y : Int) = true) := by rw [Hid, rkB]; simp; omega
          have hpb : Hid (hpB o Y m = true) := by
            rw [Hid, hpB, hO.out, hrk.out, rkB]; simp; omega
          have HP : Hid (hpE o Y m = 0) := by rw [Hid, hpE, hpb.out]; rfl
          have HV : Hid (conV o Y m = csB o Y m) := by rw [Hid, conV, hpb.out]; rfl
          have HE : Hid (hopE o Y m = if (!csB o Y m && o.w) = true then 11 else 0) := by rw [Hid, hopE, hpb.out]; rfl
          have HN : Hid (hopO o Y m = if hopE o Y m = 0 then (o.setW (o.w || !csB o Y m)).setR Y else Ho.zero) := rfl
          have hK2 : Hid (∀ x, okO ((o.setW x).setR Y) = true) := by
            intro x
            have := hO.out
            rw [okO] at this ⊢
            simp only [Bool.and_eq_true] at this ⊢
            exact ⟨this.1, hrk.out⟩
          have hcon := hid (fun w' => consistent_any o Y m w')
          have hhop := hid (fun w' => hop_any o Y m w')
          rw [HP.out, HV.out] at hcon
          rw [HV.out] at hhop
          generalize hopO o Y m = N at *
          generalize hopE o Y m = E at *
          generalize csB o Y m = V at *
          clear HP HV hpb hrk
          refine (hcon.out _).mono ?_
          rintro e w6 ⟨rfl, hb6⟩
          have X6 := hid (hX.out.below hb6)
          have B6 := hid (bthen hB.out hb6)
          clear hb6 hX hB hcon hcell
          go_wp2_with (refine ldO oh _ rfl rfl gx rfl o 28 X6.out ?_)
          refine (hhop.out _).mono ?_
          rintro e w7 ⟨rfl, hb7⟩
          have N8 := hid (layO_new w7 28 N)
          have X8 := hid ((X6.out.below hb7).below (layO_below w7 28 N))
          have B8 := hid (bthen (bthen B6.out hb7) (layO_below w7 28 N))
          have hgx : gx < w7.heap.size := (X6.out.below hb7).lt
          clear hb7 X6 B6 hhop
          go_upto_region 13 with (refine stO oh _ _ rfl rfl w7.heap.size N rfl rfl 28 Ho.zero (Row.new w7 28 _) ?_)
          generalize (w7.alloc (.cells Ho.zero.cs 28)).setRow w7.heap.size N.cs = w8 at *
          generalize w7.heap.size = gy at *
          have x0 := (X8.out.cell 0).trans o.at0
          have y0 := (N8.out.cell 0).trans N.at0
          have y1 := (N8.out.cell 1).trans N.at1
          have y4 := (N8.out.cell 4).trans N.at4
          have X9 := hid (X8.out.setRow N.cs)
          have B9 := hid (below_setRow' B8.out (g := gx) (by omega) N.cs)
          cases V
          · by_cases hb0 : b = 0
            · subst hb0
              rw [show o.w = false from hW.out] at HE HN
              obtain rfl : E = 0 := by rw [HE.out]; rfl
              obtain rfl : N = (o.setW true).setR Y := by rw [HN.out]; rfl
              have q0 : ((o.setW true).setR (Y : Int)).d = o.d := rfl
              have q1 : ((o.setW true).setR (Y : Int)).w = true := rfl
              have q4 : ((o.setW true).setR (Y : Int)).r = (Y : Int) := rfl
              rw [q0] at y0
              rw [q1] at y1
              rw [q4] at y4
              clear q0 q1 q4
              have hOK := hid (hK2.out true)
              have HW1 : Hid (((o.setW true).setR (Y : Int)).w = decide (1 = 1)) := rfl
              generalize (o.setW true).setR (Y : Int) = N at *
              generalize o.d = od at *
              go_wp2_with (first
                | (refine ldO oh _ rfl rfl gy rfl N 28 N8.out ?_)
                | (refine stO oh _ _ rfl rfl gx N rfl rfl 28 o X8.out ?_))
              go_roundw
              case rel => exact ⟨k + 1, 1, N, by omega, by omega, by omega, by go_num, by go_num, X9.out, hOK.out, HW1.out, B9.out⟩
              case measure => simp [intOf]; omega
            · obtain rfl : b = 1 := by omega
              rw [show o.w = true from hW.out] at HE HN
              obtain rfl : E = 11 := by rw [HE.out]; rfl
              go_wp2_with fail
              refine (hopKnown_any _).mono ?_
              rintro e w10 ⟨rfl, hb10⟩
              go_wp2_with fail
              go_ret
              exact ⟨rfl, bthen B8.out hb10⟩
          · have hE : E = 0 := by rw [HE.out]; rfl
            subst hE
            have hN : N = (o.setW o.w).setR Y := by rw [HN.out]; simp
            subst hN
            have q0 : ((o.setW o.w).setR (Y : Int)).d = o.d := rfl
            have q1 : ((o.setW o.w).setR (Y : Int)).w = o.w := rfl
            have q4 : ((o.setW o.w).setR (Y : Int)).r = (Y : Int) := rfl
            rw [q0] at y0
            rw [q1, hW.out] at y1
            rw [q4] at y4
            clear q0 q1 q4
            have hOK := hid (hK2.out o.w)
            have HW1 : Hid (((o.setW o.w).setR (Y : Int)).w = decide (b = 1)) := hW.out
            generalize (o.setW o.w).setR (Y : Int) = N at *
            generalize o.d = od at *
            have hgt : decide (1 < (b : Int)) = false := by simp; omega
            have hgt' : decide (1 < b) = false := by simp; omega
            have hbb : ((b : Int) == 1) = decide (b = 1) := by
              by_cases hb0 : b = 1
              · subst hb0; rfl
              · rw [decide_eq_false hb0]; simp; omega
            go_wp2_with (first
              | (refine ldO oh _ rfl rfl gy rfl N 28 N8.out ?_)
              | (refine stO oh _ _ rfl rfl gx N rfl rfl 28 o X8.out ?_))
            go_roundw
            case rel => exact ⟨k + 1, b, N, by omega, by omega, by omega, by go_num, by go_num, X9.out, hOK.out, HW1.out, B9.out⟩
            case measure => simp [intOf]; omega
        · have hd1 : decide ((k : Int) < (n : Int)) = true := by simp; omega
          have hd2 : decide ((k : Int) < 30) = false := by simp; omega
          have hd3 : decide (k < 30) = false := by simp; omega
          go_wp2_with fail
          refine (hopKnown_any _).mono ?_
          rintro e w10 ⟨rfl, hb10⟩
          go_wp2_with fail
          go_ret
          exact ⟨rfl, bthen hB.out hb10⟩
      · have hd1 : decide ((k : Int) < (n : Int)) = false := by simp; omega
        have hd3 : decide (k < n) = false := by simp; omega
        go_wp2_with fail
        refine (hopKnown_any _).mono ?_
        rintro e w10 ⟨rfl, hb10⟩
        go_wp2_with fail
        go_ret
        exact ⟨rfl, bthen hB.out hb10⟩
theorem once_walk (h : Ho) (a : Option Addr) (n cap : Nat) (zs : List Int) (least : Int) (w : World) (_ : True) (hr : IsRow .i64 w a n cap zs) (_ : (Lit.int .i64 least).wf = true) :
    Calls Try.prog 5 #[.agg h.cs, .slice a n cap, .int .i64 least] w fun e w' => e = .returned (.bool true) ∧ Below w.heap.size w w' :=
  once_walk0 h a n cap _ least w hr.lies
end Go.Proofs.Ytdfeahbpgchkoaa
