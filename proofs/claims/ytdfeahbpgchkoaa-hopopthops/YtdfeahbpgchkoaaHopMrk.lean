/- hopopt's Mark; ref's Hop; rivuletlaw06's known. -/
import Derived.Test.YtdfeahbpgchkoaaHopHop
namespace Go.Proofs.Ytdfeahbpgchkoaa
open Go.ChangeShapes Go.WideShapes Go.ChangeAt Go.RowKit
set_option linter.unusedVariables false
set_option linter.unusedSimpArgs false

/-- An option with another rank and direction. -/
def mkO (o : Ho) (own : Int) (d : Bool) : Ho := if owE o own = 0 then (o.setR own).setD d else Ho.zero
set_option maxHeartbeats 1600000 in
theorem mark_any (h : Ho) (own : Int) (d : Bool) (w : World) :
    Calls Try.prog 19 #[.agg h.cs, .int .i64 own, .bool d] w fun e w' => e = .returned (.tuple #[.agg (mkO h own d).cs, .int .i64 (owE h own)]) ∧ Below w.heap.size w w' := by
  have hz := zho
  have HR0 := hid ((Row.new w 28 h.cs).alloc (.cells Ho.zero.cs 28))
  have HR1 : Hid (Row ((w.alloc (.cells h.cs 28)).alloc (.cells Ho.zero.cs 28)) (w.heap.size + 1) 28 Ho.zero.cs) := by simpa [Hid] using Row.new (w.alloc (.cells h.cs 28)) 28 Ho.zero.cs
  have B1 := hid (balloc (balloc (Below.refl w.heap.size w) (.cells h.cs 28)) (.cells Ho.zero.cs 28))
  have HO : Hid (mkO h own d = if owE h own = 0 then (h.setR own).setD d else Ho.zero) := rfl
  have HE : Hid (owE h own = 0 ∨ owE h own = 1) := by rw [Hid, owE]; split <;> simp
  have hco := hid (fun w' => checkOwn_any h own w')
  generalize mkO h own d = P at *
  generalize owE h own = E at *
  go_enter Try.func19, Try.ntmps19
  go_upto_region 1 with fail
  generalize (w.alloc (.cells h.cs 28)).alloc (.cells Ho.zero.cs 28) = w1 at *
  have hG1 : w.heap.size < w.heap.size + 1 := by omega
  generalize w.heap.size + 1 = g1 at *
  go_wp2_with (refine ldO oh _ rfl rfl w.heap.size rfl h 28 HR0.out ?_)
  refine (hco.out _).mono ?_
  rintro e w2 ⟨rfl, hb2⟩
  have R2 := hid (HR0.out.below hb2)
  have Z2 := hid (HR1.out.below hb2)
  have B2 := hid (bthen B1.out hb2)
  clear hb2 HR0 HR1 B1 hco
  rcases HE.out with rfl | rfl
  · have hP : Hid (P = (h.setR own).setD d) := by rw [Hid, HO.out]; rfl
    have f4 := R2.out.frozen 4
    have n4 := (R2.out.cell 4).trans h.at4
    have R3 : Hid (Row (w2.setCell ⟨w.heap.size, 4, none⟩ (.int .i64 own)) w.heap.size 28 (h.setR own).cs) := by rw [Hid, ← Ho.set4]; exact R2.out.set 4 _
    have f0 := R3.out.frozen 0
    have n0 := (R3.out.cell 0).trans (h.setR own).at0
    have R4 : Hid (Row ((w2.setCell ⟨w.heap.size, 4, none⟩ (.int .i64 own)).setCell ⟨w.heap.size, 0, none⟩ (.bool d)) w.heap.size 28 ((h.setR own).setD d).cs) := by rw [Hid, ← Ho.set0]; exact R3.out.set 0 _
    have Z4 := hid ((Z2.out.other ⟨w.heap.size, 4, none⟩ (.int .i64 own) (by simp; omega)).other ⟨w.heap.size, 0, none⟩ (.bool d) (by simp; omega))
    have B4 := hid (bset 0 (.bool d) (bset 4 (.int .i64 own) B2.out (g := w.heap.size) (Nat.le_refl _)) (g := w.heap.size) (Nat.le_refl _))
    go_wp2_with (first
      | (refine ldO oh _ rfl rfl w.heap.size rfl ((h.setR own).setD d) 28 R4.out ?_)
      | (refine stO oh _ _ rfl rfl g1 ((h.setR own).setD d) rfl rfl 28 Ho.zero Z4.out ?_))
    exact bodyPost_ret (resOe oh rfl _ _ g1 28 ((h.setR own).setD d) (.int .i64 0) rfl rfl (Z4.out.setRow _)) rfl ⟨by rw [hP.out], below_setRow' B4.out (by omega) _⟩
  · have hP : Hid (P = Ho.zero) := by rw [Hid, HO.out]; rfl
    go_wp2_with (first
      | (refine bdOz oh rfl rfl ?_)
      | (refine stO oh _ _ rfl rfl g1 Ho.zero rfl rfl 28 Ho.zero Z2.out ?_))
    exact bodyPost_ret (resOe oh rfl _ _ g1 28 Ho.zero (.int .i64 1) rfl rfl (Z2.out.setRow _)) rfl ⟨by rw [hP.out], below_setRow' B2.out (by omega) _⟩
/-- The five tests of ref's Hop. -/
theorem hpB_cases (h : Ho) (own least : Int) : hpB h own least = (okO h && !decide (own < 0) && !decide (65535 < own) && !decide (least < 1) && !decide (65535 < least)) := by
  cases hk : okO h <;> rw [Bool.eq_iff_iff] <;> simp [hpB, rkB, hk]
  omega
set_option maxHeartbeats 3200000 in
theorem refHop_any (h : Ho) (own least : Int) (w : World) :
    Calls Try.prog 17 #[.agg h.cs, .int .i64 own, .int .i64 least] w fun e w' => e = .returned (.tuple #[.agg (hopO h own least).cs, .bool (conV h own least), .int .i64 (hopE h own least)]) ∧ Below w.heap.size w w' := by
  have hz := zho
  have HR0 := hid ((Row.new w 23 h.cs).alloc (.cells Ho.zero.cs 23))
  have HR1 : Hid (Row ((w.alloc (.cells h.cs 23)).alloc (.cells Ho.zero.cs 23)) (w.heap.size + 1) 23 Ho.zero.cs) := by simpa [Hid] using Row.new (w.alloc (.cells h.cs 23)) 23 Ho.zero.cs
  have B1 := hid (balloc (balloc (Below.refl w.heap.size w) (.cells h.cs 23)) (.cells Ho.zero.cs 23))
  have HE : Hid (hopE h own least = if hpB h own least = true then (if (!csB h own least && h.w) = true then 11 else 0) else 1) := rfl
  have HO : Hid (hopO h own least = if hopE h own least = 0 then (h.setW (h.w || !csB h own least)).setR own else Ho.zero) := rfl
  have HV : Hid (conV h own least = (hpB h own least && csB h own least)) := rfl
  have HC := hid (hpB_cases h own least)
  have hcon := hid (fun w' (k : hpB h own least = true) => refConsistent_any h own least w' k)
  generalize hopO h own least = P at *
  generalize hopE h own least = E at *
  generalize conV h own least = V at *
  generalize hpB h own least = pb at *
  generalize csB h own least = cb at *
  go_enter Try.func17, Try.ntmps17
  go_upto_region 1 with fail
  generalize (w.alloc (.cells h.cs 23)).alloc (.cells Ho.zero.cs 23) = w1 at *
  have hG1 : w.heap.size < w.heap.size + 1 := by omega
  generalize w.heap.size + 1 = g1 at *
  go_wp2_with (refine ldO or_ _ rfl rfl w.heap.size rfl h 23 HR0.out ?_)
  refine (refRight_any h _).mono ?_
  rintro e w2 ⟨rfl, hb2⟩
  have R2 := hid (HR0.out.below hb2)
  have Z2 := hid (HR1.out.below hb2)
  have B2 := hid (bthen B1.out hb2)
  clear hb2 HR0 HR1 B1
  generalize okO h = ob at *
  by_cases hgood : pb = true
  · subst hgood
    have hcon' := hid (fun w' => hcon.out w' rfl)
    clear hcon
    have hy := HC.out.symm
    simp only [Bool.and_eq_true, Bool.not_eq_true', decide_eq_false_iff_not] at hy
    obtain ⟨⟨⟨⟨rfl, a0⟩, a1⟩, a2⟩, a3⟩ := hy
    have e0 : decide (own < 0) = false := decide_eq_false a0
    have e1 : decide (65535 < own) = false := decide_eq_false a1
    have e2 : decide (least < 1) = false := decide_eq_false a2
    have e3 : decide (65535 < least) = false := decide_eq_false a3
    obtain rfl : V = cb := by rw [HV.out]; rfl
    go_wp2_with (refine ldO or_ _ rfl rfl w.heap.size rfl h 23 R2.out ?_)
    refine (hcon'.out _).mono ?_
    rintro e w3 ⟨rfl, hb3⟩
    have R3 := hid (R2.out.below hb3)
    have Z3 := hid (Z2.out.below hb3)
    have B3 := hid (bthen B2.out hb3)
    clear hb3 R2 Z2 B2 hcon' HC
    have c1 := (R3.out.cell 1).trans h.at1
    have f1 := R3.out.frozen 1
    cases V
    · cases hw : h.w
      · rw [hw] at HE HO c1
        have hE : Hid (E = 0) := by rw [Hid, HE.out]; rfl
        have hP : Hid (P = (h.setW true).setR own) := by rw [Hid, HO.out, hE.out]; rfl
        have R4 : Hid (Row (w3.setCell ⟨w.heap.size, 1, none⟩ (.bool true)) w.heap.size 23 (h.setW true).cs) := by rw [Hid, ← Ho.set1]; exact R3.out.set 1 _
        have f4 := R4.out.frozen 4
        have n4 := (R4.out.cell 4).trans (h.setW true).at4
        have R5 : Hid (Row ((w3.setCell ⟨w.heap.size, 1, none⟩ (.bool true)).setCell ⟨w.heap.size, 4, none⟩ (.int .i64 own)) w.heap.size 23 ((h.setW true).setR own).cs) := by rw [Hid, ← Ho.set4]; exact R4.out.set 4 _
        have Z5 := hid ((Z3.out.other ⟨w.heap.size, 1, none⟩ (.bool true) (by simp; omega)).other ⟨w.heap.size, 4, none⟩ (.int .i64 own) (by simp; omega))
        have B5 := hid (bset 4 (.int .i64 own) (bset 1 (.bool true) B3.out (g := w.heap.size) (Nat.le_refl _)) (g := w.heap.size) (Nat.le_refl _))
        go_wp2_with (first
          | (refine ldO or_ _ rfl rfl w.heap.size rfl ((h.setW true).setR own) 23 R5.out ?_)
          | (refine stO or_ _ _ rfl rfl g1 ((h.setW true).setR own) rfl rfl 23 Ho.zero Z5.out ?_))
        exact bodyPost_ret (resOf or_ rfl _ _ g1 23 ((h.setW true).setR own) (.bool false) (.int .i64 0) rfl rfl rfl (Z5.out.setRow _)) rfl ⟨by rw [hP.out, hE.out], below_setRow' B5.out (by omega) _⟩
      · rw [hw] at HE HO c1
        have hE : Hid (E = 11) := by rw [Hid, HE.out]; rfl
        have hP : Hid (P = Ho.zero) := by rw [Hid, HO.out, hE.out]; rfl
        go_wp2_with (first
          | (refine bdOz or_ rfl rfl ?_)
          | (refine stO or_ _ _ rfl rfl g1 Ho.zero rfl rfl 23 Ho.zero Z3.out ?_))
        exact bodyPost_ret (resOf or_ rfl _ _ g1 23 Ho.zero (.bool false) (.int .i64 11) rfl rfl rfl (Z3.out.setRow _)) rfl ⟨by rw [hP.out, hE.out], below_setRow' B3.out (by omega) _⟩
    · have hE : Hid (E = 0) := by rw [Hid, HE.out]; rfl
      have hP : Hid (P = h.setR own) := by rw [Hid, HO.out, hE.out]; simp [Ho.setW, Ho.setR]
      have f4 := R3.out.frozen 4
      have n4 := (R3.out.cell 4).trans h.at4
      have R5 : Hid (Row (w3.setCell ⟨w.heap.size, 4, none⟩ (.int .i64 own)) w.heap.size 23 (h.setR own).cs) := by rw [Hid, ← Ho.set4]; exact R3.out.set 4 _
      have Z5 := hid (Z3.out.other ⟨w.heap.size, 4, none⟩ (.int .i64 own) (by simp; omega))
      have B5 := hid (bset 4 (.int .i64 own) B3.out (g := w.heap.size) (Nat.le_refl _))
      clear c1 f1
      go_wp2_with (first
        | (refine ldO or_ _ rfl rfl w.heap.size rfl (h.setR own) 23 R5.out ?_)
        | (refine stO or_ _ _ rfl rfl g1 (h.setR own) rfl rfl 23 Ho.zero Z5.out ?_))
      exact bodyPost_ret (resOf or_ rfl _ _ g1 23 (h.setR own) (.bool true) (.int .i64 0) rfl rfl rfl (Z5.out.setRow _)) rfl ⟨by rw [hP.out, hE.out], below_setRow' B5.out (by omega) _⟩
  · obtain rfl : pb = false := by simpa using hgood
    have hE : Hid (E = 1) := by rw [Hid, HE.out]; rfl
    have hP : Hid (P = Ho.zero) := by rw [Hid, HO.out, hE.out]; rfl
    obtain rfl : V = false := by rw [HV.out]; rfl
    clear hcon hgood
    cases ob
    · go_wp2_with (first
        | (refine bdOz or_ rfl rfl ?_)
        | (refine stO or_ _ _ rfl rfl g1 Ho.zero rfl rfl 23 Ho.zero Z2.out ?_))
      exact bodyPost_ret (resOf or_ rfl _ _ g1 23 Ho.zero (.bool false) (.int .i64 1) rfl rfl rfl (Z2.out.setRow _)) rfl ⟨by rw [hP.out, hE.out], below_setRow' B2.out (by omega) _⟩
    · by_cases a0 : own < 0
      · have e0 : decide (own < 0) = true := decide_eq_true a0
        go_wp2_with (first
          | (refine bdOz or_ rfl rfl ?_)
          | (refine stO or_ _ _ rfl rfl g1 Ho.zero rfl rfl 23 Ho.zero Z2.out ?_))
        exact bodyPost_ret (resOf or_ rfl _ _ g1 23 Ho.zero (.bool false) (.int .i64 1) rfl rfl rfl (Z2.out.setRow _)) rfl ⟨by rw [hP.out, hE.out], below_setRow' B2.out (by omega) _⟩
      · have e0 : decide (own < 0) = false := decide_eq_false a0
        by_cases a1 : 65535 < own
        · have e1 : decide (65535 < own) = true := decide_eq_true a1
          go_wp2_with (first
            | (refine bdOz or_ rfl rfl ?_)
            | (refine stO or_ _ _ rfl rfl g1 Ho.zero rfl rfl 23 Ho.zero Z2.out ?_))
          exact bodyPost_ret (resOf or_ rfl _ _ g1 23 Ho.zero (.bool false) (.int .i64 1) rfl rfl rfl (Z2.out.setRow _)) rfl ⟨by rw [hP.out, hE.out], below_setRow' B2.out (by omega) _⟩
        · have e1 : decide (65535 < own) = false := decide_eq_false a1
          by_cases a2 : least < 1
          · have e2 : decide (least < 1) = true := decide_eq_true a2
            go_wp2_with (first
              | (refine bdOz or_ rfl rfl ?_)
              | (refine stO or_ _ _ rfl rfl g1 Ho.zero rfl rfl 23 Ho.zero Z2.out ?_))
            exact bodyPost_ret (resOf or_ rfl _ _ g1 23 Ho.zero (.bool false) (.int .i64 1) rfl rfl rfl (Z2.out.setRow _)) rfl ⟨by rw [hP.out, hE.out], below_setRow' B2.out (by omega) _⟩
          · have e2 : decide (least < 1) = false := decide_eq_false a2
            have a3 : 65535 < least := by
              have := HC.out
              simp [a0, a1, a2] at this
              omega
            have e3 : decide (65535 < least) = true := decide_eq_true a3
            go_wp2_with (first
              | (refine bdOz or_ rfl rfl ?_)
              | (refine stO or_ _ _ rfl rfl g1 Ho.zero rfl rfl 23 Ho.zero Z2.out ?_))
            exact bodyPost_ret (resOf or_ rfl _ _ g1 23 Ho.zero (.bool false) (.int .i64 1) rfl rfl rfl (Z2.out.setRow _)) rfl ⟨by rw [hP.out, hE.out], below_setRow' B2.out (by omega) _⟩
end Go.Proofs.Ytdfeahbpgchkoaa
