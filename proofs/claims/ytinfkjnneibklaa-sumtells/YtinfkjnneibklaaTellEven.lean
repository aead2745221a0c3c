/- The walk of SumTells. -/
import Derived.Test.YtinfkjnneibklaaTellBase
import Derived.BigRegion
import Derived.Deep.RegionHeld3
import Derived.Deep.Cut
namespace Go.Proofs.Ytinfkjnneibklaa
open Go.ChangeShapes Go.WideShapes Go.ChangeAt Go.RowKit
set_option linter.unusedVariables false
set_option linter.unusedSimpArgs false

set_option maxRecDepth 1000000 in
set_option maxHeartbeats 1600000 in
theorem tells_even (at_ other by_ : Int) (a : Option Addr) (n0 cap : Nat) (L : List Int) (w : World) (h : Lies .u8 w a n0 cap L) (ho : Oct L) (hm2 : 2 ≤ min n0 300) (hpar : min n0 300 % 2 = 0) :
    Calls Try.prog 5 #[.slice a n0 cap, .int .i64 at_, .int .i64 other, .int .i64 by_] w fun e w' => e = .returned (.bool true) ∧ Below w.heap.size w w' := by
  have hcm : n0 ≤ cap ∧ cap ≤ maxLen := ⟨h.2.1, h.2.2.1⟩
  unfold maxLen at hcm
  obtain ⟨hc0, hc1⟩ := hcm
  have b0 : Below w.heap.size w (w.alloc (.cells #[] 5)) := balloc (Below.refl _ _) _
  have L0 := hid ((h.pre (min n0 300) (Nat.min_le_left ..)).below b0)
  have B0 := hid b0
  have O0 := hid (World.ownsRow_made (e := 5) (size := 1) (base := w.heap.size) w #[] 0 (Nat.le_refl _) (by decide) (by simp))
  have HO := hid (oct_take ho (min n0 300))
  have hmin : min n0 300 ≤ 300 := Nat.min_le_right ..
  have hM : (if (300 : Int) < (n0 : Int) then (300 : Int) else (n0 : Int)) = ((min n0 300 : Nat) : Int) := by split <;> omega
  have hmin2 : min n0 300 ≤ n0 := Nat.min_le_left ..
  have HLn : Hid ((L.take (min n0 300)).length = min n0 300) := by have := h.1; rw [Hid, List.length_take]; omega
  generalize min n0 300 = m at *
  generalize L.take m = l at *
  obtain ⟨i0, hi, hz0, hz1, hz2⟩ := info_parts info5
  clear h ho b0
  have HP := hid hpar
  clear hpar
  go_enter Try.func5, Try.ntmps5
  go_wp2_with (at_builtin; refine wpList_append_fresh _ rfl _ _ 27 rfl w.heap.size 5 i0 (.int .u8 0) 1 1 Try.underlying27 hi hz0 hz1 hz2 rfl (by decide) w.heap.size rfl O0.out a m cap (u8s l) rfl ?c1 L0.out.isNil L0.out.cells (ints_oneCell8 _ _) ?c2 ?c3 ?c4 (Nat.le_refl _) ?_)
  case c1 => simp [u8s]; exact HLn.out
  case c2 => unfold maxLen; omega
  case c3 => omega
  case c4 => simp
  intro g cap1 w1 ho1 hg1 hmc1 hcm1 hb1
  unfold maxLen at hcm1
  have O1 := hid (ownAt_of ho1)
  have B1 := hid (B0.out.trans hb1)
  clear ho1 hb1 O0 L0 B0
  have hpar := HP.out
  have hd : ((m : Int) % 2 == 1) = false := by simp; omega
  obtain ⟨N, hN⟩ : ∃ N, N = m := ⟨m, rfl⟩
  subst hN
  have X1 := O1
  have HXl := HO
  have hNE : N % 2 = 0 := by omega
  have hN2 : 2 ≤ N := by omega
  have hN3 : N ≤ 300 := by omega
  have hcN : N ≤ cap1 := by omega
  have hC2 : cap1 ≤ 9223372036854775807 := by omega
  go_wp2_with fail
  generalize cap1 = C at *
  generalize l = M at *
  clear O1 HO HLn hmc1 hcm1 hd hpar HP hm2 hmin hM hmin2
  obtain ⟨H, hH⟩ : ∃ H, H = N / 2 := ⟨_, rfl⟩
  have hH1 : 1 ≤ H := by omega
  have HNH : Hid (N = 2 * H) := by rw [Hid]; omega
  have h4 : IntKind.i64.wrap ((N : Int) / 2) = (H : Int) := by rw [IntKind.wrap_i64]; omega
  have h5 : IntKind.u64.wrap (H : Int) = (H : Int) := by rw [IntKind.wrap_u64]; omega
  obtain ⟨P, hP, hPH⟩ := rem_place at_ H hH1
  obtain ⟨R, hR, hRH⟩ := rem_place other H hH1
  obtain ⟨Y, hY, hYH⟩ := rem_place by_ 65536 (by omega)
  have h7 : IntKind.i64.wrap (P : Int) = (P : Int) := by rw [IntKind.wrap_i64]; omega
  have h7r : IntKind.i64.wrap (R : Int) = (R : Int) := by rw [IntKind.wrap_i64]; omega
  have hH0 : ¬ H = 0 := by omega
  clear hH
  go_quiet (fail)
  have X2 := hid (X1.out.drewN nq)
  have B2 := hid (bdrew B1.out nq)
  clear X1 B1
  generalize w1.drewN nq = w2 at *
  have hC3 : C ≤ maxLen := by unfold maxLen; omega
  have T2 : Hid (Txt.ok w2 ⟨some ⟨g, 0, none⟩, N, C, M⟩) := ⟨X2.out.lies C hcN hC3, HXl.out⟩
  have Z3 := hid (texts_one w2 _ T2.out)
  have b3 : Below w2.heap.size w2 (w2.alloc (.cells #[(⟨some ⟨g, 0, none⟩, N, C, M⟩ : Txt).v] 27)) := balloc (Below.refl _ _) _
  simp only [Txt.v] at Z3 b3
  have X3 := hid (X2.out.below b3)
  have B3 := hid (bthen B2.out b3)
  have HM := hid X2.out.len
  clear b3 X2 B2 T2
  go_wp2_with fail
  generalize w2.alloc (.cells #[.slice (some ⟨g, 0, none⟩) N C] 27) = w3 at *
  have HBy : Hid (bytes [⟨some ⟨g, 0, none⟩, N, C, M⟩] = M) := by simp [Hid, bytes]
  refine (of_any _ _ _ _ _ Z3.out (by rw [HBy.out, HM.out]; omega)).mono ?_
  rintro e w4 ⟨rfl, hb4⟩
  rw [HBy.out]
  have X4 := hid (X3.out.below hb4)
  have B4 := hid (bthen B3.out hb4)
  clear hb4 Z3 X3 B3
  generalize hV : 65535 - sumV M = V at *
  have HV := hid hV
  clear hV
  have O5 := hid (World.ownsRow_made (e := 5) (size := 1) (base := w4.heap.size) w4 #[] 0 (Nat.le_refl _) (by decide) (by simp))
  have b5 : Below w4.heap.size w4 (w4.alloc (.cells #[] 5)) := balloc (Below.refl _ _) _
  have X5 := hid (X4.out.below b5)
  have B5 := hid (bthen B4.out b5)
  have L5 := hid (X5.out.lies C hcN hC3)
  have hgl := X4.out.lt
  clear b5 X4 B4
  go_wp2_with (at_builtin; refine wpList_append_fresh _ rfl _ _ 27 rfl w4.heap.size 5 i0 (.int .u8 0) 1 1 Try.underlying27 hi hz0 hz1 hz2 rfl (by decide) w4.heap.size rfl O5.out (some ⟨g, 0, none⟩) N C (u8s M) rfl ?e1 L5.out.isNil L5.out.cells (ints_oneCell8 _ _) ?e2 ?e3 ?e4 (Nat.le_refl _) ?_)
  case e1 => simp [u8s]; exact HM.out
  case e2 => unfold maxLen; omega
  case e3 => omega
  case e4 => simp
  intro gc cap6 w6 ho6 hgc hN6 hcap6 hb6
  have Y6 := hid (ownAt_of ho6)
  have X6 : Hid (OwnAt w6 g 0 N M) := by
    obtain ⟨cur, hgg, hc⟩ := X5.out.blk
    exact ⟨X5.out.len, cur, (hb6.block g hgl).trans hgg, hc⟩
  have B6 := hid (B5.out.trans (hb6.mono (by have := B5.out.size; have := w4.heap.size; omega)))
  have hne : g ≠ gc := by omega
  have hwgc : w.heap.size ≤ gc := by omega
  clear ho6 hb6 O5 X5 B5 L5
  go_wp2_with fail
  have hY' : wrap64 ((IntKind.u64.wrap by_).tmod 65536) = (Y : Int) := by rw [show ((IntKind.u64.wrap by_).tmod 65536) = (Y : Int) from hY, wrap64_small _ (by omega) (by omega)]
  rw [hY']
  obtain ⟨p, hp⟩ : ∃ p, p = 2 * P := ⟨_, rfl⟩
  obtain ⟨r, hr⟩ : ∃ r, r = 2 * R := ⟨_, rfl⟩
  have Hp := hid hp
  have Hr := hid hr
  have hNH := HNH.out
  have hwp : IntKind.i64.wrap (2 * (P : Int)) = (p : Int) := by rw [IntKind.wrap_i64]; omega
  have hwr : IntKind.i64.wrap (2 * (R : Int)) = (r : Int) := by rw [IntKind.wrap_i64]; omega
  have hwp' : 2 * (P : Int) = (p : Int) := by omega
  have hwr' : 2 * (R : Int) = (r : Int) := by omega
  have hpN : p + 1 < N := by omega
  have hrN : r + 1 < N := by omega
  have hpN0 : p < N := by omega
  have hrN0 : r < N := by omega
  clear hp hr hNH hY' hNE
  have x0 := X6.out.cell p hpN0
  have x1 := X6.out.cell r hrN0
  have y0 := Y6.out.cell p hpN0
  have y1 := Y6.out.cell r hrN0
  rw [Nat.zero_add] at y0 y1
  rw [Nat.zero_add] at x0 x1
  have f0 := Y6.out.soft p
  have f1 := Y6.out.soft r
  generalize hxp : M.getD p 0 = xp at *
  generalize hxr : M.getD r 0 = xr at *
  have HXp := hid hxp
  have HXr := hid hxr
  clear hxp hxr
  have Y7 := Y6.out.set p xr hpN0
  have y2 := Y7.cell r hrN0
  have f2 := Y7.soft r
  rw [Nat.zero_add] at Y7 y2 f2
  rw [Nat.zero_add] at y2
  have Y8 := Y7.set r xp hrN0
  rw [Nat.zero_add] at Y8
  have y3 : (w6.setCell ⟨gc, p, none⟩ (.int .u8 xr)).drew.cell? ⟨gc, r, none⟩ = _ := y2
  have f3 : (w6.setCell ⟨gc, p, none⟩ (.int .u8 xr)).drew.frozen? ⟨gc, r, none⟩ = false := f2
  generalize (M.set p xr).getD r 0 = z0 at *
  have HY8 : Hid (OwnAt ((w6.setCell ⟨gc, p, none⟩ (.int .u8 xr)).setCell ⟨gc, r, none⟩ (.int .u8 xp)).drew gc 0 N ((M.set p xr).set r xp)) := ⟨Y8.len, Y8.blk⟩
  clear Y7 Y8
  have HX8 : Hid (OwnAt ((w6.setCell ⟨gc, p, none⟩ (.int .u8 xr)).setCell ⟨gc, r, none⟩ (.int .u8 xp)).drew g 0 N M) := by
    have := (X6.out.other gc p (.int .u8 xr) hne).other gc r (.int .u8 xp) hne
    exact ⟨this.len, this.blk⟩
  have HB8 : Hid (Below w.heap.size w ((w6.setCell ⟨gc, p, none⟩ (.int .u8 xr)).setCell ⟨gc, r, none⟩ (.int .u8 xp)).drew) := bdrew (bgrown (bgrown B6.out (grownBy_setCell w6 gc p _) hwgc) (grownBy_setCell _ gc r _) hwgc) 1
  go_region
  clear X6 Y6 B6 x0 x1 y0 y1 f0 f1 y2 f2 y3 f3
  generalize ((w6.setCell ⟨gc, p, none⟩ (.int .u8 xr)).setCell ⟨gc, r, none⟩ (.int .u8 xp)).drew = w8 at *
  generalize hC1 : (M.set p xr).set r xp = C1 at *
  have HC1 := hid hC1
  clear hC1
  obtain ⟨pp, hpp⟩ : ∃ pp, pp = p + 1 := ⟨_, rfl⟩
  obtain ⟨rr, hrr⟩ : ∃ rr, rr = r + 1 := ⟨_, rfl⟩
  have Hpp := hid hpp
  have Hrr := hid hrr
  have hwpp : IntKind.i64.wrap ((p : Int) + 1) = (pp : Int) := by rw [IntKind.wrap_i64]; omega
  have hwrr : IntKind.i64.wrap ((r : Int) + 1) = (rr : Int) := by rw [IntKind.wrap_i64]; omega
  have hwpp' : (p : Int) + 1 = (pp : Int) := by omega
  have hwrr' : (r : Int) + 1 = (rr : Int) := by omega
  have hppN : pp < N := by omega
  have hrrN : rr < N := by omega
  clear hpp hrr
  have x0 := HX8.out.cell pp hppN
  have x1 := HX8.out.cell rr hrrN
  have y0 := HY8.out.cell pp hppN
  have y1 := HY8.out.cell rr hrrN
  rw [Nat.zero_add] at y0 y1
  rw [Nat.zero_add] at x0 x1
  have f0 := HY8.out.soft pp
  have f1 := HY8.out.soft rr
  generalize hxp : M.getD pp 0 = xpp at *
  generalize hxr : M.getD rr 0 = xrr at *
  have HXpp := hid hxp
  have HXrr := hid hxr
  generalize C1.getD pp 0 = z1 at *
  generalize C1.getD rr 0 = z2 at *
  clear hxp hxr
  have Y7 := HY8.out.set pp xrr hppN
  have y2 := Y7.cell rr hrrN
  have f2 := Y7.soft rr
  rw [Nat.zero_add] at Y7 y2 f2
  rw [Nat.zero_add] at y2
  have Y8 := Y7.set rr xpp hrrN
  rw [Nat.zero_add] at Y8
  have y3 : (w8.setCell ⟨gc, pp, none⟩ (.int .u8 xrr)).drew.cell? ⟨gc, rr, none⟩ = _ := y2
  have f3 : (w8.setCell ⟨gc, pp, none⟩ (.int .u8 xrr)).drew.frozen? ⟨gc, rr, none⟩ = false := f2
  generalize (C1.set pp xrr).getD rr 0 = z3 at *
  have HY9 : Hid (OwnAt ((w8.setCell ⟨gc, pp, none⟩ (.int .u8 xrr)).setCell ⟨gc, rr, none⟩ (.int .u8 xpp)).drew gc 0 N ((C1.set pp xrr).set rr xpp)) := ⟨Y8.len, Y8.blk⟩
  clear Y7 Y8
  have HX9 : Hid (OwnAt ((w8.setCell ⟨gc, pp, none⟩ (.int .u8 xrr)).setCell ⟨gc, rr, none⟩ (.int .u8 xpp)).drew g 0 N M) := by
    have := (HX8.out.other gc pp (.int .u8 xrr) hne).other gc rr (.int .u8 xpp) hne
    exact ⟨this.len, this.blk⟩
  have HB9 : Hid (Below w.heap.size w ((w8.setCell ⟨gc, pp, none⟩ (.int .u8 xrr)).setCell ⟨gc, rr, none⟩ (.int .u8 xpp)).drew) := bdrew (bgrown (bgrown HB8.out (grownBy_setCell w8 gc pp _) hwgc) (grownBy_setCell _ gc rr _) hwgc) 1
  go_wp2_with fail
  go_region
  have HSW : Hid ((C1.set pp xrr).set rr xpp = swap M P R) := by rw [Hid, swap, ← HC1.out, ← HXp.out, ← HXr.out, ← HXpp.out, ← HXrr.out, Hpp.out, Hrr.out, Hp.out, Hr.out]
  have hP2 : 2 * P + 1 < M.length := by rw [HM.out, HNH.out]; omega
  have hR2 : 2 * R + 1 < M.length := by rw [HM.out, HNH.out]; omega
  have HP2 := hid hP2
  have HSo := hid (swap_oct HXl.out P R hP2 hR2)
  have HSs := hid (swap_sum M P R hP2 hR2)
  have HSn : Hid ((swap M P R).length = N) := by rw [Hid, swap_len]; exact HM.out
  rw [HSW.out] at HY9
  have hxp2 := HXl.out.at p (by rw [HM.out]; exact hpN0)
  have hxpp2 := HXl.out.at pp (by rw [HM.out]; exact hppN)
  rw [HXp.out] at hxp2
  rw [HXpp.out] at hxpp2
  clear HX8 HY8 HB8 x0 x1 y0 y1 f0 f1 y2 f2 y3 f3 hP2 hR2
  generalize ((w8.setCell ⟨gc, pp, none⟩ (.int .u8 xrr)).setCell ⟨gc, rr, none⟩ (.int .u8 xpp)).drew = w9 at *
  generalize swap M P R = SW at *
  have T9 : Hid (Txt.ok w9 ⟨some ⟨gc, 0, none⟩, N, cap6, SW⟩) := ⟨HY9.out.lies cap6 hN6 hcap6, HSo.out⟩
  have Z10 := hid (texts_one w9 _ T9.out)
  have b10 : Below w9.heap.size w9 (w9.alloc (.cells #[(⟨some ⟨gc, 0, none⟩, N, cap6, SW⟩ : Txt).v] 27)) := balloc (Below.refl _ _) _
  simp only [Txt.v] at Z10 b10
  have X10 := hid (HX9.out.below b10)
  have B10 := hid (bthen HB9.out b10)
  clear b10 HX9 HB9 HY9 T9
  go_wp2_with fail
  generalize w9.alloc (.cells #[.slice (some ⟨gc, 0, none⟩) N cap6] 27) = w10 at *
  have HBs : Hid (bytes [⟨some ⟨gc, 0, none⟩, N, cap6, SW⟩] = SW) := by simp [Hid, bytes]
  refine (of_any _ _ _ _ _ Z10.out (by rw [HBs.out, HSn.out]; omega)).mono ?_
  rintro e w11 ⟨rfl, hb11⟩
  rw [HBs.out, HSs.out, HV.out]
  have X11 := hid (X10.out.below hb11)
  have B11 := hid (bthen B10.out hb11)
  clear hb11 Z10 X10 B10
  go_wp2_with fail
  have x0 := X11.out.cell p hpN0
  have x1 := X11.out.cell pp hppN
  rw [Nat.zero_add] at x0 x1
  rw [HXp.out] at x0
  rw [HXpp.out] at x1
  obtain ⟨old, hold⟩ : ∃ old, old = 256 * xp + xpp := ⟨_, rfl⟩
  have Hold := hid hold
  have hwx : IntKind.i64.wrap xp = xp := by rw [IntKind.wrap_i64]; omega
  have hwxx : IntKind.i64.wrap xpp = xpp := by rw [IntKind.wrap_i64]; omega
  have hwo : IntKind.i64.wrap (256 * xp) = 256 * xp := by rw [IntKind.wrap_i64]; omega
  have hwo2 : IntKind.i64.wrap (256 * xp + xpp) = old := by rw [IntKind.wrap_i64]; omega
  have hwo3 : 256 * xp + xpp = old := hold.symm
  have hold2 : 0 ≤ old ∧ old < 65536 := by omega
  clear hold
  go_quiet (fail)
  have X12 := X11.out.drewN nq
  have B12 := hid (bdrew B11.out nq)
  clear X11 B11 x0 x1 hwx hwxx hwo hwo2 hwo3
  generalize w11.drewN nq = w12 at *
  have hy : (0 : Int) ≤ (Y : Int) ∧ (Y : Int) < 65536 := by omega
  generalize (Y : Int) = y at *
  obtain ⟨ya, hya⟩ : ∃ ya, ya = y / 256 := ⟨_, rfl⟩
  obtain ⟨yb, hyb⟩ : ∃ yb, yb = y % 256 := ⟨_, rfl⟩
  have c0 := X12.cell p hpN0
  have c1 := X12.cell pp hppN
  have s0 := X12.soft (0 + p)
  have s1 := X12.soft (0 + pp)
  have X13 := X12.set p ya hpN0
  have c2 := X13.cell pp hppN
  have s2 := X13.soft (0 + pp)
  have X14 := hid (X13.set pp yb hppN)
  have B14 : Hid (Below w.heap.size w ((w12.setCell ⟨g, 0 + p, none⟩ (.int .u8 ya)).setCell ⟨g, 0 + pp, none⟩ (.int .u8 yb))) := bgrown (bgrown B12.out (grownBy_setCell w12 g _ _) hg1) (grownBy_setCell _ g _ _) hg1
  simp only [Nat.zero_add] at c0 c1 s0 s1 X13 c2 s2 X14 B14
  have HSet : Hid ((M.set p ya).set pp yb = set2 M (2 * P) (y / 256) (y % 256)) := by rw [Hid, set2, Hpp.out, Hp.out, hya, hyb]
  have HTo : Hid (Oct (set2 M (2 * P) (y / 256) (y % 256))) := set2_oct HXl.out _ _ _ (by omega) (by omega)
  have HTn : Hid ((set2 M (2 * P) (y / 256) (y % 256)).length = N) := by rw [Hid, set2_len]; exact HM.out
  rw [HSet.out] at X14
  have HTl : Hid ((old ≠ y → ¬ ((old = 0 ∧ y = 65535) ∨ (old = 65535 ∧ y = 0))) → (65535 - sumV (set2 M (2 * P) (y / 256) (y % 256)) == V) = decide (old = y)) := fun hn => by
    have h1 : old = 256 * M.getD (2 * P) 0 + M.getD (2 * P + 1) 0 := by rw [← Hp.out, ← Hpp.out, HXp.out, HXpp.out]; exact Hold.out
    have := tells M P HXl.out HP2.out y hy old h1 hn
    rw [HV.out] at this
    exact this
  subst hya hyb
  clear X12 X13 HSet B12 HM
  generalize set2 M (2 * P) (y / 256) (y % 256) = S at *
  generalize M.getD p 0 = q0 at *
  generalize M.getD pp 0 = q1 at *
  generalize (M.set p (y / 256)).getD pp 0 = q2 at *
  have hy1 : 0 ≤ y / 256 ∧ y / 256 < 256 := by omega
  go_upto_region 16 with fail
  generalize (w12.setCell ⟨g, p, none⟩ (.int .u8 (y / 256))).setCell ⟨g, pp, none⟩ (.int .u8 (y % 256)) = w14 at *
  clear c0 c1 s0 s1 c2 s2 hy1
  by_cases heq : old = y
  · have hb1 : (old == y) = true := by simpa using heq
    have hb2 : (old != y) = false := by simpa using heq
    have HRes := hid (HTl.out (fun h => absurd heq h))
    have HDe : Hid (decide (old = y) = true) := by simpa [Hid] using heq
    clear heq HTl
    go_wp2_with fail
    refine (known_any _).mono ?_
    rintro e w15 ⟨rfl, hb15⟩
    have X15 := hid (X14.out.below hb15)
    have B15 := hid (bthen B14.out hb15)
    clear hb15 X14 B14
    have T15 : Hid (Txt.ok w15 ⟨some ⟨g, 0, none⟩, N, C, S⟩) := ⟨X15.out.lies C hcN hC3, HTo.out⟩
    have Z16 := hid (texts_one w15 _ T15.out)
    have B16 := hid (balloc B15.out (.cells #[(⟨some ⟨g, 0, none⟩, N, C, S⟩ : Txt).v] 27))
    simp only [Txt.v] at Z16 B16
    clear T15 X15 B15
    go_wp2_with fail
    have HBt : Hid (bytes [⟨some ⟨g, 0, none⟩, N, C, S⟩] = S) := by simp [Hid, bytes]
    refine (of_any _ _ _ _ _ Z16.out (by rw [HBt.out, HTn.out]; omega)).mono ?_
    rintro e w17 ⟨rfl, hb17⟩
    have B17 := hid (bthen B16.out hb17)
    rw [HBt.out]
    clear hb17 Z16 B16
    have hq : (65535 - sumV S == V) = true := by rw [HRes.out, HDe.out]
    generalize 65535 - sumV S = U at *
    clear HRes HDe
    go_wp2_with fail
    go_ret
    exact ⟨rfl, B17.out⟩
  · have hb1 : (old == y) = false := by simpa using heq
    have hb2 : (old != y) = true := by simpa using heq
    by_cases h0 : old = 0
    · by_cases h1 : y = 65535
      · have hf0 : (old == 0) = true := by simp; omega
        have hf1 : (y == 65535) = true := by simp; omega
        clear HTl
        clear heq h0 h1
        go_wp2_with fail
        refine (known_any _).mono ?_
        rintro e w15 ⟨rfl, hb15⟩
        have B15 := hid (bthen B14.out hb15)
        clear hb15
        go_wp2_with fail
        go_ret
        exact ⟨rfl, B15.out⟩
      · have hf0 : (old == 0) = true := by simp; omega
        have hf1 : (y == 65535) = false := by simp; omega
        have hf2 : (old == 65535) = false := by simp; omega
        have HRes := hid (HTl.out (fun _ => by omega))
        have HDe : Hid (decide (old = y) = false) := by simpa [Hid] using heq
        clear HTl
        clear heq h0 h1
        go_wp2_with fail
        refine (known_any _).mono ?_
        rintro e w15 ⟨rfl, hb15⟩
        have X15 := hid (X14.out.below hb15)
        have B15 := hid (bthen B14.out hb15)
        clear hb15 X14 B14
        have T15 : Hid (Txt.ok w15 ⟨some ⟨g, 0, none⟩, N, C, S⟩) := ⟨X15.out.lies C hcN hC3, HTo.out⟩
        have Z16 := hid (texts_one w15 _ T15.out)
        have B16 := hid (balloc B15.out (.cells #[(⟨some ⟨g, 0, none⟩, N, C, S⟩ : Txt).v] 27))
        simp only [Txt.v] at Z16 B16
        clear T15 X15 B15
        go_wp2_with fail
        have HBt : Hid (bytes [⟨some ⟨g, 0, none⟩, N, C, S⟩] = S) := by simp [Hid, bytes]
        refine (of_any _ _ _ _ _ Z16.out (by rw [HBt.out, HTn.out]; omega)).mono ?_
        rintro e w17 ⟨rfl, hb17⟩
        have B17 := hid (bthen B16.out hb17)
        rw [HBt.out]
        clear hb17 Z16 B16
        have hq : (65535 - sumV S == V) = false := by rw [HRes.out, HDe.out]
        generalize 65535 - sumV S = U at *
        clear HRes HDe
        go_wp2_with fail
        go_ret
        exact ⟨rfl, B17.out⟩
    · by_cases h1 : old = 65535
      · by_cases h2 : y = 0
        · have hf0 : (old == 0) = false := by simp; omega
          have hf1 : (old == 65535) = true := by simp; omega
          have hf2 : (y == 0) = true := by simp; omega
          clear HTl
          clear heq h0 h1 h2
          go_wp2_with fail
          refine (known_any _).mono ?_
          rintro e w15 ⟨rfl, hb15⟩
          have B15 := hid (bthen B14.out hb15)
          clear hb15
          go_wp2_with fail
          go_ret
          exact ⟨rfl, B15.out⟩
        · have hf0 : (old == 0) = false := by simp; omega
          have hf1 : (old == 65535) = true := by simp; omega
          have hf2 : (y == 0) = false := by simp; omega
          have HRes := hid (HTl.out (fun _ => by omega))
          have HDe : Hid (decide (old = y) = false) := by simpa [Hid] using heq
          clear HTl
          clear heq h0 h1 h2
          go_wp2_with fail
          refine (known_any _).mono ?_
          rintro e w15 ⟨rfl, hb15⟩
          have X15 := hid (X14.out.below hb15)
          have B15 := hid (bthen B14.out hb15)
          clear hb15 X14 B14
          have T15 : Hid (Txt.ok w15 ⟨some ⟨g, 0, none⟩, N, C, S⟩) := ⟨X15.out.lies C hcN hC3, HTo.out⟩
          have Z16 := hid (texts_one w15 _ T15.out)
          have B16 := hid (balloc B15.out (.cells #[(⟨some ⟨g, 0, none⟩, N, C, S⟩ : Txt).v] 27))
          simp only [Txt.v] at Z16 B16
          clear T15 X15 B15
          go_wp2_with fail
          have HBt : Hid (bytes [⟨some ⟨g, 0, none⟩, N, C, S⟩] = S) := by simp [Hid, bytes]
          refine (of_any _ _ _ _ _ Z16.out (by rw [HBt.out, HTn.out]; omega)).mono ?_
          rintro e w17 ⟨rfl, hb17⟩
          have B17 := hid (bthen B16.out hb17)
          rw [HBt.out]
          clear hb17 Z16 B16
          have hq : (65535 - sumV S == V) = false := by rw [HRes.out, HDe.out]
          generalize 65535 - sumV S = U at *
          clear HRes HDe
          go_wp2_with fail
          go_ret
          exact ⟨rfl, B17.out⟩
      · have hf0 : (old == 0) = false := by simp; omega
        have hf1 : (old == 65535) = false := by simp; omega
        have HRes := hid (HTl.out (fun _ => by omega))
        have HDe : Hid (decide (old = y) = false) := by simpa [Hid] using heq
        clear HTl
        clear heq h0 h1
        go_wp2_with fail
        refine (known_any _).mono ?_
        rintro e w15 ⟨rfl, hb15⟩
        have X15 := hid (X14.out.below hb15)
        have B15 := hid (bthen B14.out hb15)
        clear hb15 X14 B14
        have T15 : Hid (Txt.ok w15 ⟨some ⟨g, 0, none⟩, N, C, S⟩) := ⟨X15.out.lies C hcN hC3, HTo.out⟩
        have Z16 := hid (texts_one w15 _ T15.out)
        have B16 := hid (balloc B15.out (.cells #[(⟨some ⟨g, 0, none⟩, N, C, S⟩ : Txt).v] 27))
        simp only [Txt.v] at Z16 B16
        clear T15 X15 B15
        go_wp2_with fail
        have HBt : Hid (bytes [⟨some ⟨g, 0, none⟩, N, C, S⟩] = S) := by simp [Hid, bytes]
        refine (of_any _ _ _ _ _ Z16.out (by rw [HBt.out, HTn.out]; omega)).mono ?_
        rintro e w17 ⟨rfl, hb17⟩
        have B17 := hid (bthen B16.out hb17)
        rw [HBt.out]
        clear hb17 Z16 B16
        have hq : (65535 - sumV S == V) = false := by rw [HRes.out, HDe.out]
        generalize 65535 - sumV S = U at *
        clear HRes HDe
        go_wp2_with fail
        go_ret
        exact ⟨rfl, B17.out⟩

end Go.Proofs.Ytinfkjnneibklaa
