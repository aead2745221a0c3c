/- datagram's reading: control messages. · datagram's reading: control messages. · datagram's Decode. · Arrays of bytes in memory: what a load and a store of a whole array do, and how two are compared. · What addr's cut and isBits answer. · What addr's Has answers. -/
import Derived.Test.YtbklpelikaapoaaGreatDoorM15
import Derived.Test.YtbklpelikaapoaaGreatDoorM10
import Derived.Test.YtbklpelikaapoaaGreatDoorM1
import Derived.WalkKit
import Derived.ProofKit
import Derived.OpenShut
import Derived.Handy
import Derived.Deep.QuietTactic
import Derived.Deep.WholeRow
import Derived.ChangeKeysEq
import Derived.BigQuiet
import Derived.BigRegion
import Derived.WalkSpells
import Derived.Deep.RegionHeld3
namespace Go.Proofs.YtbklpelikaapoaaGreatDoor
open Go.ChangeShapes Go.WideShapes Go.ChangeAt Go.RowKit Go.Deep
set_option linter.unusedVariables false
set_option linter.unusedSimpArgs false

theorem take3_small {n : Nat} (h : n < 4) : rdE 2 1 (n - (0 + rdN 1 1 (n - 0) 0 + rdN 1 1 (n - (0 + rdN 1 1 (n - 0) 0)) (rdE 1 1 (n - 0) 0))) (rdE 1 1 (n - (0 + rdN 1 1 (n - 0) 0)) (rdE 1 1 (n - 0) 0)) = 4 := by
  have : n = 0 ∨ n = 1 ∨ n = 2 ∨ n = 3 := by omega
  rcases this with rfl | rfl | rfl | rfl <;> decide
def rcP (h : Hd) (l : List Int) : Pp := if rcE h l = 0 then ⟨h, false, dM (l.getD 1 0) (l.drop 4), Ho.zero, 0, []⟩ else Pp.zero
theorem rcP_bad {h : Hd} {l : List Int} (e : rcE h l ≠ 0) : rcP h l = Pp.zero := by rw [rcP, if_neg e]
theorem rcE_1 {h : Hd} {l : List Int} (h1 : l.length < 4) : rcE h l = 4 := by rw [rcE, if_pos h1]
theorem rcE_2 {h : Hd} {l : List Int} (h1 : ¬ l.length < 4) (h2 : chkB h.f h.t 58 l = false) : rcE h l = 5 := by rw [rcE, if_neg h1, h2]; rfl
theorem rcE_3 {h : Hd} {l : List Int} (h1 : ¬ l.length < 4) (h2 : chkB h.f h.t 58 l = true) (h3 : l.getD 0 0 ≠ 155) : rcE h l = 6 := by rw [rcE, if_neg h1, if_pos h2, if_neg h3]
theorem rcE_4 {h : Hd} {l : List Int} (h1 : ¬ l.length < 4) (h2 : chkB h.f h.t 58 l = true) (h3 : l.getD 0 0 = 155) : rcE h l = dE (l.getD 1 0) (l.drop 4) := by rw [rcE, if_neg h1, if_pos h2, if_pos h3]
set_option maxRecDepth 100000 in
set_option maxHeartbeats 3200000 in
theorem rdCtl1 {B : Nat} (h : Hd) (t : Txt) (k : h.ok) (w : World) (ht : t.ok w) (hs : t.n ≤ 1280) (hnx : h.nx = 58) (hV : CV B w) (h4 : t.l.length < 4) :
    Calls Tryz.prog 69 #[.agg (rdc h t)] w (RdOk w (rcE h t.l) (rcP h t.l)) := by
  have hz := zpkP
  have hzm := zmv
  have HK := hid k
  have R1 := hid (Row.new (w.alloc (.cells (rdc h t) 91)) 41 Pv.zero.cs)
  have S1 := hid ((Row.new w 91 (rdc h t)).alloc (.cells Pv.zero.cs 41))
  have B1 := hid (balloc (balloc (Below.refl w.heap.size w) (.cells (rdc h t) 91)) (.cells Pv.zero.cs 41))
  have hs1 : (w.alloc (.cells (rdc h t) 91)).heap.size = w.heap.size + 1 := World.size_alloc ..
  rw [hs1] at R1
  have T1 := hid (ht.below B1.out)
  have V1 := hid (hV.below B1.out)
  have HG : Hid (w.heap.size ≤ w.heap.size + 1) := hid (Nat.le_succ _)
  have c37 := rdc_t k S1.out
  have HTO := hid ht.2
  have HTL := hid ht.1.1
  have HSm := hid hs
  have HNX := hid hnx
  have HE : Hid (rcE h t.l = 4) := hid (rcE_1 h4)
  have HP : Hid (rcP h t.l = Pp.zero) := hid (rcP_bad (by rw [HE.out]; decide))
  have H4 := hid h4
  have V0B := hid hV.le
  clear h4
  clear k ht hs hnx hV
  go_enter Tryz.func69, Tryz.ntmps69
  go_upto_region 1 with fail
  generalize (w.alloc (.cells (rdc h t) 91)).alloc (.cells Pv.zero.cs 41) = w1 at *
  clear hs1
  generalize hg1 : w.heap.size + 1 = g1 at *
  have HG1 := hid hg1
  clear hg1
  go_wp2_with fail
  refine (over_any t.a t.n t.cap t.l _ T1.out.1 T1.out.2 (by have := HSm.out; omega)).mono ?_
  rintro e w2 ⟨c, a2, k2, rfl, hc, hb, hc1, hc2⟩
  have R2 := hid (R1.out.below hb)
  have S2 := hid (S1.out.below hb)
  have B2 := hid (bthen B1.out hb)
  have T2 := hid (T1.out.below hb)
  have V2 := hid (V1.out.below hb)
  have C2 := hid hc
  have HC := hid hc1
  have HR := hid R1.out.lt
  have HS := hid S1.out.lt
  have HW := hid B1.out.size
  clear hc hb hc1 hc2 R1 S1 T1 V1 c37 B1
  go_wp2_with fail
  refine (take_any _ c a2 t.n k2 _ t.l _ 1 C2.out).mono ?_
  rintro e w3 ⟨rfl, hc, hg, hz3⟩
  have R3 := hid (R2.out.kept hg (fun e => absurd (Option.some.inj e) (by have := HC.out; have := HR.out; omega)))
  have S3 := hid (S2.out.kept hg (fun e => absurd (Option.some.inj e) (by have := HC.out; have := HS.out; omega)))
  have B3 := hid (bgrown B2.out hg (by have := HC.out; have := HW.out; omega))
  have C3 := hid hc
  have V3 := hid (V2.out.grown hg (by have := HC.out; have := V0B.out; have := HW.out; omega))
  have T3 : Hid (t.ok w3) := hid ⟨T2.out.1.grown C2.out.noU8 hg, T2.out.2⟩
  clear hc hg hz3 R2 S2 B2 C2 V2 T2
  go_wp2_with fail
  refine (take_any _ c a2 t.n k2 _ t.l _ 1 C3.out).mono ?_
  rintro e w4 ⟨rfl, hc, hg, hz4⟩
  have R4 := hid (R3.out.kept hg (fun e => absurd (Option.some.inj e) (by have := HC.out; have := HR.out; omega)))
  have S4 := hid (S3.out.kept hg (fun e => absurd (Option.some.inj e) (by have := HC.out; have := HS.out; omega)))
  have B4 := hid (bgrown B3.out hg (by have := HC.out; have := HW.out; omega))
  have C4 := hid hc
  have V4 := hid (V3.out.grown hg (by have := HC.out; have := V0B.out; have := HW.out; omega))
  have T4 : Hid (t.ok w4) := hid ⟨T3.out.1.grown C3.out.noU8 hg, T3.out.2⟩
  clear hc hg hz4 R3 S3 B3 C3 V3 T3
  go_wp2_with fail
  refine (take_any _ c a2 t.n k2 _ t.l _ 2 C4.out).mono ?_
  rintro e w5 ⟨rfl, hc, hg, hz5⟩
  rw [take3_small (by have := HTL.out; have := H4.out; omega)] at hc
  have R5 := hid (R4.out.kept hg (fun e => absurd (Option.some.inj e) (by have := HC.out; have := HR.out; omega)))
  have S5 := hid (S4.out.kept hg (fun e => absurd (Option.some.inj e) (by have := HC.out; have := HS.out; omega)))
  have B5 := hid (bgrown B4.out hg (by have := HC.out; have := HW.out; omega))
  have C5 := hid hc
  have V5 := hid (V4.out.grown hg (by have := HC.out; have := V0B.out; have := HW.out; omega))
  have T5 : Hid (t.ok w5) := hid ⟨T4.out.1.grown C4.out.noU8 hg, T4.out.2⟩
  clear hc hg hz5 R4 S4 B4 C4 V4 T4
  go_wp2_with fail
  refine (err_any _ c 4 C5.out.cell2).mono ?_
  rintro e w5 ⟨rfl, rfl⟩
  go_wp2_with (refine bdPz ptP rfl rfl ?_)
  refine (err_any _ c 4 C5.out.cell2).mono ?_
  rintro e w5 ⟨rfl, rfl⟩
  go_wp2_with (first | (refine bdPz ptP rfl rfl ?_) | (refine stP ptP _ _ rfl rfl g1 Pv.zero Pv.zero_fit rfl rfl 41 Pv.zero Pv.zero_fit R5.out ?_))
  refine bodyPost_ret (resPe ptP rfl _ _ g1 41 Pv.zero Pv.zero_fit (.int .i64 (4)) rfl rfl (R5.out.setRow _)) rfl ?_
  exact ⟨Pv.zero, by rw [HE.out], hid (POwn.zero _ _), HP.out.symm, hid (below_setRow' B5.out HG.out _)⟩
set_option maxRecDepth 100000 in
set_option maxHeartbeats 3200000 in
theorem rdCtl2 {B : Nat} (h : Hd) (t : Txt) (k : h.ok) (w : World) (ht : t.ok w) (hs : t.n ≤ 1280) (hnx : h.nx = 58) (hV : CV B w) (h4 : ¬ t.l.length < 4) (h5 : chkB h.f h.t 58 t.l = false) :
    Calls Tryz.prog 69 #[.agg (rdc h t)] w (RdOk w (rcE h t.l) (rcP h t.l)) := by
  have hz := zpkP
  have hzm := zmv
  have HK := hid k
  have R1 := hid (Row.new (w.alloc (.cells (rdc h t) 91)) 41 Pv.zero.cs)
  have S1 := hid ((Row.new w 91 (rdc h t)).alloc (.cells Pv.zero.cs 41))
  have B1 := hid (balloc (balloc (Below.refl w.heap.size w) (.cells (rdc h t) 91)) (.cells Pv.zero.cs 41))
  have hs1 : (w.alloc (.cells (rdc h t) 91)).heap.size = w.heap.size + 1 := World.size_alloc ..
  rw [hs1] at R1
  have T1 := hid (ht.below B1.out)
  have V1 := hid (hV.below B1.out)
  have HG : Hid (w.heap.size ≤ w.heap.size + 1) := hid (Nat.le_succ _)
  have c37 := rdc_t k S1.out
  have HTO := hid ht.2
  have HTL := hid ht.1.1
  have HSm := hid hs
  have HNX := hid hnx
  obtain ⟨K0, hk0⟩ : ∃ K0, K0 = t.l.getD 0 0 := ⟨_, rfl⟩
  obtain ⟨K1, hk1⟩ : ∃ K1, K1 = t.l.getD 1 0 := ⟨_, rfl⟩
  have HK0 := hid hk0
  have HK1 := hid hk1
  have HE : Hid (rcE h t.l = 5) := hid (rcE_2 h4 h5)
  have HP : Hid (rcP h t.l = Pp.zero) := hid (rcP_bad (by rw [HE.out]; decide))
  have HCK := hid h5
  have H4 := hid h4
  have V0B := hid hV.le
  clear h4 h5 hk0 hk1
  clear k ht hs hnx hV
  go_enter Tryz.func69, Tryz.ntmps69
  go_upto_region 1 with fail
  generalize (w.alloc (.cells (rdc h t) 91)).alloc (.cells Pv.zero.cs 41) = w1 at *
  clear hs1
  generalize hg1 : w.heap.size + 1 = g1 at *
  have HG1 := hid hg1
  clear hg1
  go_wp2_with fail
  refine (over_any t.a t.n t.cap t.l _ T1.out.1 T1.out.2 (by have := HSm.out; omega)).mono ?_
  rintro e w2 ⟨c, a2, k2, rfl, hc, hb, hc1, hc2⟩
  have R2 := hid (R1.out.below hb)
  have S2 := hid (S1.out.below hb)
  have B2 := hid (bthen B1.out hb)
  have T2 := hid (T1.out.below hb)
  have V2 := hid (V1.out.below hb)
  have C2 := hid hc
  have HC := hid hc1
  have HR := hid R1.out.lt
  have HS := hid S1.out.lt
  have HW := hid B1.out.size
  clear hc hb hc1 hc2 R1 S1 T1 V1 c37 B1
  go_wp2_with fail
  refine (take_ok _ c a2 t.n k2 0 t.l 1 1 C2.out rfl (by decide) (by have := H4.out; have := HTL.out; omega)).mono ?_
  rintro e w3 ⟨rfl, hc, hg, hz3⟩
  rw [num1 t.l 0 (by have := H4.out; omega), ← HK0.out]
  rw [show 0 + 1 = 1 from rfl] at hc
  have R3 := hid (R2.out.kept hg (fun e => absurd (Option.some.inj e) (by have := HC.out; have := HR.out; omega)))
  have S3 := hid (S2.out.kept hg (fun e => absurd (Option.some.inj e) (by have := HC.out; have := HS.out; omega)))
  have B3 := hid (bgrown B2.out hg (by have := HC.out; have := HW.out; omega))
  have C3 := hid hc
  have V3 := hid (V2.out.grown hg (by have := HC.out; have := V0B.out; have := HW.out; omega))
  have T3 : Hid (t.ok w3) := hid ⟨T2.out.1.grown C2.out.noU8 hg, T2.out.2⟩
  clear hc hg hz3 R2 S2 B2 C2 V2 T2
  go_wp2_with fail
  refine (take_ok _ c a2 t.n k2 1 t.l 1 1 C3.out rfl (by decide) (by have := H4.out; have := HTL.out; omega)).mono ?_
  rintro e w4 ⟨rfl, hc, hg, hz4⟩
  rw [num1 t.l 1 (by have := H4.out; omega), ← HK1.out]
  rw [show 1 + 1 = 2 from rfl] at hc
  have R4 := hid (R3.out.kept hg (fun e => absurd (Option.some.inj e) (by have := HC.out; have := HR.out; omega)))
  have S4 := hid (S3.out.kept hg (fun e => absurd (Option.some.inj e) (by have := HC.out; have := HS.out; omega)))
  have B4 := hid (bgrown B3.out hg (by have := HC.out; have := HW.out; omega))
  have C4 := hid hc
  have V4 := hid (V3.out.grown hg (by have := HC.out; have := V0B.out; have := HW.out; omega))
  have T4 : Hid (t.ok w4) := hid ⟨T3.out.1.grown C3.out.noU8 hg, T3.out.2⟩
  clear hc hg hz4 R3 S3 B3 C3 V3 T3
  go_wp2_with fail
  refine (take_ok _ c a2 t.n k2 2 t.l 2 2 C4.out rfl (by decide) (by have := H4.out; have := HTL.out; omega)).mono ?_
  rintro e w5 ⟨rfl, hc, hg, hz5⟩
  rw [show 2 + 2 = 4 from rfl] at hc
  have R5 := hid (R4.out.kept hg (fun e => absurd (Option.some.inj e) (by have := HC.out; have := HR.out; omega)))
  have S5 := hid (S4.out.kept hg (fun e => absurd (Option.some.inj e) (by have := HC.out; have := HS.out; omega)))
  have B5 := hid (bgrown B4.out hg (by have := HC.out; have := HW.out; omega))
  have C5 := hid hc
  have V5 := hid (V4.out.grown hg (by have := HC.out; have := V0B.out; have := HW.out; omega))
  have T5 : Hid (t.ok w5) := hid ⟨T4.out.1.grown C4.out.noU8 hg, T4.out.2⟩
  clear hc hg hz5 R4 S4 B4 C4 V4 T4
  go_wp2_with fail
  refine (err_any _ c 0 C5.out.cell2).mono ?_
  rintro e w5 ⟨rfl, rfl⟩
  have c3 : w5.cell? ⟨w.heap.size, 3, none⟩ = some (.int .i64 58) := by rw [← HNX.out]; exact (rdc_h S5.out).at 3 _ h.at3
  have c37 := rdc_t HK.out S5.out
  go_wp2_with (first | (refine ldAd _ rfl rfl w.heap.size 5 rfl h.f HK.out.1.1 (by have := Hd.pF (rdc_h S5.out); rwa [Nat.zero_add] at this) ?_) | (refine ldAd _ rfl rfl w.heap.size 21 rfl h.t HK.out.2.1 (by have := Hd.pT HK.out (rdc_h S5.out); rwa [Nat.zero_add] at this) ?_))
  refine (check_any h.f h.t 58 t.a t.n t.cap t.l _ HK.out.1 HK.out.2 T5.out.1 T5.out.2).mono ?_
  rintro e w6 ⟨rfl, hb⟩
  rw [HCK.out]
  have R6 := hid (R5.out.below hb)
  have S6 := hid (S5.out.below hb)
  have B6 := hid (bthen B5.out hb)
  have C6 := hid (C5.out.below hb)
  have V6 := hid (V5.out.below hb)
  clear hb c3 c37 R5 S5 B5 C5 V5 T5
  go_wp2_with (first | (refine bdPz ptP rfl rfl ?_) | (refine stP ptP _ _ rfl rfl g1 Pv.zero Pv.zero_fit rfl rfl 41 Pv.zero Pv.zero_fit R6.out ?_))
  refine bodyPost_ret (resPe ptP rfl _ _ g1 41 Pv.zero Pv.zero_fit (.int .i64 (5)) rfl rfl (R6.out.setRow _)) rfl ?_
  exact ⟨Pv.zero, by rw [HE.out], hid (POwn.zero _ _), HP.out.symm, hid (below_setRow' B6.out HG.out _)⟩
set_option maxRecDepth 100000 in
set_option maxHeartbeats 3200000 in
theorem rdCtl3 {B : Nat} (h : Hd) (t : Txt) (k : h.ok) (w : World) (ht : t.ok w) (hs : t.n ≤ 1280) (hnx : h.nx = 58) (hV : CV B w) (h4 : ¬ t.l.length < 4) (h5 : chkB h.f h.t 58 t.l = true) (h6 : t.l.getD 0 0 ≠ 155) :
    Calls Tryz.prog 69 #[.agg (rdc h t)] w (RdOk w (rcE h t.l) (rcP h t.l)) := by
  have hz := zpkP
  have hzm := zmv
  have HK := hid k
  have R1 := hid (Row.new (w.alloc (.cells (rdc h t) 91)) 41 Pv.zero.cs)
  have S1 := hid ((Row.new w 91 (rdc h t)).alloc (.cells Pv.zero.cs 41))
  have B1 := hid (balloc (balloc (Below.refl w.heap.size w) (.cells (rdc h t) 91)) (.cells Pv.zero.cs 41))
  have hs1 : (w.alloc (.cells (rdc h t) 91)).heap.size = w.heap.size + 1 := World.size_alloc ..
  rw [hs1] at R1
  have T1 := hid (ht.below B1.out)
  have V1 := hid (hV.below B1.out)
  have HG : Hid (w.heap.size ≤ w.heap.size + 1) := hid (Nat.le_succ _)
  have c37 := rdc_t k S1.out
  have HTO := hid ht.2
  have HTL := hid ht.1.1
  have HSm := hid hs
  have HNX := hid hnx
  obtain ⟨K0, hk0⟩ : ∃ K0, K0 = t.l.getD 0 0 := ⟨_, rfl⟩
  obtain ⟨K1, hk1⟩ : ∃ K1, K1 = t.l.getD 1 0 := ⟨_, rfl⟩
  have HK0 := hid hk0
  have HK1 := hid hk1
  have HE : Hid (rcE h t.l = 6) := hid (rcE_3 h4 h5 h6)
  have HP : Hid (rcP h t.l = Pp.zero) := hid (rcP_bad (by rw [HE.out]; decide))
  have HCK := hid h5
  have hq : (K0 != 155) = true := by rw [hk0]; exact bne_iff_ne.2 h6
  have H4 := hid h4
  have V0B := hid hV.le
  clear h4 h5 h6 hk0 hk1
  clear k ht hs hnx hV
  go_enter Tryz.func69, Tryz.ntmps69
  go_upto_region 1 with fail
  generalize (w.alloc (.cells (rdc h t) 91)).alloc (.cells Pv.zero.cs 41) = w1 at *
  clear hs1
  generalize hg1 : w.heap.size + 1 = g1 at *
  have HG1 := hid hg1
  clear hg1
  go_wp2_with fail
  refine (over_any t.a t.n t.cap t.l _ T1.out.1 T1.out.2 (by have := HSm.out; omega)).mono ?_
  rintro e w2 ⟨c, a2, k2, rfl, hc, hb, hc1, hc2⟩
  have R2 := hid (R1.out.below hb)
  have S2 := hid (S1.out.below hb)
  have B2 := hid (bthen B1.out hb)
  have T2 := hid (T1.out.below hb)
  have V2 := hid (V1.out.below hb)
  have C2 := hid hc
  have HC := hid hc1
  have HR := hid R1.out.lt
  have HS := hid S1.out.lt
  have HW := hid B1.out.size
  clear hc hb hc1 hc2 R1 S1 T1 V1 c37 B1
  go_wp2_with fail
  refine (take_ok _ c a2 t.n k2 0 t.l 1 1 C2.out rfl (by decide) (by have := H4.out; have := HTL.out; omega)).mono ?_
  rintro e w3 ⟨rfl, hc, hg, hz3⟩
  rw [num1 t.l 0 (by have := H4.out; omega), ← HK0.out]
  rw [show 0 + 1 = 1 from rfl] at hc
  have R3 := hid (R2.out.kept hg (fun e => absurd (Option.some.inj e) (by have := HC.out; have := HR.out; omega)))
  have S3 := hid (S2.out.kept hg (fun e => absurd (Option.some.inj e) (by have := HC.out; have := HS.out; omega)))
  have B3 := hid (bgrown B2.out hg (by have := HC.out; have := HW.out; omega))
  have C3 := hid hc
  have V3 := hid (V2.out.grown hg (by have := HC.out; have := V0B.out; have := HW.out; omega))
  have T3 : Hid (t.ok w3) := hid ⟨T2.out.1.grown C2.out.noU8 hg, T2.out.2⟩
  clear hc hg hz3 R2 S2 B2 C2 V2 T2
  go_wp2_with fail
  refine (take_ok _ c a2 t.n k2 1 t.l 1 1 C3.out rfl (by decide) (by have := H4.out; have := HTL.out; omega)).mono ?_
  rintro e w4 ⟨rfl, hc, hg, hz4⟩
  rw [num1 t.l 1 (by have := H4.out; omega), ← HK1.out]
  rw [show 1 + 1 = 2 from rfl] at hc
  have R4 := hid (R3.out.kept hg (fun e => absurd (Option.some.inj e) (by have := HC.out; have := HR.out; omega)))
  have S4 := hid (S3.out.kept hg (fun e => absurd (Option.some.inj e) (by have := HC.out; have := HS.out; omega)))
  have B4 := hid (bgrown B3.out hg (by have := HC.out; have := HW.out; omega))
  have C4 := hid hc
  have V4 := hid (V3.out.grown hg (by have := HC.out; have := V0B.out; have := HW.out; omega))
  have T4 : Hid (t.ok w4) := hid ⟨T3.out.1.grown C3.out.noU8 hg, T3.out.2⟩
  clear hc hg hz4 R3 S3 B3 C3 V3 T3
  go_wp2_with fail
  refine (take_ok _ c a2 t.n k2 2 t.l 2 2 C4.out rfl (by decide) (by have := H4.out; have := HTL.out; omega)).mono ?_
  rintro e w5 ⟨rfl, hc, hg, hz5⟩
  rw [show 2 + 2 = 4 from rfl] at hc
  have R5 := hid (R4.out.kept hg (fun e => absurd (Option.some.inj e) (by have := HC.out; have := HR.out; omega)))
  have S5 := hid (S4.out.kept hg (fun e => absurd (Option.some.inj e) (by have := HC.out; have := HS.out; omega)))
  have B5 := hid (bgrown B4.out hg (by have := HC.out; have := HW.out; omega))
  have C5 := hid hc
  have V5 := hid (V4.out.grown hg (by have := HC.out; have := V0B.out; have := HW.out; omega))
  have T5 : Hid (t.ok w5) := hid ⟨T4.out.1.grown C4.out.noU8 hg, T4.out.2⟩
  clear hc hg hz5 R4 S4 B4 C4 V4 T4
  go_wp2_with fail
  refine (err_any _ c 0 C5.out.cell2).mono ?_
  rintro e w5 ⟨rfl, rfl⟩
  have c3 : w5.cell? ⟨w.heap.size, 3, none⟩ = some (.int .i64 58) := by rw [← HNX.out]; exact (rdc_h S5.out).at 3 _ h.at3
  have c37 := rdc_t HK.out S5.out
  go_wp2_with (first | (refine ldAd _ rfl rfl w.heap.size 5 rfl h.f HK.out.1.1 (by have := Hd.pF (rdc_h S5.out); rwa [Nat.zero_add] at this) ?_) | (refine ldAd _ rfl rfl w.heap.size 21 rfl h.t HK.out.2.1 (by have := Hd.pT HK.out (rdc_h S5.out); rwa [Nat.zero_add] at this) ?_))
  refine (check_any h.f h.t 58 t.a t.n t.cap t.l _ HK.out.1 HK.out.2 T5.out.1 T5.out.2).mono ?_
  rintro e w6 ⟨rfl, hb⟩
  rw [HCK.out]
  have R6 := hid (R5.out.below hb)
  have S6 := hid (S5.out.below hb)
  have B6 := hid (bthen B5.out hb)
  have C6 := hid (C5.out.below hb)
  have V6 := hid (V5.out.below hb)
  clear hb c3 c37 R5 S5 B5 C5 V5 T5
  go_wp2_with (first | (refine bdPz ptP rfl rfl ?_) | (refine stP ptP _ _ rfl rfl g1 Pv.zero Pv.zero_fit rfl rfl 41 Pv.zero Pv.zero_fit R6.out ?_))
  refine bodyPost_ret (resPe ptP rfl _ _ g1 41 Pv.zero Pv.zero_fit (.int .i64 (6)) rfl rfl (R6.out.setRow _)) rfl ?_
  exact ⟨Pv.zero, by rw [HE.out], hid (POwn.zero _ _), HP.out.symm, hid (below_setRow' B6.out HG.out _)⟩
end Go.Proofs.YtbklpelikaapoaaGreatDoor

namespace Go.Proofs.YtbklpelikaapoaaGreatDoor
open Go.ChangeShapes Go.WideShapes Go.ChangeAt Go.RowKit Go.Deep
set_option linter.unusedVariables false
set_option linter.unusedSimpArgs false

set_option maxRecDepth 100000 in
set_option maxHeartbeats 3200000 in
theorem rdCtl4 {B : Nat} (h : Hd) (t : Txt) (k : h.ok) (w : World) (ht : t.ok w) (hs : t.n ≤ 1280) (hnx : h.nx = 58) (hV : CV B w) (h4 : ¬ t.l.length < 4) (h5 : chkB h.f h.t 58 t.l = true) (h6 : t.l.getD 0 0 = 155) (h7 : dE (t.l.getD 1 0) (t.l.drop 4) ≠ 0) :
    Calls Tryz.prog 69 #[.agg (rdc h t)] w (RdOk w (rcE h t.l) (rcP h t.l)) := by
  have hz := zpkP
  have hzm := zmv
  have HK := hid k
  have R1 := hid (Row.new (w.alloc (.cells (rdc h t) 91)) 41 Pv.zero.cs)
  have S1 := hid ((Row.new w 91 (rdc h t)).alloc (.cells Pv.zero.cs 41))
  have B1 := hid (balloc (balloc (Below.refl w.heap.size w) (.cells (rdc h t) 91)) (.cells Pv.zero.cs 41))
  have hs1 : (w.alloc (.cells (rdc h t) 91)).heap.size = w.heap.size + 1 := World.size_alloc ..
  rw [hs1] at R1
  have T1 := hid (ht.below B1.out)
  have V1 := hid (hV.below B1.out)
  have HG : Hid (w.heap.size ≤ w.heap.size + 1) := hid (Nat.le_succ _)
  have c37 := rdc_t k S1.out
  have HTO := hid ht.2
  have HTL := hid ht.1.1
  have HSm := hid hs
  have HNX := hid hnx
  obtain ⟨K0, hk0⟩ : ∃ K0, K0 = t.l.getD 0 0 := ⟨_, rfl⟩
  obtain ⟨K1, hk1⟩ : ∃ K1, K1 = t.l.getD 1 0 := ⟨_, rfl⟩
  have HK0 := hid hk0
  have HK1 := hid hk1
  have HE : Hid (rcE h t.l = dE K1 (t.l.drop 4)) := hid (by rw [hk1]; exact rcE_4 h4 h5 h6)
  have HP : Hid (rcP h t.l = Pp.zero) := hid (rcP_bad (by rw [HE.out, hk1]; exact h7))
  have HCK := hid h5
  have hq : (K0 != 155) = false := by rw [hk0, h6]; rfl
  have hq2 : (dE K1 (t.l.drop 4) != 0) = true := by rw [hk1]; exact bne_iff_ne.2 h7
  have H4 := hid h4
  have V0B := hid hV.le
  clear h4 h5 h6 h7 hk0 hk1
  clear k ht hs hnx hV
  go_enter Tryz.func69, Tryz.ntmps69
  go_upto_region 1 with fail
  generalize (w.alloc (.cells (rdc h t) 91)).alloc (.cells Pv.zero.cs 41) = w1 at *
  clear hs1
  generalize hg1 : w.heap.size + 1 = g1 at *
  have HG1 := hid hg1
  clear hg1
  go_wp2_with fail
  refine (over_any t.a t.n t.cap t.l _ T1.out.1 T1.out.2 (by have := HSm.out; omega)).mono ?_
  rintro e w2 ⟨c, a2, k2, rfl, hc, hb, hc1, hc2⟩
  have R2 := hid (R1.out.below hb)
  have S2 := hid (S1.out.below hb)
  have B2 := hid (bthen B1.out hb)
  have T2 := hid (T1.out.below hb)
  have V2 := hid (V1.out.below hb)
  have C2 := hid hc
  have HC := hid hc1
  have HR := hid R1.out.lt
  have HS := hid S1.out.lt
  have HW := hid B1.out.size
  clear hc hb hc1 hc2 R1 S1 T1 V1 c37 B1
  go_wp2_with fail
  refine (take_ok _ c a2 t.n k2 0 t.l 1 1 C2.out rfl (by decide) (by have := H4.out; have := HTL.out; omega)).mono ?_
  rintro e w3 ⟨rfl, hc, hg, hz3⟩
  rw [num1 t.l 0 (by have := H4.out; omega), ← HK0.out]
  rw [show 0 + 1 = 1 from rfl] at hc
  have R3 := hid (R2.out.kept hg (fun e => absurd (Option.some.inj e) (by have := HC.out; have := HR.out; omega)))
  have S3 := hid (S2.out.kept hg (fun e => absurd (Option.some.inj e) (by have := HC.out; have := HS.out; omega)))
  have B3 := hid (bgrown B2.out hg (by have := HC.out; have := HW.out; omega))
  have C3 := hid hc
  have V3 := hid (V2.out.grown hg (by have := HC.out; have := V0B.out; have := HW.out; omega))
  have T3 : Hid (t.ok w3) := hid ⟨T2.out.1.grown C2.out.noU8 hg, T2.out.2⟩
  clear hc hg hz3 R2 S2 B2 C2 V2 T2
  go_wp2_with fail
  refine (take_ok _ c a2 t.n k2 1 t.l 1 1 C3.out rfl (by decide) (by have := H4.out; have := HTL.out; omega)).mono ?_
  rintro e w4 ⟨rfl, hc, hg, hz4⟩
  rw [num1 t.l 1 (by have := H4.out; omega), ← HK1.out]
  rw [show 1 + 1 = 2 from rfl] at hc
  have R4 := hid (R3.out.kept hg (fun e => absurd (Option.some.inj e) (by have := HC.out; have := HR.out; omega)))
  have S4 := hid (S3.out.kept hg (fun e => absurd (Option.some.inj e) (by have := HC.out; have := HS.out; omega)))
  have B4 := hid (bgrown B3.out hg (by have := HC.out; have := HW.out; omega))
  have C4 := hid hc
  have V4 := hid (V3.out.grown hg (by have := HC.out; have := V0B.out; have := HW.out; omega))
  have T4 : Hid (t.ok w4) := hid ⟨T3.out.1.grown C3.out.noU8 hg, T3.out.2⟩
  clear hc hg hz4 R3 S3 B3 C3 V3 T3
  go_wp2_with fail
  refine (take_ok _ c a2 t.n k2 2 t.l 2 2 C4.out rfl (by decide) (by have := H4.out; have := HTL.out; omega)).mono ?_
  rintro e w5 ⟨rfl, hc, hg, hz5⟩
  rw [show 2 + 2 = 4 from rfl] at hc
  have R5 := hid (R4.out.kept hg (fun e => absurd (Option.some.inj e) (by have := HC.out; have := HR.out; omega)))
  have S5 := hid (S4.out.kept hg (fun e => absurd (Option.some.inj e) (by have := HC.out; have := HS.out; omega)))
  have B5 := hid (bgrown B4.out hg (by have := HC.out; have := HW.out; omega))
  have C5 := hid hc
  have V5 := hid (V4.out.grown hg (by have := HC.out; have := V0B.out; have := HW.out; omega))
  have T5 : Hid (t.ok w5) := hid ⟨T4.out.1.grown C4.out.noU8 hg, T4.out.2⟩
  clear hc hg hz5 R4 S4 B4 C4 V4 T4
  go_wp2_with fail
  refine (err_any _ c 0 C5.out.cell2).mono ?_
  rintro e w5 ⟨rfl, rfl⟩
  have c3 : w5.cell? ⟨w.heap.size, 3, none⟩ = some (.int .i64 58) := by rw [← HNX.out]; exact (rdc_h S5.out).at 3 _ h.at3
  have c37 := rdc_t HK.out S5.out
  go_wp2_with (first | (refine ldAd _ rfl rfl w.heap.size 5 rfl h.f HK.out.1.1 (by have := Hd.pF (rdc_h S5.out); rwa [Nat.zero_add] at this) ?_) | (refine ldAd _ rfl rfl w.heap.size 21 rfl h.t HK.out.2.1 (by have := Hd.pT HK.out (rdc_h S5.out); rwa [Nat.zero_add] at this) ?_))
  refine (check_any h.f h.t 58 t.a t.n t.cap t.l _ HK.out.1 HK.out.2 T5.out.1 T5.out.2).mono ?_
  rintro e w6 ⟨rfl, hb⟩
  rw [HCK.out]
  have R6 := hid (R5.out.below hb)
  have S6 := hid (S5.out.below hb)
  have B6 := hid (bthen B5.out hb)
  have C6 := hid (C5.out.below hb)
  have V6 := hid (V5.out.below hb)
  clear hb c3 c37 R5 S5 B5 C5 V5 T5
  go_wp2_with fail
  refine (left_any _ c a2 t.n k2 4 t.l 0 C6.out).mono ?_
  rintro e w7 ⟨rfl, q, rfl⟩
  have hb : Below w6.heap.size w6 (w6.drewN q) := bdrew (Below.refl _ _) q
  have R7 := hid (R6.out.below hb)
  have S7 := hid (S6.out.below hb)
  have B7 := hid (bthen B6.out hb)
  have C7 := hid (C6.out.below hb)
  have V7 := hid (V6.out.below hb)
  clear hb R6 S6 B6 C6 V6
  generalize w6.drewN q = w7 at *
  go_wp2_with fail
  refine (bytes_ok _ c a2 t.n k2 4 t.l ((t.n : Int) - ((4 : Nat) : Int)) (t.n - 4) C7.out (by have := H4.out; have := HTL.out; omega) (by have := H4.out; have := HTL.out; omega)).mono ?_
  rintro e w8 ⟨v8, rfl, hown, hc, hg⟩
  have hx4 : (t.l.drop 4).take (t.n - 4) = t.l.drop 4 := List.take_of_length_le (by rw [List.length_drop, HTL.out]; exact Nat.le_refl _)
  have hx5 : (t.l.drop 4).length = t.n - 4 := by rw [List.length_drop, HTL.out]
  rw [hx4] at hown
  rw [← hx5] at hown
  obtain ⟨a8, k8, rfl, hl8, _⟩ := owns_lies hown
  have L8 := hid hl8
  have R8 := hid (R7.out.kept hg (fun e => absurd (Option.some.inj e) (by have := HC.out; have := HR.out; omega)))
  have S8 := hid (S7.out.kept hg (fun e => absurd (Option.some.inj e) (by have := HC.out; have := HS.out; omega)))
  have B8 := hid (bgrown B7.out hg (by have := HC.out; have := HW.out; omega))
  have V8 := hid (V7.out.grown hg (by have := HC.out; have := V0B.out; have := HW.out; omega))
  have HX5 : Hid ((t.l.drop 4).length ≤ 1280) := hid (by have := HSm.out; omega)
  have HXO : Hid (Oct (t.l.drop 4)) := hid (oct_drop HTO.out 4)
  clear hown hl8 hc hg hx4 hx5 R7 S7 B7 C7 V7
  generalize t.l.drop 4 = X at *
  generalize X.length = xn at *
  go_wp2_with fail
  refine (cDecode_any K1 a8 xn k8 X _ L8.out HXO.out (by have := HX5.out; omega) V8.out).mono ?_
  rintro e w9 ⟨m, rfl, hmo, hmp, hb9⟩
  have hb := hb9.out
  have R9 := hid (R8.out.below hb)
  have S9 := hid (S8.out.below hb)
  have B9 := hid (bthen B8.out hb)
  have M9 := hid (hmo.out.mono B8.out.size)
  have HMP := hid hmp.out
  have HMR := hid hmo.out.ro
  clear hb hb9 hmo hmp R8 S8 B8 V8 L8
  have Z3 := hid (layM_new w9 38 m)
  have b3 := layM_below w9 38 m
  have R3 := hid (R9.out.below b3)
  have S3 := hid (S9.out.below b3)
  have B3 := hid (bthen B9.out b3)
  have M3 := hid (M9.out.below b3)
  have HR9 := hid R9.out.lt
  clear b3 R9 S9 B9 M9
  go_upto_region 12 with (refine stM m29 _ _ rfl rfl w9.heap.size m HMR.out rfl rfl 38 Mv.zero adr_zeros (Row.new w9 38 _) ?_)
  generalize (w9.alloc (.cells Mv.zero.cs 38)).setRow w9.heap.size m.cs = w10 at *
  generalize w9.heap.size = g9 at *
  generalize dE K1 X = E at *
  go_wp2_with (first | (refine bdPz ptP rfl rfl ?_) | (refine stP ptP _ _ rfl rfl g1 Pv.zero Pv.zero_fit rfl rfl 41 Pv.zero Pv.zero_fit R3.out ?_))
  refine bodyPost_ret (resPe ptP rfl _ _ g1 41 Pv.zero Pv.zero_fit (.int .i64 (E)) rfl rfl (R3.out.setRow _)) rfl ?_
  exact ⟨Pv.zero, by rw [HE.out], hid (POwn.zero _ _), HP.out.symm, hid (below_setRow' B3.out HG.out _)⟩
set_option maxRecDepth 100000 in
set_option maxHeartbeats 3200000 in
theorem rdCtl5 {B : Nat} (h : Hd) (t : Txt) (k : h.ok) (w : World) (ht : t.ok w) (hs : t.n ≤ 1280) (hnx : h.nx = 58) (hV : CV B w) (h4 : ¬ t.l.length < 4) (h5 : chkB h.f h.t 58 t.l = true) (h6 : t.l.getD 0 0 = 155) (h7 : dE (t.l.getD 1 0) (t.l.drop 4) = 0) :
    Calls Tryz.prog 69 #[.agg (rdc h t)] w (RdOk w (rcE h t.l) (rcP h t.l)) := by
  have hz := zpkP
  have hzm := zmv
  have HK := hid k
  have R1 := hid (Row.new (w.alloc (.cells (rdc h t) 91)) 41 Pv.zero.cs)
  have S1 := hid ((Row.new w 91 (rdc h t)).alloc (.cells Pv.zero.cs 41))
  have B1 := hid (balloc (balloc (Below.refl w.heap.size w) (.cells (rdc h t) 91)) (.cells Pv.zero.cs 41))
  have hs1 : (w.alloc (.cells (rdc h t) 91)).heap.size = w.heap.size + 1 := World.size_alloc ..
  rw [hs1] at R1
  have T1 := hid (ht.below B1.out)
  have V1 := hid (hV.below B1.out)
  have HG : Hid (w.heap.size ≤ w.heap.size + 1) := hid (Nat.le_succ _)
  have c37 := rdc_t k S1.out
  have HTO := hid ht.2
  have HTL := hid ht.1.1
  have HSm := hid hs
  have HNX := hid hnx
  obtain ⟨K0, hk0⟩ : ∃ K0, K0 = t.l.getD 0 0 := ⟨_, rfl⟩
  obtain ⟨K1, hk1⟩ : ∃ K1, K1 = t.l.getD 1 0 := ⟨_, rfl⟩
  have HK0 := hid hk0
  have HK1 := hid hk1
  have HE : Hid (rcE h t.l = 0) := hid ((rcE_4 h4 h5 h6).trans h7)
  have HP : Hid (rcP h t.l = ⟨h, false, dM K1 (t.l.drop 4), Ho.zero, 0, []⟩) := hid (by rw [rcP, if_pos HE.out, hk1])
  have HCK := hid h5
  have hq : (K0 != 155) = false := by rw [hk0, h6]; rfl
  have HDE : Hid (dE K1 (t.l.drop 4) = 0) := hid (by rw [hk1]; exact h7)
  have H4 := hid h4
  have V0B := hid hV.le
  clear h4 h5 h6 h7 hk0 hk1
  clear k ht hs hnx hV
  go_enter Tryz.func69, Tryz.ntmps69
  go_upto_region 1 with fail
  generalize (w.alloc (.cells (rdc h t) 91)).alloc (.cells Pv.zero.cs 41) = w1 at *
  clear hs1
  generalize hg1 : w.heap.size + 1 = g1 at *
  have HG1 := hid hg1
  clear hg1
  go_wp2_with fail
  refine (over_any t.a t.n t.cap t.l _ T1.out.1 T1.out.2 (by have := HSm.out; omega)).mono ?_
  rintro e w2 ⟨c, a2, k2, rfl, hc, hb, hc1, hc2⟩
  have R2 := hid (R1.out.below hb)
  have S2 := hid (S1.out.below hb)
  have B2 := hid (bthen B1.out hb)
  have T2 := hid (T1.out.below hb)
  have V2 := hid (V1.out.below hb)
  have C2 := hid hc
  have HC := hid hc1
  have HR := hid R1.out.lt
  have HS := hid S1.out.lt
  have HW := hid B1.out.size
  clear hc hb hc1 hc2 R1 S1 T1 V1 c37 B1
  go_wp2_with fail
  refine (take_ok _ c a2 t.n k2 0 t.l 1 1 C2.out rfl (by decide) (by have := H4.out; have := HTL.out; omega)).mono ?_
  rintro e w3 ⟨rfl, hc, hg, hz3⟩
  rw [num1 t.l 0 (by have := H4.out; omega), ← HK0.out]
  rw [show 0 + 1 = 1 from rfl] at hc
  have R3 := hid (R2.out.kept hg (fun e => absurd (Option.some.inj e) (by have := HC.out; have := HR.out; omega)))
  have S3 := hid (S2.out.kept hg (fun e => absurd (Option.some.inj e) (by have := HC.out; have := HS.out; omega)))
  have B3 := hid (bgrown B2.out hg (by have := HC.out; have := HW.out; omega))
  have C3 := hid hc
  have V3 := hid (V2.out.grown hg (by have := HC.out; have := V0B.out; have := HW.out; omega))
  have T3 : Hid (t.ok w3) := hid ⟨T2.out.1.grown C2.out.noU8 hg, T2.out.2⟩
  clear hc hg hz3 R2 S2 B2 C2 V2 T2
  go_wp2_with fail
  refine (take_ok _ c a2 t.n k2 1 t.l 1 1 C3.out rfl (by decide) (by have := H4.out; have := HTL.out; omega)).mono ?_
  rintro e w4 ⟨rfl, hc, hg, hz4⟩
  rw [num1 t.l 1 (by have := H4.out; omega), ← HK1.out]
  rw [show 1 + 1 = 2 from rfl] at hc
  have R4 := hid (R3.out.kept hg (fun e => absurd (Option.some.inj e) (by have := HC.out; have := HR.out; omega)))
  have S4 := hid (S3.out.kept hg (fun e => absurd (Option.some.inj e) (by have := HC.out; have := HS.out; omega)))
  have B4 := hid (bgrown B3.out hg (by have := HC.out; have := HW.out; omega))
  have C4 := hid hc
  have V4 := hid (V3.out.grown hg (by have := HC.out; have := V0B.out; have := HW.out; omega))
  have T4 : Hid (t.ok w4) := hid ⟨T3.out.1.grown C3.out.noU8 hg, T3.out.2⟩
  clear hc hg hz4 R3 S3 B3 C3 V3 T3
  go_wp2_with fail
  refine (take_ok _ c a2 t.n k2 2 t.l 2 2 C4.out rfl (by decide) (by have := H4.out; have := HTL.out; omega)).mono ?_
  rintro e w5 ⟨rfl, hc, hg, hz5⟩
  rw [show 2 + 2 = 4 from rfl] at hc
  have R5 := hid (R4.out.kept hg (fun e => absurd (Option.some.inj e) (by have := HC.out; have := HR.out; omega)))
  have S5 := hid (S4.out.kept hg (fun e => absurd (Option.some.inj e) (by have := HC.out; have := HS.out; omega)))
  have B5 := hid (bgrown B4.out hg (by have := HC.out; have := HW.out; omega))
  have C5 := hid hc
  have V5 := hid (V4.out.grown hg (by have := HC.out; have := V0B.out; have := HW.out; omega))
  have T5 : Hid (t.ok w5) := hid ⟨T4.out.1.grown C4.out.noU8 hg, T4.out.2⟩
  clear hc hg hz5 R4 S4 B4 C4 V4 T4
  go_wp2_with fail
  refine (err_any _ c 0 C5.out.cell2).mono ?_
  rintro e w5 ⟨rfl, rfl⟩
  have c3 : w5.cell? ⟨w.heap.size, 3, none⟩ = some (.int .i64 58) := by rw [← HNX.out]; exact (rdc_h S5.out).at 3 _ h.at3
  have c37 := rdc_t HK.out S5.out
  go_wp2_with (first | (refine ldAd _ rfl rfl w.heap.size 5 rfl h.f HK.out.1.1 (by have := Hd.pF (rdc_h S5.out); rwa [Nat.zero_add] at this) ?_) | (refine ldAd _ rfl rfl w.heap.size 21 rfl h.t HK.out.2.1 (by have := Hd.pT HK.out (rdc_h S5.out); rwa [Nat.zero_add] at this) ?_))
  refine (check_any h.f h.t 58 t.a t.n t.cap t.l _ HK.out.1 HK.out.2 T5.out.1 T5.out.2).mono ?_
  rintro e w6 ⟨rfl, hb⟩
  rw [HCK.out]
  have R6 := hid (R5.out.below hb)
  have S6 := hid (S5.out.below hb)
  have B6 := hid (bthen B5.out hb)
  have C6 := hid (C5.out.below hb)
  have V6 := hid (V5.out.below hb)
  clear hb c3 c37 R5 S5 B5 C5 V5 T5
  go_wp2_with fail
  refine (left_any _ c a2 t.n k2 4 t.l 0 C6.out).mono ?_
  rintro e w7 ⟨rfl, q, rfl⟩
  have hb : Below w6.heap.size w6 (w6.drewN q) := bdrew (Below.refl _ _) q
  have R7 := hid (R6.out.below hb)
  have S7 := hid (S6.out.below hb)
  have B7 := hid (bthen B6.out hb)
  have C7 := hid (C6.out.below hb)
  have V7 := hid (V6.out.below hb)
  clear hb R6 S6 B6 C6 V6
  generalize w6.drewN q = w7 at *
  go_wp2_with fail
  refine (bytes_ok _ c a2 t.n k2 4 t.l ((t.n : Int) - ((4 : Nat) : Int)) (t.n - 4) C7.out (by have := H4.out; have := HTL.out; omega) (by have := H4.out; have := HTL.out; omega)).mono ?_
  rintro e w8 ⟨v8, rfl, hown, hc, hg⟩
  have hx4 : (t.l.drop 4).take (t.n - 4) = t.l.drop 4 := List.take_of_length_le (by rw [List.length_drop, HTL.out]; exact Nat.le_refl _)
  have hx5 : (t.l.drop 4).length = t.n - 4 := by rw [List.length_drop, HTL.out]
  rw [hx4] at hown
  rw [← hx5] at hown
  obtain ⟨a8, k8, rfl, hl8, _⟩ := owns_lies hown
  have L8 := hid hl8
  have R8 := hid (R7.out.kept hg (fun e => absurd (Option.some.inj e) (by have := HC.out; have := HR.out; omega)))
  have S8 := hid (S7.out.kept hg (fun e => absurd (Option.some.inj e) (by have := HC.out; have := HS.out; omega)))
  have B8 := hid (bgrown B7.out hg (by have := HC.out; have := HW.out; omega))
  have V8 := hid (V7.out.grown hg (by have := HC.out; have := V0B.out; have := HW.out; omega))
  have HX5 : Hid ((t.l.drop 4).length ≤ 1280) := hid (by have := HSm.out; omega)
  have HXO : Hid (Oct (t.l.drop 4)) := hid (oct_drop HTO.out 4)
  clear hown hl8 hc hg hx4 hx5 R7 S7 B7 C7 V7
  generalize t.l.drop 4 = X at *
  generalize X.length = xn at *
  go_wp2_with fail
  refine (cDecode_any K1 a8 xn k8 X _ L8.out HXO.out (by have := HX5.out; omega) V8.out).mono ?_
  rintro e w9 ⟨m, rfl, hmo, hmp, hb9⟩
  rw [HDE.out]
  have hb := hb9.out
  have R9 := hid (R8.out.below hb)
  have S9 := hid (S8.out.below hb)
  have B9 := hid (bthen B8.out hb)
  have M9 := hid (hmo.out.mono B8.out.size)
  have HMP := hid hmp.out
  have HMR := hid hmo.out.ro
  clear hb hb9 hmo hmp R8 S8 B8 V8 L8
  have Z3 := hid (layM_new w9 38 m)
  have b3 := layM_below w9 38 m
  have R3 := hid (R9.out.below b3)
  have S3 := hid (S9.out.below b3)
  have B3 := hid (bthen B9.out b3)
  have M3 := hid (M9.out.below b3)
  have HR9 := hid R9.out.lt
  clear b3 R9 S9 B9 M9
  go_upto_region 12 with (refine stM m29 _ _ rfl rfl w9.heap.size m HMR.out rfl rfl 38 Mv.zero adr_zeros (Row.new w9 38 _) ?_)
  generalize (w9.alloc (.cells Mv.zero.cs 38)).setRow w9.heap.size m.cs = w10 at *
  generalize w9.heap.size = g9 at *
  obtain ⟨P, hP⟩ : ∃ P : Pv, P = ⟨h, false, m, Ho.zero, 0, Txt.none⟩ := ⟨_, rfl⟩
  have kP : Hid P.fit := hid (by rw [hP]; exact ⟨HK.out, HMR.out⟩)
  have HPp : Hid (P.p = rcP h t.l) := hid (by rw [HP.out, hP]; show (⟨h, false, m.p, Ho.zero, 0, []⟩ : Pp) = _; rw [HMP.out])
  have HPo : Hid (∀ w', MOwn w.heap.size w' m → POwn w.heap.size w' P) := hid (fun w' hm => by rw [hP]; exact ⟨HK.out, hm, World.ownsRow_nil _ _ _ _, rfl, fun x hx => by cases hx⟩)
  have HPb : Hid (Pv.cs ⟨h, false, m, Ho.zero, 0, Txt.none⟩ = P.cs) := hid (by rw [hP])
  clear hP
  go_wp2_with (first
    | (refine ldHoH _ rfl rfl w.heap.size 0 rfl h HK.out (rdc_h S3.out) ?_)
    | (refine ldM m29 _ rfl rfl g9 0 rfl m HMR.out Z3.out.part ?_)
    | (refine bdPc ptP _ _ rfl rfl h m HK.out HMR.out rfl rfl ?_; rw [HPb.out])
    | (refine stP ptP _ _ rfl rfl g1 P kP.out rfl rfl 41 Pv.zero Pv.zero_fit R3.out ?_))
  refine bodyPost_ret (resPe ptP rfl _ _ g1 41 P kP.out (.int .i64 0) rfl rfl (R3.out.setRow _)) rfl ?_
  exact ⟨P, by rw [HE.out], hid (HPo.out _ (M3.out.row R3.out (by decide) (by decide) (by decide) (grownBy_setRow _ _ _))), HPp, hid (below_setRow' B3.out HG.out _)⟩
theorem rdCtl_any {B : Nat} (h : Hd) (t : Txt) (k : h.ok) (w : World) (ht : t.ok w) (hs : t.n ≤ 1280) (hnx : h.nx = 58) (hV : CV B w) :
    Calls Tryz.prog 69 #[.agg (rdc h t)] w (RdOk w (rcE h t.l) (rcP h t.l)) := by
  by_cases h4 : t.l.length < 4
  · exact rdCtl1 h t k w ht hs hnx hV h4
  · cases h5 : chkB h.f h.t 58 t.l
    · exact rdCtl2 h t k w ht hs hnx hV h4 h5
    · by_cases h6 : t.l.getD 0 0 = 155
      · by_cases h7 : dE (t.l.getD 1 0) (t.l.drop 4) = 0
        · exact rdCtl5 h t k w ht hs hnx hV h4 h5 h6 h7
        · exact rdCtl4 h t k w ht hs hnx hV h4 h5 h6 h7
      · exact rdCtl3 h t k w ht hs hnx hV h4 h5 h6
end Go.Proofs.YtbklpelikaapoaaGreatDoor

namespace Go.Proofs.YtbklpelikaapoaaGreatDoor
open Go.ChangeShapes Go.WideShapes Go.ChangeAt Go.RowKit Go.Deep
set_option linter.unusedVariables false
set_option linter.unusedSimpArgs false

theorem rh58 {h : Hd} (e : h.nx = 58) (l : List Int) : rhE h l = rcE h l ∧ rhP h l = rcP h l := by
  have e1 : rhE h l = rcE h l := by rw [rhE, if_pos e]
  refine ⟨e1, ?_⟩
  rw [rhP, rcP, e1, if_pos e]
theorem rh0 {h : Hd} (e : h.nx = 0) (l : List Int) : rhE h l = rdtE l ∧ rhP h l = rdtP h l := by
  have e0 : ¬ h.nx = 58 := by rw [e]; decide
  have e1 : rhE h l = rdtE l := by rw [rhE, if_neg e0, if_pos e]
  refine ⟨e1, ?_⟩
  rw [rhP, rdtP, e1, if_neg e0]
theorem rhx {h : Hd} (e0 : ¬ h.nx = 58) (e : ¬ h.nx = 0) (l : List Int) : rhE h l = 6 ∧ rhP h l = Pp.zero := by
  have e1 : rhE h l = 6 := by rw [rhE, if_neg e0, if_neg e]
  exact ⟨e1, by rw [rhP, e1, if_neg (by decide)]⟩
set_option maxRecDepth 100000 in
set_option maxHeartbeats 1600000 in
theorem reader58 (h : Hd) (t : Txt) (k : h.ok) (w : World) (e : h.nx = 58) :
    Calls Tryz.prog 43 #[.agg (rdc h t)] w fun e w' => e = .returned (.func (.func 69) #[.agg (rdc h t)] #[]) ∧ Below w.heap.size w w' := by
  have hmf : ∀ (fn : Fn) (first cap : Array Value) (w : World), (Instr.makeFunc fn first cap).run Tryz.prog w = .ok (.func fn first cap) w := fun _ _ _ _ => rfl
  have R1 := hid (Row.new w 91 (rdc h t))
  have B1 := hid (balloc (Below.refl w.heap.size w) (.cells (rdc h t) 91))
  have HK := hid k
  have c3 : (w.alloc (.cells (rdc h t) 91)).cell? ⟨w.heap.size, 3, none⟩ = some (.int .i64 h.nx) := (rdc_h R1.out).at 3 _ h.at3
  rw [e] at c3
  clear e
  clear k
  go_enter Tryz.func43, Tryz.ntmps43
  go_upto_region 1 with fail
  generalize w.alloc (.cells (rdc h t) 91) = w1 at *
  go_wp2_with (refine ldRd _ rfl rfl w.heap.size rfl h t HK.out 91 R1.out ?_)
  go_ret
  exact ⟨rfl, B1.out⟩
set_option maxRecDepth 100000 in
set_option maxHeartbeats 1600000 in
theorem reader0 (h : Hd) (t : Txt) (k : h.ok) (w : World) (e : h.nx = 0) :
    Calls Tryz.prog 43 #[.agg (rdc h t)] w fun e w' => e = .returned (.func (.func 70) #[.agg (rdc h t)] #[]) ∧ Below w.heap.size w w' := by
  have hmf : ∀ (fn : Fn) (first cap : Array Value) (w : World), (Instr.makeFunc fn first cap).run Tryz.prog w = .ok (.func fn first cap) w := fun _ _ _ _ => rfl
  have R1 := hid (Row.new w 91 (rdc h t))
  have B1 := hid (balloc (Below.refl w.heap.size w) (.cells (rdc h t) 91))
  have HK := hid k
  have c3 : (w.alloc (.cells (rdc h t) 91)).cell? ⟨w.heap.size, 3, none⟩ = some (.int .i64 h.nx) := (rdc_h R1.out).at 3 _ h.at3
  rw [e] at c3
  clear e
  clear k
  go_enter Tryz.func43, Tryz.ntmps43
  go_upto_region 1 with fail
  generalize w.alloc (.cells (rdc h t) 91) = w1 at *
  go_wp2_with (refine ldRd _ rfl rfl w.heap.size rfl h t HK.out 91 R1.out ?_)
  go_ret
  exact ⟨rfl, B1.out⟩
set_option maxRecDepth 100000 in
set_option maxHeartbeats 1600000 in
theorem readerx (h : Hd) (t : Txt) (k : h.ok) (w : World) (e0 : ¬ h.nx = 58) (e : ¬ h.nx = 0) :
    Calls Tryz.prog 43 #[.agg (rdc h t)] w fun e w' => e = .returned (.func (.func 71) #[.agg (rdc h t)] #[]) ∧ Below w.heap.size w w' := by
  have hmf : ∀ (fn : Fn) (first cap : Array Value) (w : World), (Instr.makeFunc fn first cap).run Tryz.prog w = .ok (.func fn first cap) w := fun _ _ _ _ => rfl
  have R1 := hid (Row.new w 91 (rdc h t))
  have B1 := hid (balloc (Below.refl w.heap.size w) (.cells (rdc h t) 91))
  have HK := hid k
  have c3 : (w.alloc (.cells (rdc h t) 91)).cell? ⟨w.heap.size, 3, none⟩ = some (.int .i64 h.nx) := (rdc_h R1.out).at 3 _ h.at3
  have q1 : (h.nx == 58) = false := by simp [e0]
  have q2 : (h.nx == 0) = false := by simp [e]
  clear e0 e
  generalize h.nx = N at *
  clear k
  go_enter Tryz.func43, Tryz.ntmps43
  go_upto_region 1 with fail
  generalize w.alloc (.cells (rdc h t) 91) = w1 at *
  go_wp2_with (refine ldRd _ rfl rfl w.heap.size rfl h t HK.out 91 R1.out ?_)
  go_ret
  exact ⟨rfl, B1.out⟩
/-- What Decode answers. -/
def DgOk (w : World) (l : List Int) (e : Ending) (w' : World) : Prop := ∃ v : Pv, e = .returned (.tuple #[.agg v.cs, .int .i64 (dgE l)]) ∧ Hid (POwn w.heap.size w' v) ∧ Hid (v.p = dgP l) ∧ Hid (Below w.heap.size w w')
theorem dgR_oct {l : List Int} (h : Oct l) : Oct (decR l) := by
  unfold decR; split
  · exact oct_drop h 40
  · intro x hx; cases hx
theorem dgR_le {l : List Int} : (decR l).length ≤ 1280 := by
  unfold decR; split
  · rename_i h
    obtain ⟨_, _, h3, _⟩ := decE_zero h
    rw [List.length_drop]; omega
  · simp
theorem dgV_ok {l : List Int} (h : Oct l) : (decV l).ok := by
  unfold decV; split
  · rename_i e
    exact decH_ok h (decE_zero e).1
  · exact Hd.zero_ok
set_option maxRecDepth 100000 in
set_option maxHeartbeats 3200000 in
theorem dgDec1 {B : Nat} (a : Option Addr) (n cap : Nat) (l : List Int) (w : World) (hl : Lies .u8 w a n cap l) (ho : Oct l) (hV : CV B w) (h1 : decE l ≠ 0) :
    Calls Tryz.prog 16 #[.slice a n cap] w (DgOk w l) := by
  have hz := zpkP
  have hzh := zhd
  have R1 := hid (Row.new w 41 Pv.zero.cs)
  have B1 := hid (balloc (Below.refl w.heap.size w) (.cells Pv.zero.cs 41))
  have L1 := hid (hl.below B1.out)
  have V1 := hid (hV.below B1.out)
  have HO := hid ho
  have HVk := hid (dgV_ok ho)
  have HRo := hid (dgR_oct ho)
  have HRl := hid (@dgR_le l)
  have HE : Hid (dgE l = decE l) := hid (by rw [dgE, if_neg h1])
  have HP : Hid (dgP l = Pp.zero) := hid (by rw [dgP, if_neg h1])
  have hq : (decE l != 0) = true := bne_iff_ne.2 h1
  clear h1
  clear hl ho hV
  go_enter Tryz.func16, Tryz.ntmps16
  go_upto_region 1 with fail
  generalize w.alloc (.cells Pv.zero.cs 41) = w1 at *
  go_wp2_with fail
  refine (hdrDecode_any a n cap l _ L1.out HO.out).mono ?_
  rintro e w2 ⟨v2, rfl, hown, hb⟩
  have R2 := hid (R1.out.below hb)
  have B2 := hid (bthen B1.out hb)
  have V2 := hid (V1.out.below hb)
  obtain ⟨a2, k2, rfl, hl2, _⟩ := owns_lies hown
  have L2 := hid hl2
  clear hb hown hl2 R1 B1 V1 L1
  generalize decV l = h at *
  generalize decR l = X at *
  generalize hxn : X.length = xn at *
  have HXN := hid hxn
  clear hxn
  have Z3 := hid (layHd_new w2 h)
  have b3 := layHd_below w2 35 h
  have R3 := hid (R2.out.below b3)
  have B3 := hid (bthen B2.out b3)
  have V3 := hid (V2.out.below b3)
  have T3 : Hid (Txt.ok ((w2.alloc (.cells Hd.zero.cs 35)).setRow w2.heap.size h.cs) ⟨a2, xn, k2, X⟩) := hid ⟨L2.out.below b3, HRo.out⟩
  clear b3 R2 B2 V2 L2
  go_upto_region 2 with (refine stHd _ _ rfl rfl w2.heap.size h HVk.out rfl rfl 35 Hd.zero Hd.zero_ok (Row.new w2 35 _) ?_)
  generalize (w2.alloc (.cells Hd.zero.cs 35)).setRow w2.heap.size h.cs = w3 at *
  generalize w2.heap.size = g2 at *
  generalize decE l = E at *
  go_wp2_with (first | (refine bdPz ptP rfl rfl ?_) | (refine stP ptP _ _ rfl rfl w.heap.size Pv.zero Pv.zero_fit rfl rfl 41 Pv.zero Pv.zero_fit R3.out ?_))
  refine bodyPost_ret (resPe ptP rfl _ _ w.heap.size 41 Pv.zero Pv.zero_fit (.int .i64 E) rfl rfl (R3.out.setRow _)) rfl ?_
  exact ⟨Pv.zero, by rw [HE.out], hid (POwn.zero _ _), HP.out.symm, hid (below_setRow' B3.out (Nat.le_refl _) _)⟩
set_option maxRecDepth 100000 in
set_option maxHeartbeats 3200000 in
theorem dgDec2 {B : Nat} (a : Option Addr) (n cap : Nat) (l : List Int) (w : World) (hl : Lies .u8 w a n cap l) (ho : Oct l) (hV : CV B w) (h1 : decE l = 0) (h2 : (decV l).nx = 58) :
    Calls Tryz.prog 16 #[.slice a n cap] w (DgOk w l) := by
  have hz := zpkP
  have hzh := zhd
  have R1 := hid (Row.new w 41 Pv.zero.cs)
  have B1 := hid (balloc (Below.refl w.heap.size w) (.cells Pv.zero.cs 41))
  have L1 := hid (hl.below B1.out)
  have V1 := hid (hV.below B1.out)
  have HO := hid ho
  have HVk := hid (dgV_ok ho)
  have HRo := hid (dgR_oct ho)
  have HRl := hid (@dgR_le l)
  have HE0 := hid h1
  have HE : Hid (dgE l = rcE (decV l) (decR l)) := hid (by rw [dgE, if_pos h1, (rh58 h2 _).1])
  have HP : Hid (dgP l = rcP (decV l) (decR l)) := hid (by rw [dgP, if_pos h1, (rh58 h2 _).2])
  have H2 := hid h2
  clear h1 h2
  clear hl ho hV
  go_enter Tryz.func16, Tryz.ntmps16
  go_upto_region 1 with fail
  generalize w.alloc (.cells Pv.zero.cs 41) = w1 at *
  go_wp2_with fail
  refine (hdrDecode_any a n cap l _ L1.out HO.out).mono ?_
  rintro e w2 ⟨v2, rfl, hown, hb⟩
  have R2 := hid (R1.out.below hb)
  have B2 := hid (bthen B1.out hb)
  have V2 := hid (V1.out.below hb)
  obtain ⟨a2, k2, rfl, hl2, _⟩ := owns_lies hown
  have L2 := hid hl2
  clear hb hown hl2 R1 B1 V1 L1
  rw [HE0.out]
  generalize decV l = h at *
  generalize decR l = X at *
  generalize hxn : X.length = xn at *
  have HXN := hid hxn
  clear hxn
  have Z3 := hid (layHd_new w2 h)
  have b3 := layHd_below w2 35 h
  have R3 := hid (R2.out.below b3)
  have B3 := hid (bthen B2.out b3)
  have V3 := hid (V2.out.below b3)
  have T3 : Hid (Txt.ok ((w2.alloc (.cells Hd.zero.cs 35)).setRow w2.heap.size h.cs) ⟨a2, xn, k2, X⟩) := hid ⟨L2.out.below b3, HRo.out⟩
  clear b3 R2 B2 V2 L2
  go_upto_region 2 with (refine stHd _ _ rfl rfl w2.heap.size h HVk.out rfl rfl 35 Hd.zero Hd.zero_ok (Row.new w2 35 _) ?_)
  generalize (w2.alloc (.cells Hd.zero.cs 35)).setRow w2.heap.size h.cs = w3 at *
  generalize w2.heap.size = g2 at *
  go_wp2_with (first
    | (refine ldHoH _ rfl rfl g2 0 rfl h HVk.out Z3.out.part ?_)
    | (refine bdRd _ _ rfl rfl h ⟨a2, xn, k2, X⟩ HVk.out rfl rfl ?_))
  refine (reader58 h ⟨a2, xn, k2, X⟩ HVk.out _ H2.out).mono ?_
  rintro e w4 ⟨rfl, hb⟩
  have R4 := hid (R3.out.below hb)
  have B4 := hid (bthen B3.out hb)
  have V4 := hid (V3.out.below hb)
  have T4 := hid (T3.out.below hb)
  clear hb R3 B3 V3 T3 Z3
  go_wp2_with fail
  refine (rdCtl_any h ⟨a2, xn, k2, X⟩ HVk.out _ T4.out HRl.out H2.out V4.out).mono ?_
  rintro e w5 ⟨P, rfl, hpo, hpp, hb5⟩
  have hb := hb5.out
  have R5 := hid (R4.out.below hb)
  have B5 := hid (bthen B4.out hb)
  have P5 := hid (hpo.out.mono B4.out.size)
  have HPp : Hid (P.p = dgP l) := hid (by rw [HP.out]; exact hpp.out)
  have HPf := hid hpo.out.ok.fit
  clear hb hb5 hpo hpp R4 B4 V4 T4
  go_wp2_with (refine stP ptP _ _ rfl rfl w.heap.size P HPf.out rfl rfl 41 Pv.zero Pv.zero_fit R5.out ?_)
  refine bodyPost_ret (resPe ptP rfl _ _ w.heap.size 41 P HPf.out (.int .i64 (rcE h X)) rfl rfl (R5.out.setRow _)) rfl ?_
  exact ⟨P, by rw [HE.out], hid (P5.out.row R5.out (by decide) (by decide) (by decide) (grownBy_setRow _ _ _)), HPp, hid (below_setRow' B5.out (Nat.le_refl _) _)⟩
set_option maxRecDepth 100000 in
set_option maxHeartbeats 3200000 in
theorem dgDec3 {B : Nat} (a : Option Addr) (n cap : Nat) (l : List Int) (w : World) (hl : Lies .u8 w a n cap l) (ho : Oct l) (hV : CV B w) (h1 : decE l = 0) (h2 : (decV l).nx = 0) :
    Calls Tryz.prog 16 #[.slice a n cap] w (DgOk w l) := by
  have hz := zpkP
  have hzh := zhd
  have R1 := hid (Row.new w 41 Pv.zero.cs)
  have B1 := hid (balloc (Below.refl w.heap.size w) (.cells Pv.zero.cs 41))
  have L1 := hid (hl.below B1.out)
  have V1 := hid (hV.below B1.out)
  have HO := hid ho
  have HVk := hid (dgV_ok ho)
  have HRo := hid (dgR_oct ho)
  have HRl := hid (@dgR_le l)
  have HE0 := hid h1
  have HE : Hid (dgE l = rdtE (decR l)) := hid (by rw [dgE, if_pos h1, (rh0 h2 _).1])
  have HP : Hid (dgP l = rdtP (decV l) (decR l)) := hid (by rw [dgP, if_pos h1, (rh0 h2 _).2])
  have H2 := hid h2
  clear h1 h2
  clear hl ho hV
  go_enter Tryz.func16, Tryz.ntmps16
  go_upto_region 1 with fail
  generalize w.alloc (.cells Pv.zero.cs 41) = w1 at *
  go_wp2_with fail
  refine (hdrDecode_any a n cap l _ L1.out HO.out).mono ?_
  rintro e w2 ⟨v2, rfl, hown, hb⟩
  have R2 := hid (R1.out.below hb)
  have B2 := hid (bthen B1.out hb)
  have V2 := hid (V1.out.below hb)
  obtain ⟨a2, k2, rfl, hl2, _⟩ := owns_lies hown
  have L2 := hid hl2
  clear hb hown hl2 R1 B1 V1 L1
  rw [HE0.out]
  generalize decV l = h at *
  generalize decR l = X at *
  generalize hxn : X.length = xn at *
  have HXN := hid hxn
  clear hxn
  have Z3 := hid (layHd_new w2 h)
  have b3 := layHd_below w2 35 h
  have R3 := hid (R2.out.below b3)
  have B3 := hid (bthen B2.out b3)
  have V3 := hid (V2.out.below b3)
  have T3 : Hid (Txt.ok ((w2.alloc (.cells Hd.zero.cs 35)).setRow w2.heap.size h.cs) ⟨a2, xn, k2, X⟩) := hid ⟨L2.out.below b3, HRo.out⟩
  clear b3 R2 B2 V2 L2
  go_upto_region 2 with (refine stHd _ _ rfl rfl w2.heap.size h HVk.out rfl rfl 35 Hd.zero Hd.zero_ok (Row.new w2 35 _) ?_)
  generalize (w2.alloc (.cells Hd.zero.cs 35)).setRow w2.heap.size h.cs = w3 at *
  generalize w2.heap.size = g2 at *
  go_wp2_with (first
    | (refine ldHoH _ rfl rfl g2 0 rfl h HVk.out Z3.out.part ?_)
    | (refine bdRd _ _ rfl rfl h ⟨a2, xn, k2, X⟩ HVk.out rfl rfl ?_))
  refine (reader0 h ⟨a2, xn, k2, X⟩ HVk.out _ H2.out).mono ?_
  rintro e w4 ⟨rfl, hb⟩
  have R4 := hid (R3.out.below hb)
  have B4 := hid (bthen B3.out hb)
  have V4 := hid (V3.out.below hb)
  have T4 := hid (T3.out.below hb)
  clear hb R3 B3 V3 T3 Z3
  go_wp2_with fail
  refine (rdData_any h ⟨a2, xn, k2, X⟩ HVk.out _ T4.out (by have := HRl.out; show xn ≤ 100000; omega)).mono ?_
  rintro e w5 ⟨P, rfl, hpo, hpp, hb5⟩
  have hb := hb5.out
  have R5 := hid (R4.out.below hb)
  have B5 := hid (bthen B4.out hb)
  have P5 := hid (hpo.out.mono B4.out.size)
  have HPp : Hid (P.p = dgP l) := hid (by rw [HP.out]; exact hpp.out)
  have HPf := hid hpo.out.ok.fit
  clear hb hb5 hpo hpp R4 B4 V4 T4
  go_wp2_with (refine stP ptP _ _ rfl rfl w.heap.size P HPf.out rfl rfl 41 Pv.zero Pv.zero_fit R5.out ?_)
  refine bodyPost_ret (resPe ptP rfl _ _ w.heap.size 41 P HPf.out (.int .i64 (rdtE X)) rfl rfl (R5.out.setRow _)) rfl ?_
  exact ⟨P, by rw [HE.out], hid (P5.out.row R5.out (by decide) (by decide) (by decide) (grownBy_setRow _ _ _)), HPp, hid (below_setRow' B5.out (Nat.le_refl _) _)⟩
set_option maxRecDepth 100000 in
set_option maxHeartbeats 3200000 in
theorem dgDec4 {B : Nat} (a : Option Addr) (n cap : Nat) (l : List Int) (w : World) (hl : Lies .u8 w a n cap l) (ho : Oct l) (hV : CV B w) (h1 : decE l = 0) (h2 : ¬ (decV l).nx = 58) (h3 : ¬ (decV l).nx = 0) :
    Calls Tryz.prog 16 #[.slice a n cap] w (DgOk w l) := by
  have hz := zpkP
  have hzh := zhd
  have R1 := hid (Row.new w 41 Pv.zero.cs)
  have B1 := hid (balloc (Below.refl w.heap.size w) (.cells Pv.zero.cs 41))
  have L1 := hid (hl.below B1.out)
  have V1 := hid (hV.below B1.out)
  have HO := hid ho
  have HVk := hid (dgV_ok ho)
  have HRo := hid (dgR_oct ho)
  have HRl := hid (@dgR_le l)
  have HE0 := hid h1
  have HE : Hid (dgE l = 6) := hid (by rw [dgE, if_pos h1, (rhx h2 h3 _).1])
  have HP : Hid (dgP l = Pp.zero) := hid (by rw [dgP, if_pos h1, (rhx h2 h3 _).2])
  have H2 := hid h2
  have H3 := hid h3
  clear h1 h2 h3
  clear hl ho hV
  go_enter Tryz.func16, Tryz.ntmps16
  go_upto_region 1 with fail
  generalize w.alloc (.cells Pv.zero.cs 41) = w1 at *
  go_wp2_with fail
  refine (hdrDecode_any a n cap l _ L1.out HO.out).mono ?_
  rintro e w2 ⟨v2, rfl, hown, hb⟩
  have R2 := hid (R1.out.below hb)
  have B2 := hid (bthen B1.out hb)
  have V2 := hid (V1.out.below hb)
  obtain ⟨a2, k2, rfl, hl2, _⟩ := owns_lies hown
  have L2 := hid hl2
  clear hb hown hl2 R1 B1 V1 L1
  rw [HE0.out]
  generalize decV l = h at *
  generalize decR l = X at *
  generalize hxn : X.length = xn at *
  have HXN := hid hxn
  clear hxn
  have Z3 := hid (layHd_new w2 h)
  have b3 := layHd_below w2 35 h
  have R3 := hid (R2.out.below b3)
  have B3 := hid (bthen B2.out b3)
  have V3 := hid (V2.out.below b3)
  have T3 : Hid (Txt.ok ((w2.alloc (.cells Hd.zero.cs 35)).setRow w2.heap.size h.cs) ⟨a2, xn, k2, X⟩) := hid ⟨L2.out.below b3, HRo.out⟩
  clear b3 R2 B2 V2 L2
  go_upto_region 2 with (refine stHd _ _ rfl rfl w2.heap.size h HVk.out rfl rfl 35 Hd.zero Hd.zero_ok (Row.new w2 35 _) ?_)
  generalize (w2.alloc (.cells Hd.zero.cs 35)).setRow w2.heap.size h.cs = w3 at *
  generalize w2.heap.size = g2 at *
  go_wp2_with (first
    | (refine ldHoH _ rfl rfl g2 0 rfl h HVk.out Z3.out.part ?_)
    | (refine bdRd _ _ rfl rfl h ⟨a2, xn, k2, X⟩ HVk.out rfl rfl ?_))
  refine (readerx h ⟨a2, xn, k2, X⟩ HVk.out _ H2.out H3.out).mono ?_
  rintro e w4 ⟨rfl, hb⟩
  have R4 := hid (R3.out.below hb)
  have B4 := hid (bthen B3.out hb)
  have V4 := hid (V3.out.below hb)
  have T4 := hid (T3.out.below hb)
  clear hb R3 B3 V3 T3 Z3
  go_wp2_with fail
  refine (unknown_any h ⟨a2, xn, k2, X⟩ HVk.out _).mono ?_
  rintro e w5 ⟨P, rfl, hpo, hpp, hb5⟩
  have hb := hb5.out
  have R5 := hid (R4.out.below hb)
  have B5 := hid (bthen B4.out hb)
  have P5 := hid (hpo.out.mono B4.out.size)
  have HPp : Hid (P.p = dgP l) := hid (by rw [HP.out]; exact hpp.out)
  have HPf := hid hpo.out.ok.fit
  clear hb hb5 hpo hpp R4 B4 V4 T4
  go_wp2_with (refine stP ptP _ _ rfl rfl w.heap.size P HPf.out rfl rfl 41 Pv.zero Pv.zero_fit R5.out ?_)
  refine bodyPost_ret (resPe ptP rfl _ _ w.heap.size 41 P HPf.out (.int .i64 (6)) rfl rfl (R5.out.setRow _)) rfl ?_
  exact ⟨P, by rw [HE.out], hid (P5.out.row R5.out (by decide) (by decide) (by decide) (grownBy_setRow _ _ _)), HPp, hid (below_setRow' B5.out (Nat.le_refl _) _)⟩
theorem dgDecode_any {B : Nat} (a : Option Addr) (n cap : Nat) (l : List Int) (w : World) (hl : Lies .u8 w a n cap l) (ho : Oct l) (hV : CV B w) :
    Calls Tryz.prog 16 #[.slice a n cap] w (DgOk w l) := by
  by_cases h1 : decE l = 0
  · by_cases h2 : (decV l).nx = 58
    · exact dgDec2 a n cap l w hl ho hV h1 h2
    · by_cases h3 : (decV l).nx = 0
      · exact dgDec3 a n cap l w hl ho hV h1 h3
      · exact dgDec4 a n cap l w hl ho hV h1 h2 h3
  · exact dgDec1 a n cap l w hl ho hV h1
end Go.Proofs.YtbklpelikaapoaaGreatDoor

namespace Go.Proofs.YtbklpelikaapoaaGreatDoor.Ad3
open Go.ChangeShapes Go.WideShapes Go.ChangeAt Go.RowKit
set_option linter.unusedVariables false
set_option linter.unusedSimpArgs false

/-- Bytes as cells. -/
def u8s (l : List Int) : Array Value := (l.map (Value.int .u8)).toArray
theorem u8s_size (l : List Int) : (u8s l).size = l.length := by simp [u8s]
theorem u8s_at (l : List Int) (j : Nat) (h : j < l.length) : (u8s l)[j]? = some (.int .u8 (l.getD j 0)) := by simp [u8s, h]
theorem u8s_set (l : List Int) (j : Nat) (x : Int) : (u8s l).setIfInBounds j (.int .u8 x) = u8s (l.set j x) := by simp [u8s, List.map_set]
theorem u8s_one (l : List Int) : (u8s l).all (·.oneCell') = true := by simp [u8s, Value.oneCell']
/-- Numbers as cells. -/
def i64s (l : List Int) : Array Value := (l.map (Value.int .i64)).toArray
/-- A prefix as cells: an address and how many bits count. -/
def pfx (l : List Int) (bits : Int) : Array Value := (u8s l).push (.int .i64 bits)
theorem pfx_size (l : List Int) (bits : Int) : (pfx l bits).size = l.length + 1 := by simp [pfx, u8s]
/-- A block of cells that is not frozen. -/
def Row (w : World) (b : Nat) (t : TypeId) (c : Array Value) : Prop := w.heap[b]? = some (.cells c t (0, 0))
section
variable {w w' : World} {b : Nat} {t : TypeId} {c : Array Value}
theorem Row.cell (h : Row w b t c) (j : Nat) : w.cell? ⟨b, j, none⟩ = c[j]? := cell_of_row w b j c t (0, 0) h
theorem Row.frozen (h : Row w b t c) (j : Nat) : w.frozen? ⟨b, j, none⟩ = false := frozen_of_row w b j c t h
theorem Row.lt (h : Row w b t c) : b < w.heap.size := (Array.getElem?_eq_some_iff.1 h).1
theorem Row.new (w : World) (t : TypeId) (c : Array Value) : Row (w.alloc (.cells c t)) w.heap.size t c := Go.heap_alloc_new w _
theorem Row.alloc (h : Row w b t c) (o : Obj) : Row (w.alloc o) b t c := (Below.heap_alloc w o b h.lt).trans h
theorem Row.drewN (h : Row w b t c) (q : Nat) : Row (w.drewN q) b t c := h
theorem Row.drew (h : Row w b t c) : Row w.drew b t c := h
theorem Row.below {B : Nat} (h : Row w b t c) (hb : Below B w w') (hB : b < B) : Row w' b t c := (hb.block b hB).trans h
theorem Row.set (h : Row w b t c) (j : Nat) (v : Value) : Row (w.setCell ⟨b, j, none⟩ v) b t (c.setIfInBounds j v) := Go.heap_setCell_same w b j c t v h
theorem Row.other (h : Row w b t c) (a : Addr) (v : Value) (hb : b ≠ a.block) : Row (w.setCell a v) b t c := (Go.heap_setCell_other w a b v hb).trans h
theorem Row.setRow (h : Row w b t c) (c' : Array Value) : Row (w.setRow b c') b t c' := setRow_heap w b c c' t (0, 0) h
theorem Row.rowOther (h : Row w b t c) (g : Nat) (c' : Array Value) (hb : b ≠ g) : Row (w.setRow g c') b t c := (setRow_other w g b c' hb).trans h
theorem Row.as (h : Row w b t c) {c' : Array Value} (e : c = c') : Row w b t c' := e ▸ h
end
theorem below_setRow {B : Nat} {a w : World} (h : Below B a w) {g : Nat} (hg : B ≤ g) (c : Array Value) : Below B a (w.setRow g c) :=
  ⟨h.os, h.tape, h.output, by rw [setRow_size]; exact h.size, fun k hk => (setRow_other w g k c (by omega)).trans (h.block k hk)⟩

/-- Cells from a place on. -/
def Part (w : World) (b off : Nat) (c : Array Value) : Prop := ∀ j v, c[j]? = some v → w.cell? ⟨b, off + j, none⟩ = some v
theorem Row.part {w : World} {b : Nat} {t : TypeId} {c : Array Value} (h : Row w b t c) : Part w b 0 c := fun j v hv => by rw [Nat.zero_add, h.cell]; exact hv
theorem Row.pre {w : World} {b : Nat} {t : TypeId} {l : List Int} {n : Int} (h : Row w b t (pfx l n)) : Part w b 0 (u8s l) := fun j v hv => by
  rw [Nat.zero_add, h.cell, pfx, Array.getElem?_push]
  have : j < (u8s l).size := (Array.getElem?_eq_some_iff.1 hv).1
  rw [if_neg (by omega)]; exact hv
theorem Row.bits {w : World} {b : Nat} {t : TypeId} {l : List Int} {n : Int} (h : Row w b t (pfx l n)) (hl : l.length = 16) : w.cell? ⟨b, 16, none⟩ = some (.int .i64 n) := by
  rw [h.cell, pfx, Array.getElem?_push, u8s_size, if_pos hl.symm]
theorem Part.below {w w' : World} {b off B : Nat} {c : Array Value} (h : Part w b off c) (hb : Below B w w') (hB : b < B) : Part w' b off c := fun j v hv => (hb.cell (p := ⟨b, off + j, none⟩) hB).trans (h j v hv)
theorem Part.drewN {w : World} {b off : Nat} {c : Array Value} (h : Part w b off c) (q : Nat) : Part (w.drewN q) b off c := h

theorem run_loadVar_part {P : Program} (w : World) (g off : Nat) (ty : TypeId) (cs : Array Value) (d : TypeDesc) (hg : Part w g off cs)
    (hu : P.underlying ty = some d) (hd : (match d with | .struct _ | .array _ _ => true | _ => false) = true) (hi : (P.info? ty).map (·.size) = some cs.size) :
    (loadVar ty ⟨g, off, none⟩).run P w = .ok (.agg cs) w := by
  have hl : (loadCells ⟨g, off, none⟩ cs.toList.length).run P w = .ok cs.toList.toArray w :=
    run_loadCells_list (P := P) w ⟨g, off, none⟩ cs.toList (fun j v hv => by
      have hadd : (⟨g, off, none⟩ : Addr).add j = ⟨g, off + j, none⟩ := by unfold Addr.add; split <;> simp_all
      rw [hadd]
      exact hg j v (by simpa using hv))
  cases hq : P.info? ty with
  | none => simp [hq] at hi
  | some i =>
    have hs : i.size = cs.size := by simpa [hq] using hi
    have hagg : (isAgg ty).run P w = .ok true w := by
      unfold isAgg
      rw [Sem.run_bind, run_underlying hu w]
      cases d <;> simp_all
    simp only [Array.length_toList, Array.toArray_toList] at hl
    simp [loadVar, Sem.run_bind, hagg, sizeOf, typeInfo, hq, hs, hl]

/-- A load of a whole array or struct, guarded or not. -/
theorem wp_ld {P : Program} {ops : Array Oper} {rest : List Oper} {o : Oper} {a : Act} {w : World} {Q : Exit → Act → World → Prop} (ty : TypeId) (x : Operand) (ho : o.op = .load ty x)
    (hw : Region.wanted o (yielded ops a.tmps) = true) (g off : Nat) (hx : a.eval x = .pointer (some ⟨g, off, none⟩)) (cs : Array Value) (d : TypeDesc)
    (hu : P.underlying ty = some d) (hd : (match d with | .struct _ | .array _ _ => true | _ => false) = true) (hi : (P.info? ty).map (·.size) = some cs.size) (hg : Part w g off cs)
    (h : wpList P ops Q rest (a.put o.dst (.agg cs)) w) : wpList P ops Q (o :: rest) a w :=
  wpList_step fun K hK => by
    rw [if_pos hw]
    unfold Oper.wp execOp
    simp only [ho, hx, Instr.loadAt, Instr.sureAddr, Sem.run_bind, Sem.run_pure, Result.andThen_ok, run_loadVar_part w g off ty cs d hg hu hd hi]
    exact hK _ _ h

/-- A store of a whole array or struct. -/
theorem wp_st {P : Program} {ops : Array Oper} {rest : List Oper} {o : Oper} {a : Act} {w : World} {Q : Exit → Act → World → Prop} (ty : TypeId) (x y : Operand) (ho : o.op = .store ty x y)
    (hgd : o.guard = none) (g : Nat) (cells : Array Value) (hx : a.eval x = .pointer (some ⟨g, 0, none⟩)) (hy : a.eval y = .agg cells)
    (hi : (P.info? ty).map (·.size) = some cells.size) (h1 : cells.all (·.oneCell') = true) (t : TypeId) (old : Array Value) (hold : old.size = cells.size) (hg : Row w g t old)
    (h : wpList P ops Q rest (a.put o.dst undef) (w.setRow g cells)) : wpList P ops Q (o :: rest) a w :=
  wpList_store_row hgd ty x y ho g cells hx hy t old hg hi hold h1 h

theorem size25 : (Tryz.prog.info? 33).map (·.size) = some 16 := by kernel_rfl
theorem size42 : (Tryz.prog.info? 125).map (·.size) = some 17 := by kernel_rfl
section
variable {ops : Array Oper} {rest : List Oper} {o : Oper} {a : Act} {w : World} {Q : Exit → Act → World → Prop}
/-- A load of an address. -/
theorem ld25 (x : Operand) (ho : o.op = .load 33 x) (hw : Region.wanted o (yielded ops a.tmps) = true) (g off : Nat) (hx : a.eval x = .pointer (some ⟨g, off, none⟩)) (l : List Int) (hl : l.length = 16) (hg : Part w g off (u8s l))
    (h : wpList Tryz.prog ops Q rest (a.put o.dst (.agg (u8s l))) w) : wpList Tryz.prog ops Q (o :: rest) a w :=
  wp_ld 33 x ho hw g off hx (u8s l) _ Tryz.underlying33 rfl (by rw [u8s_size, hl]; exact size25) hg h
theorem ld42 (x : Operand) (ho : o.op = .load 125 x) (hw : Region.wanted o (yielded ops a.tmps) = true) (g off : Nat) (hx : a.eval x = .pointer (some ⟨g, off, none⟩)) (l : List Int) (n : Int) (hl : l.length = 16) (hg : Part w g off (pfx l n))
    (h : wpList Tryz.prog ops Q rest (a.put o.dst (.agg (pfx l n))) w) : wpList Tryz.prog ops Q (o :: rest) a w :=
  wp_ld 125 x ho hw g off hx (pfx l n) _ Tryz.underlying125 rfl (by rw [pfx_size, hl]; exact size42) hg h
theorem st25 (x y : Operand) (ho : o.op = .store 33 x y) (hgd : o.guard = none) (g : Nat) (l : List Int) (hl : l.length = 16) (hx : a.eval x = .pointer (some ⟨g, 0, none⟩)) (hy : a.eval y = .agg (u8s l)) (t : TypeId) (old : Array Value) (hold : old.size = 16) (hg : Row w g t old)
    (h : wpList Tryz.prog ops Q rest (a.put o.dst undef) (w.setRow g (u8s l))) : wpList Tryz.prog ops Q (o :: rest) a w :=
  wp_st 33 x y ho hgd g (u8s l) hx hy (by rw [u8s_size, hl]; exact size25) (u8s_one l) t old (by rw [u8s_size, hl, hold]) hg h
end

theorem res25 {fn : Func} {p : Tmp} (h : fn.results = #[.cell p 33]) (tmps : Array Value) (w : World) (g : Nat) (t : TypeId) (l : List Int) (hl : l.length = 16)
    (hp : tmps.getD p undef = .pointer (some ⟨g, 0, none⟩)) (hg : Row w g t (u8s l)) : (results fn tmps).run Tryz.prog w = .ok (.agg (u8s l)) w :=
  results_cell_row h tmps w g t (u8s l) (0, 0) _ hp hg Tryz.underlying33 rfl (by rw [u8s_size, hl]; exact size25)
theorem res25e {fn : Func} {p u : Tmp} (h : fn.results = #[.cell p 33, .tmp u]) (tmps : Array Value) (w : World) (g : Nat) (t : TypeId) (l : List Int) (hl : l.length = 16) (v : Value)
    (hp : tmps.getD p undef = .pointer (some ⟨g, 0, none⟩)) (hu : tmps.getD u undef = v) (hg : Row w g t (u8s l)) : (results fn tmps).run Tryz.prog w = .ok (.tuple #[.agg (u8s l), v]) w := by
  rw [results_cell_tmp h]
  have hp' : tmps[p]?.getD undef = .pointer (some ⟨g, 0, none⟩) := by simpa using hp
  have hu' : tmps[u]?.getD undef = v := by simpa using hu
  simp [hp', hu', asAddr, run_loadVar_row w g t 33 (u8s l) (0, 0) _ hg Tryz.underlying33 rfl (by rw [u8s_size, hl]; exact size25)]
theorem info5 : (Tryz.prog.info? 5).isSome = true := by kernel_rfl
theorem eqItems_u8 (w : World) (l m : List Int) (h : l.length = m.length) : ∀ (is : List Nat), (∀ i ∈ is, i < l.length) →
    (Op.eqItems 9999 5 (Tryz.prog.cellsOf 5) (u8s l) (u8s m) is).run Tryz.prog w = .ok (is.all fun i => l.getD i 0 == m.getD i 0) w
  | [], _ => by simp [Op.eqItems]
  | i :: is, hi => by
    have h1 : Tryz.prog.cellsOf 5 = 1 := by kernel_rfl
    have hil : i < l.length := hi i (by simp)
    have ih := eqItems_u8 w l m h is (fun j hj => hi j (by simp [hj]))
    have hp : ∀ l' : List Int, i < l'.length → (part 5 (u8s l') (i * 1)).run Tryz.prog w = .ok (.int .u8 (l'.getD i 0)) w := by
      intro l' hl'
      have hagg : (isAgg 5).run Tryz.prog w = .ok false w := by unfold isAgg; rw [Sem.run_bind, run_underlying Tryz.underlying5 w]; rfl
      simp only [part, Sem.run_bind, hagg, Result.andThen_ok, Bool.false_eq_true, if_false, Nat.mul_one, u8s_at l' i hl', Sem.run_pure]
    simp only [Op.eqItems, Sem.run_bind, h1, hp l hil, hp m (by omega), Result.andThen_ok, run_equalIn_int (P := Tryz.prog) w 9998 5 .u8 .u8 (l.getD i 0) (m.getD i 0) Tryz.underlying5]
    rw [h1] at ih
    cases hb : (l.getD i 0 == m.getD i 0)
    · simp only [List.all_cons, hb, Bool.false_and, Bool.not_false, if_true, Sem.run_pure]
    · simp only [List.all_cons, hb, Bool.true_and, Bool.not_true, Bool.false_eq_true, if_false]; exact ih

theorem all_eq (l m : List Int) (n : Nat) (hl : l.length = n) (hm : m.length = n) : ((List.range n).all fun i => l.getD i 0 == m.getD i 0) = (l == m) := by
  rw [Bool.eq_iff_iff]
  simp only [List.all_eq_true, List.mem_range, beq_iff_eq]
  constructor
  · intro h
    apply List.ext_getElem (by omega)
    intro i h1 h2
    have := h i (by omega)
    simpa [h1, h2] using this
  · rintro rfl i _; rfl

theorem eq25 (l m : List Int) (hl : l.length = 16) (hm : m.length = 16) : ∀ w : World, (Op.equalIn 10000 33 (.agg (u8s l)) (.agg (u8s m))).run Tryz.prog w = .ok (l == m) w := fun w => by
  obtain ⟨i, hi⟩ := Option.isSome_iff_exists.1 info5
  rw [run_equalIn_array w 9999 (u8s l) (u8s m) Tryz.underlying33 hi, eqItems_u8 w l m (by omega) _ (by intro i hi; simp at hi; omega), all_eq l m 16 hl hm]
end Go.Proofs.YtbklpelikaapoaaGreatDoor.Ad3

namespace Go.Proofs.YtbklpelikaapoaaGreatDoor.Ad3
open Go.ChangeShapes Go.WideShapes Go.ChangeAt Go.RowKit
set_option linter.unusedVariables false
set_option linter.unusedSimpArgs false

theorem and_all : ((List.range 256).all fun n => (List.range 9).all fun s => decide (Go.bits BinOp.and IntKind.u8 (n : Int) ((255 * 2 ^ s % 256 : Nat) : Int) = (n : Int) - ((n % 2 ^ s : Nat) : Int))) = true := by kernel_rfl
theorem bits_and_u8 (x : Int) (h0 : 0 ≤ x) (h1 : x < 256) (s : Nat) (hs : s < 9) : Go.bits BinOp.and IntKind.u8 x ((255 * 2 ^ s % 256 : Nat) : Int) = x - x % (2 ^ s : Nat) := by
  have := List.all_eq_true.1 (List.all_eq_true.1 and_all x.toNat (by simp; omega)) s (by simp; omega)
  rw [decide_eq_true_iff] at this
  have hx : ((x.toNat : Nat) : Int) = x := by omega
  rw [hx] at this
  rw [this, Int.natCast_emod, hx]

/-- The bytes of an address. -/
def Adr (l : List Int) : Prop := l.length = 16 ∧ ∀ x ∈ l, 0 ≤ x ∧ x < 256

/-- How many low bits of byte i are struck. -/
def low (bits : Int) (i : Nat) : Nat := (8 - min (max (bits - 8 * i) 0) 8).toNat
/-- The bits of one byte that are kept. -/
def cutAt (bits : Int) (i : Nat) (x : Int) : Int := x - x % (2 ^ low bits i : Nat)
def cutL (bits : Int) (l : List Int) : List Int := l.mapIdx (cutAt bits)
theorem cutL_len (bits : Int) (l : List Int) : (cutL bits l).length = l.length := by simp [cutL]
theorem getD_mem {l : List Int} {k : Nat} (h : k < l.length) : l.getD k 0 ∈ l := by simp [h]

/-- One more byte is cut. -/
theorem cut_next (bits : Int) (l : List Int) (k : Nat) (h : k < l.length) :
    ((cutL bits l).take k ++ l.drop k).set k (cutAt bits k (l.getD k 0)) = (cutL bits l).take (k + 1) ++ l.drop (k + 1) := by
  have hc : (cutL bits l).length = l.length := cutL_len bits l
  apply List.ext_getElem (by simp; omega)
  intro i h1 h2
  rw [List.getElem_set]
  by_cases hik : k = i
  · subst hik
    rw [if_pos rfl, List.getElem_append_left (by simp; omega)]
    simp [cutL, h]
  · rw [if_neg hik]
    by_cases hi : i < k
    · rw [List.getElem_append_left (by simp; omega), List.getElem_append_left (by simp; omega)]; simp
    · rw [List.getElem_append_right (by simp; omega), List.getElem_append_right (by simp; omega)]
      simp only [List.getElem_drop]
      congr 1; simp; omega
theorem cut_at (bits : Int) (l : List Int) (k : Nat) (h : k < l.length) : ((cutL bits l).take k ++ l.drop k).getD k 0 = l.getD k 0 := by
  have hc : (cutL bits l).length = l.length := cutL_len bits l
  rw [List.getD_eq_getElem?_getD, List.getElem?_append_right (by simp; omega)]
  simp; congr 2; omega

theorem ret_bool {a b : Bool} (h : a = b) : Ending.returned (.bool a) = .returned (.bool b) := by rw [h]
/-- May there be so many bits? -/
def bitsB (n : Int) : Bool := decide (0 ≤ n ∧ n ≤ 128)
theorem bitsB_yes {n : Int} (h : bitsB n = true) : 0 ≤ n ∧ n ≤ 128 := by simpa [bitsB] using h
theorem bitsB_no {n : Int} (h : bitsB n = false) : n < 0 ∨ 128 < n := by simp [bitsB] at h; omega

theorem isBits_any (n : Int) (w : World) : Calls Tryz.prog 142 #[.int .i64 n] w fun e w' => e = .returned (.bool (bitsB n)) ∧ w' = w := by
  cases h : bitsB n
  · rcases bitsB_no h with h0 | h0
    · have h3 : decide (0 ≤ n) = false := by simp; omega
      clear h
      go_enter Tryz.func142, Tryz.ntmps142
      go_wp2
      go_ret
      exact ⟨rfl, rfl⟩
    · have h3 : 0 ≤ n := by omega
      have h4 : decide (n ≤ 128) = false := by simp; omega
      clear h
      go_enter Tryz.func142, Tryz.ntmps142
      go_wp2
      go_ret
      exact ⟨rfl, rfl⟩
  · obtain ⟨h0, h1⟩ := bitsB_yes h
    clear h
    go_enter Tryz.func142, Tryz.ntmps142
    go_wp2
    go_ret
    exact ⟨rfl, rfl⟩

set_option maxHeartbeats 1600000 in
theorem cut_any (l : List Int) (bits : Int) (w : World) (ha : Adr l) (h0 : 0 ≤ bits) (h1 : bits ≤ 128) :
    Calls Tryz.prog 143 #[.agg (u8s l), .int .i64 bits] w fun e w' => e = .returned (.agg (u8s (cutL bits l))) ∧ Below w.heap.size w w' := by
  obtain ⟨hl, hv⟩ := ha
  have HV : Hid (∀ x ∈ l, 0 ≤ x ∧ x < 256) := hv
  have HL : Hid (l.length = 16) := hl
  clear hv hl
  go_enter Tryz.func143, Tryz.ntmps143
  go_wp2
  go_loopw [7] (fun i wr => ∃ k : Nat, k ≤ 16 ∧ i = .int .i64 k ∧ Hid (Row wr w.heap.size 33 (u8s ((cutL bits l).take k ++ l.drop k))) ∧ Hid (Row wr (w.heap.size + 1) 33 (u8s (List.replicate 16 0))) ∧ Below w.heap.size w wr)
    (fun i _ => 16 - (intOf i).toNat)
  case atStart =>
    refine ⟨0, Nat.zero_le _, rfl, ?_, ?_, by go_grown⟩
    · show Row _ _ _ _
      simpa using (Row.new w 33 (u8s l)).alloc _
    · show Row _ _ _ _
      have := Row.new (w.alloc (.cells (u8s l) 33)) 33 (u8s (List.replicate 16 0))
      rw [World.size_alloc] at this
      exact this
  case round =>
    obtain ⟨k, hk, rfl, HA, HR, hb⟩ := hrel
    by_cases hlt : k < 16
    · have hkl : k < l.length := by rw [HL.out]; exact hlt
      have hcell : wr.cell? ⟨w.heap.size, k, none⟩ = some (.int .u8 (l.getD k 0)) := by
        rw [HA.out.cell, u8s_at _ _ (by have := cutL_len bits l; simp; omega), cut_at bits l k hkl]
      have hfz := HA.out.frozen k
      have hx := HV.out _ (getD_mem hkl)
      have HN : Hid (∀ y, y = cutAt bits k (l.getD k 0) → Row (wr.setCell ⟨w.heap.size, k, none⟩ (.int .u8 y)) w.heap.size 33 (u8s ((cutL bits l).take (k + 1) ++ l.drop (k + 1)))) := by
        rintro y rfl; rw [← cut_next bits l k hkl, ← u8s_set]; exact HA.out.set k _
      clear hkl
      generalize l.getD k 0 = x at *
      have c : bits - 8 * (k : Int) < 0 ∨ 8 < bits - 8 * (k : Int) ∨ bits - 8 * (k : Int) = 0 ∨ bits - 8 * (k : Int) = 1 ∨ bits - 8 * (k : Int) = 2 ∨ bits - 8 * (k : Int) = 3 ∨ bits - 8 * (k : Int) = 4 ∨ bits - 8 * (k : Int) = 5 ∨ bits - 8 * (k : Int) = 6 ∨ bits - 8 * (k : Int) = 7 ∨ bits - 8 * (k : Int) = 8 := by omega
      have hlw : low bits k = (8 - min (max (bits - 8 * k) 0) 8).toNat := rfl
      have hct : cutAt bits k x = x - x % (2 ^ low bits k : Nat) := rfl
      rcases c with c | c | c | c | c | c | c | c | c | c | c
      all_goals
        have HE : Hid (low bits k = (8 - min (max (bits - 8 * k) 0) 8).toNat ∧ cutAt bits k x = x - x % (2 ^ low bits k : Nat)) := ⟨hlw, hct⟩
        clear hlw hct
        try (have c' : (if bits - 8 * (k : Int) < 0 then 0 else bits - 8 * (k : Int)) = 0 := if_pos c)
        try (have c' : ¬ bits - 8 * (k : Int) < 0 := by omega
             have c'' : ¬ bits - 8 * (k : Int) ≤ 8 := by omega)
        go_wp2
        go_region
        go_wp2
        go_roundw
        case rel =>
          refine ⟨k + 1, by omega, by go_num, HN.out _ ?_, HR.out.other _ _ (by simp), (hb.setCell (Nat.le_refl _) _).drew⟩
          obtain ⟨e1, e2⟩ := HE.out
          first
            | (have e3 : low bits k = 8 := by omega
               rw [e2, e3]; exact bits_and_u8 x hx.1 hx.2 8 (by omega))
            | (have e3 : low bits k = 7 := by omega
               rw [e2, e3]; exact bits_and_u8 x hx.1 hx.2 7 (by omega))
            | (have e3 : low bits k = 6 := by omega
               rw [e2, e3]; exact bits_and_u8 x hx.1 hx.2 6 (by omega))
            | (have e3 : low bits k = 5 := by omega
               rw [e2, e3]; exact bits_and_u8 x hx.1 hx.2 5 (by omega))
            | (have e3 : low bits k = 4 := by omega
               rw [e2, e3]; exact bits_and_u8 x hx.1 hx.2 4 (by omega))
            | (have e3 : low bits k = 3 := by omega
               rw [e2, e3]; exact bits_and_u8 x hx.1 hx.2 3 (by omega))
            | (have e3 : low bits k = 2 := by omega
               rw [e2, e3]; exact bits_and_u8 x hx.1 hx.2 2 (by omega))
            | (have e3 : low bits k = 1 := by omega
               rw [e2, e3]; exact bits_and_u8 x hx.1 hx.2 1 (by omega))
            | (have e3 : low bits k = 0 := by omega
               rw [e2, e3]; exact bits_and_u8 x hx.1 hx.2 0 (by omega))
        case measure => simp [intOf]; omega
    · obtain rfl : k = 16 := by omega
      have hcl : (cutL bits l).length = 16 := by rw [cutL_len]; exact HL.out
      have hA : Row wr w.heap.size 33 (u8s (cutL bits l)) := HA.out.as (by rw [List.take_of_length_le (by omega), List.drop_of_length_le (by rw [HL.out]; omega), List.append_nil])
      have hR : Row wr (w.heap.size + 1) 33 (u8s (List.replicate 16 0)) := HR.out
      go_wp2_with (first
        | (refine ld25 _ rfl rfl w.heap.size 0 rfl (cutL bits l) hcl hA.part ?_)
        | (refine st25 _ _ rfl rfl (w.heap.size + 1) (cutL bits l) hcl rfl rfl 33 _ (by simp [u8s_size]) hR ?_))
      refine bodyPost_ret (res25 rfl _ _ _ 33 (cutL bits l) hcl rfl (hR.setRow _)) rfl ⟨rfl, ?_⟩
      exact below_setRow hb (by omega) _
end Go.Proofs.YtbklpelikaapoaaGreatDoor.Ad3

namespace Go.Proofs.YtbklpelikaapoaaGreatDoor.Ad3
open Go.ChangeShapes Go.WideShapes Go.ChangeAt Go.RowKit
set_option linter.unusedVariables false
set_option linter.unusedSimpArgs false

/-- Bytes as a list of cells. -/
def cl (l : List Int) : List Value := l.map (Value.int .u8)
theorem cl_arr (l : List Int) : (cl l).toArray = u8s l := rfl
theorem cl_len (l : List Int) : (cl l).length = l.length := by simp [cl]
theorem Part.range {w : World} {b off : Nat} {l : List Int} (h : Part w b off (u8s l)) : w.rangeAt b off (cl l) := fun j v hv => h j v (by simpa [u8s, cl] using hv)
theorem range_below {w w' : World} {B b off : Nat} {l : List Value} (h : w.rangeAt b off l) (hb : Below B w w') (hB : b < B) : w'.rangeAt b off l := fun j v hv => (hb.cell (p := ⟨b, off + j, none⟩) hB).trans (h j v hv)
theorem below_drewN {B : Nat} {a w : World} (h : Below B a w) (q : Nat) : Below B a (w.drewN q) := ⟨h.os, h.tape, h.output, h.size, h.block⟩
theorem below_new (w : World) (o : Obj) : Below w.heap.size w (w.alloc o) := (Below.refl _ _).alloc (Nat.le_refl _) o
theorem below_new2 (w : World) (o o' : Obj) : Below w.heap.size w ((w.alloc o).alloc o') := (below_new w o).alloc (by simp) o'
/-- Has a prefix an address? -/
def hasB (p : List Int) (n : Int) (a : List Int) : Bool := bitsB n && cutL n a == p

set_option maxRecDepth 1000000 in
set_option maxHeartbeats 1600000 in
theorem has_any (p : List Int) (n : Int) (l : List Int) (w : World) (hp : Adr p) (ha : Adr l) :
    Calls Tryz.prog 130 #[.agg (pfx p n), .agg (u8s l)] w fun e w' => e = .returned (.bool (hasB p n l)) ∧ Below w.heap.size w w' := by
  have hR : Row ((w.alloc (.cells (pfx p n) 125)).alloc (.cells (u8s l) 33)) w.heap.size 125 (pfx p n) := (Row.new w 125 _).alloc _
  have hbt := hR.bits hp.1
  cases h : bitsB n
  · have hh : hasB p n l = false := by simp [hasB, h]
    go_enter Tryz.func130, Tryz.ntmps130
    go_wp2
    clear hp ha hR
    go_quiet ((go_at_call 142; exact Calls.quiet_of_same ((isBits_any _ _).mono (by rintro e w ⟨rfl, rfl⟩; exact ⟨by rw [h], rfl⟩))))
    go_wp2
    go_ret
    exact ⟨ret_bool hh.symm, below_drewN (below_new2 w _ _) _⟩
  · have hR2 : Row ((w.alloc (.cells (pfx p n) 125)).alloc (.cells (u8s l) 33)) (w.heap.size + 1) 33 (u8s l) := by simpa using Row.new (w.alloc (.cells (pfx p n) 125)) 33 (u8s l)
    have hq := eq25 (cutL n l) p (by rw [cutL_len]; exact ha.1) hp.1
    have r1 : ((w.alloc (.cells (pfx p n) 125)).alloc (.cells (u8s l) 33)).rangeAt w.heap.size 0 (cl p) := hR.pre.range
    have r2 : ((w.alloc (.cells (pfx p n) 125)).alloc (.cells (u8s l) 33)).rangeAt (w.heap.size + 1) 0 (cl l) := hR2.part.range
    have s1 : (Tryz.prog.info? 33).map (·.size) = some (cl p).length := by rw [cl_len, hp.1]; exact size25
    have s2 : (Tryz.prog.info? 33).map (·.size) = some (cl l).length := by rw [cl_len, ha.1]; exact size25
    have hu := Tryz.underlying33
    have f1 := cl_arr p
    have f2 := cl_arr l
    have HA : Hid (Adr l) := ha
    have HB : Hid (0 ≤ n ∧ n ≤ 128) := bitsB_yes h
    have HH : Hid (bitsB n = true) := h
    clear hp ha hR hR2 h
    go_enter Tryz.func130, Tryz.ntmps130
    go_wp2
    refine wp_region_held_drew (S := (fun w' => w'.rangeAt w.heap.size 0 (cl p) ∧ w'.rangeAt (w.heap.size + 1) 0 (cl l) ∧ w'.cell? ⟨w.heap.size, 16, none⟩ = some (.int .i64 n))) (by kernel_rfl) ?_ (fun hHeld => ?_)
    · exact ⟨r1, r2, hbt⟩
    refine wpAnyH_take (i := 0) (oi := _) (v := ?v0) rfl (by kernel_rfl) (by kernel_rfl) (by kernel_rfl) (fun _ _ _ h => h) (Or.inl ⟨by rfl, ?hy0⟩) (by assumption) ?rest0
    case hy0 => (intro w hSw; (try dsimp only at hSw); go_split_ands; go_simp; try (with_reducible rfl))
    try simp only [List.getElem_toArray, List.getElem_cons_zero, List.getElem_cons_succ, Act.put, List.setIfInBounds_toArray, List.set_cons_zero, List.set_cons_succ]
    refine wpAnyH_take (i := 1) (oi := _) (v := ?v1) rfl (by kernel_rfl) (by kernel_rfl) (by kernel_rfl) (fun _ _ _ h => h) (Or.inl ⟨by rfl, ?hy1⟩) (by assumption) ?rest1
    case hy1 => (intro w hSw; (try dsimp only at hSw); go_split_ands; go_simp; try (with_reducible rfl))
    try simp only [List.getElem_toArray, List.getElem_cons_zero, List.getElem_cons_succ, Act.put, List.setIfInBounds_toArray, List.set_cons_zero, List.set_cons_succ]
    refine wpAnyH_ready (rs := [2]) (by kernel_rfl) (by simp) ?_
    refine AllReadyH.cons (o := _) rfl (fun K hK => ?_) AllReadyH.nil
    go_simp
    refine (isBits_any _ _).mono ?_; rintro e w1 ⟨rfl, rfl⟩; rw [HH.out]
    go_wp2_with fail
    refine hK.out _ _ hHeld (fun hHeld => ?_)
    clear hK K
    try simp only [Act.put, List.setIfInBounds_toArray, List.set_cons_zero, List.set_cons_succ]
    refine wpAnyH_take (i := 3) (oi := _) (v := ?v3) rfl (by kernel_rfl) (by kernel_rfl) (by kernel_rfl) (fun _ _ _ h => h) (Or.inl ⟨by rfl, ?hy3⟩) (by assumption) ?rest3
    case hy3 => (intro w hSw; (try dsimp only at hSw); go_split_ands; go_simp; try (with_reducible rfl))
    try simp only [List.getElem_toArray, List.getElem_cons_zero, List.getElem_cons_succ, Act.put, List.setIfInBounds_toArray, List.set_cons_zero, List.set_cons_succ]
    refine wpAnyH_take (i := 4) (oi := _) (v := .agg (u8s l)) rfl (by kernel_rfl) (by kernel_rfl) (by kernel_rfl) (fun _ _ _ h => h) (yieldsIf_load_mid (by rfl) 33 _ rfl (w.heap.size + 1) 0 rfl (cl l) _ (fun w h => h.2.1) Tryz.underlying33 rfl s2) (by assumption) ?_
    try simp only [List.getElem_toArray, List.getElem_cons_zero, List.getElem_cons_succ, Act.put, List.setIfInBounds_toArray, List.set_cons_zero, List.set_cons_succ]
    refine wpAnyH_take (i := 5) (oi := _) (v := ?v5) rfl (by kernel_rfl) (by kernel_rfl) (by kernel_rfl) (fun _ _ _ h => h) (Or.inl ⟨by rfl, ?hy5⟩) (by assumption) ?rest5
    case hy5 => (intro w hSw; (try dsimp only at hSw); go_split_ands; go_simp; try (with_reducible rfl))
    try simp only [List.getElem_toArray, List.getElem_cons_zero, List.getElem_cons_succ, Act.put, List.setIfInBounds_toArray, List.set_cons_zero, List.set_cons_succ]
    refine wpAnyH_take (i := 6) (oi := _) (v := ?v6) rfl (by kernel_rfl) (by kernel_rfl) (by kernel_rfl) (fun _ _ _ h => h) (Or.inl ⟨by rfl, ?hy6⟩) (by assumption) ?rest6
    case hy6 => (intro w hSw; (try dsimp only at hSw); go_split_ands; go_simp; try (with_reducible rfl))
    try simp only [List.getElem_toArray, List.getElem_cons_zero, List.getElem_cons_succ, Act.put, List.setIfInBounds_toArray, List.set_cons_zero, List.set_cons_succ]
    refine wpAnyH_take (i := 8) (oi := _) (v := ?v8) rfl (by kernel_rfl) (by kernel_rfl) (by kernel_rfl) (fun _ _ _ h => h) (Or.inl ⟨by rfl, ?hy8⟩) (by assumption) ?rest8
    case hy8 => (intro w hSw; (try dsimp only at hSw); go_split_ands; go_simp; try (with_reducible rfl))
    try simp only [List.getElem_toArray, List.getElem_cons_zero, List.getElem_cons_succ, Act.put, List.setIfInBounds_toArray, List.set_cons_zero, List.set_cons_succ]
    refine wpAnyH_take (i := 9) (oi := _) (v := .agg (u8s p)) rfl (by kernel_rfl) (by kernel_rfl) (by kernel_rfl) (fun _ _ _ h => h) (yieldsIf_load_mid (by rfl) 33 _ rfl w.heap.size 0 rfl (cl p) _ (fun w h => h.1) Tryz.underlying33 rfl s1) (by assumption) ?_
    try simp only [List.getElem_toArray, List.getElem_cons_zero, List.getElem_cons_succ, Act.put, List.setIfInBounds_toArray, List.set_cons_zero, List.set_cons_succ]
    refine wpAnyH_ready (rs := [7]) (by kernel_rfl) (by simp) ?_
    refine AllReadyH.cons (o := _) rfl (fun K hK => ?_) AllReadyH.nil
    go_simp
    refine (cut_any l n _ HA.out HB.out.1 HB.out.2).mono ?_; rintro e w2 ⟨rfl, hb2⟩; have B2 : Hid (Below (w.heap.size + 2) ((w.alloc (.cells (pfx p n) 125)).alloc (.cells (u8s l) 33)) w2) := ⟨hb2.os, hb2.tape, hb2.output, hb2.size, fun k hk => hb2.block k (by simpa using hk)⟩; clear hb2; have q1 : w2.rangeAt w.heap.size 0 (cl p) := range_below r1 B2.out (by omega); have q2 : w2.rangeAt (w.heap.size + 1) 0 (cl l) := range_below r2 B2.out (by omega); have q3 : w2.cell? ⟨w.heap.size, 16, none⟩ = some (.int .i64 n) := (B2.out.cell (p := ⟨w.heap.size, 16, none⟩) (by show w.heap.size < _; omega)).trans hbt
    go_wp2_with fail
    refine hK.out _ _ ⟨q1, q2, q3⟩ (fun hHeld => ?_)
    clear hK K
    try simp only [Act.put, List.setIfInBounds_toArray, List.set_cons_zero, List.set_cons_succ]
    refine wpAnyH_take (i := 10) (oi := _) (v := ?v10) rfl (by kernel_rfl) (by kernel_rfl) (by kernel_rfl) (fun _ _ _ h => h) (Or.inl ⟨by rfl, ?hy10⟩) (by assumption) ?rest10
    case hy10 => (intro w hSw; (try dsimp only at hSw); go_split_ands; go_simp; try (with_reducible rfl))
    try simp only [List.getElem_toArray, List.getElem_cons_zero, List.getElem_cons_succ, Act.put, List.setIfInBounds_toArray, List.set_cons_zero, List.set_cons_succ]
    refine wpAnyH_take (i := 11) (oi := _) (v := ?v11) rfl (by kernel_rfl) (by kernel_rfl) (by kernel_rfl) (fun _ _ _ h => h) (Or.inl ⟨by rfl, ?hy11⟩) (by assumption) ?rest11
    case hy11 => (intro w hSw; (try dsimp only at hSw); go_split_ands; go_simp; try (with_reducible rfl))
    try simp only [List.getElem_toArray, List.getElem_cons_zero, List.getElem_cons_succ, Act.put, List.setIfInBounds_toArray, List.set_cons_zero, List.set_cons_succ]
    refine wpAnyH_take (i := 12) (oi := _) (v := ?v12) rfl (by kernel_rfl) (by kernel_rfl) (by kernel_rfl) (fun _ _ _ h => h) (Or.inl ⟨by rfl, ?hy12⟩) (by assumption) ?rest12
    case hy12 => (intro w hSw; (try dsimp only at hSw); go_split_ands; go_simp; try (with_reducible rfl))
    try simp only [List.getElem_toArray, List.getElem_cons_zero, List.getElem_cons_succ, Act.put, List.setIfInBounds_toArray, List.set_cons_zero, List.set_cons_succ]
    refine wpAnyH_done (by kernel_rfl) ?_ _
    all_goals
      go_wp2
      go_ret
      refine ⟨ret_bool (by rw [hasB, HH.out, Bool.true_and]), ?_⟩
      exact (below_new2 w _ _).trans (B2.out.mono (by omega))
end Go.Proofs.YtbklpelikaapoaaGreatDoor.Ad3
