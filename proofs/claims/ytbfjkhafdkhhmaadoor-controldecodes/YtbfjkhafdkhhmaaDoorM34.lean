/- Are two messages the same? The document's answer, where they differ first. · Are two messages the same? The document's answer. · ControlDecodes' walk. · What the rows' lists give of the table of codes, and how a message that came in is opened. · A world that meets the rows' lists. -/
import Derived.Test.YtbfjkhafdkhhmaaDoorSc
import Derived.Test.YtbfjkhafdkhhmaaDoorM33
import Derived.Test.YtbfjkhafdkhhmaaDoorM16
import Derived.Test.YtbfjkhafdkhhmaaDoorRq
import Derived.Test.YtbfjkhafdkhhmaaDoorM31
import Derived.Test.YtbfjkhafdkhhmaaDoorTw
import Derived.Test.YtbfjkhafdkhhmaaDoorM29
import Derived.Test.YtbfjkhafdkhhmaaDoorM7
import Derived.Test.YtbfjkhafdkhhmaaDoorM20
import Derived.Test.YtbfjkhafdkhhmaaDoorM21
namespace Go.Proofs.YtbfjkhafdkhhmaaDoor
open Go.ChangeShapes Go.WideShapes Go.ChangeAt Go.RowKit Go.Deep
set_option linter.unusedVariables false
set_option linter.unusedSimpArgs false

set_option maxRecDepth 100000 in
set_option maxHeartbeats 3200000 in
theorem refSame10 (m x : Mv) (w : World) (hm : m.ok w) (hx : x.ok w) (bc : (m.c == x.c) = true) (bi : (m.i == x.i) = true) (bv : (m.v == x.v) = true) (br : (m.r == x.r) = true) (bmo : (m.mo == x.mo) = true) (bpf : (m.pf == x.pf) = true) (bd : (m.d == x.d) = true) (bsq : (m.sq == x.sq) = true) (bst : (m.st == x.st) = true) (bg : (m.g == x.g) = true) (ba : (m.a == x.a) = false) : Calls Tryd.prog 12 #[.agg m.cs, .agg x.cs] w fun e w' => e = .returned (.bool (sameM m.p x.p)) ∧ Below w.heap.size w w' := by
  have HA := hid hm.ro
  have HB := hid hx.ro
  have R1 := hid ((Row.new w 25 m.cs).alloc (.cells x.cs 25))
  have X1 := hid (Row.new (w.alloc (.cells m.cs 25)) 25 x.cs)
  have B1 := hid (balloc (balloc (Below.refl w.heap.size w) (.cells m.cs 25)) (.cells x.cs 25))
  have hs1 : (w.alloc (.cells m.cs 25)).heap.size = w.heap.size + 1 := World.size_alloc ..
  rw [hs1] at X1
  have O1 := hid (hm.o.below B1.out)
  have P1 := hid (hx.o.below B1.out)
  have hq := eq36 m.ro x.ro hm.ro.1 hx.ro.1
  have HS : Hid (sameM m.p x.p = ((m.c == x.c) && ((m.i == x.i) && ((m.v == x.v) && ((m.r == x.r) && ((m.mo == x.mo) && ((m.pf == x.pf) && ((m.d == x.d) && ((m.sq == x.sq) && ((m.st == x.st) && ((m.g == x.g) && ((m.a == x.a) && ((m.ro == x.ro) && allB (pos m.L) (pos x.L)))))))))))))) := hid (HSP m x)
  rw [bc, bi, bv, br, bmo, bpf, bd, bsq, bst, bg, ba] at HS
  clear hm hx
  go_enter Tryd.func12, Tryd.ntmps12
  go_upto_region 1 with fail
  generalize hw1 : (w.alloc (.cells m.cs 25)).alloc (.cells x.cs 25) = w1 at *
  generalize hg1 : w.heap.size = g1 at *
  clear hw1 hs1
  have c0 := (R1.out.cell 0).trans m.at0
  have d0 := (X1.out.cell 0).trans x.at0
  have c1 := (R1.out.cell 1).trans m.at1
  have d1 := (X1.out.cell 1).trans x.at1
  have c2 := (R1.out.cell 2).trans m.at2
  have d2 := (X1.out.cell 2).trans x.at2
  have c3 := (R1.out.cell 3).trans m.at3
  have d3 := (X1.out.cell 3).trans x.at3
  have c4 := (R1.out.cell 4).trans m.at4
  have d4 := (X1.out.cell 4).trans x.at4
  have c5 := (R1.out.cell 5).trans m.at5
  have d5 := (X1.out.cell 5).trans x.at5
  have c6 := (R1.out.cell 6).trans m.at6
  have d6 := (X1.out.cell 6).trans x.at6
  have c7 := (R1.out.cell 7).trans m.at7
  have d7 := (X1.out.cell 7).trans x.at7
  have c8 := (R1.out.cell 8).trans m.at8
  have d8 := (X1.out.cell 8).trans x.at8
  have c9 := (R1.out.cell 9).trans m.at9
  have d9 := (X1.out.cell 9).trans x.at9
  have c10 := (R1.out.cell 10).trans m.at10
  have d10 := (X1.out.cell 10).trans x.at10
  have PA := hid (R1.out.part.mvA HA.out)
  have PB := hid (X1.out.part.mvA HB.out)
  go_wp2_with (with_reducible refine wpl_id ?_; first | (refine ld36 _ rfl rfl _ _ rfl m.ro HA.out PA.out ?_) | (refine ld36 _ rfl rfl _ _ rfl x.ro HB.out PB.out ?_))
  go_ret
  exact ⟨ret_bool (by rw [HS.out]; rfl), by rw [hg1]; exact B1.out⟩
set_option maxRecDepth 100000 in
set_option maxHeartbeats 3200000 in
theorem refSame11 (m x : Mv) (w : World) (hm : m.ok w) (hx : x.ok w) (bc : (m.c == x.c) = true) (bi : (m.i == x.i) = true) (bv : (m.v == x.v) = true) (br : (m.r == x.r) = true) (bmo : (m.mo == x.mo) = true) (bpf : (m.pf == x.pf) = true) (bd : (m.d == x.d) = true) (bsq : (m.sq == x.sq) = true) (bst : (m.st == x.st) = true) (bg : (m.g == x.g) = true) (ba : (m.a == x.a) = true) (bro : (m.ro == x.ro) = false) : Calls Tryd.prog 12 #[.agg m.cs, .agg x.cs] w fun e w' => e = .returned (.bool (sameM m.p x.p)) ∧ Below w.heap.size w w' := by
  have HA := hid hm.ro
  have HB := hid hx.ro
  have R1 := hid ((Row.new w 25 m.cs).alloc (.cells x.cs 25))
  have X1 := hid (Row.new (w.alloc (.cells m.cs 25)) 25 x.cs)
  have B1 := hid (balloc (balloc (Below.refl w.heap.size w) (.cells m.cs 25)) (.cells x.cs 25))
  have hs1 : (w.alloc (.cells m.cs 25)).heap.size = w.heap.size + 1 := World.size_alloc ..
  rw [hs1] at X1
  have O1 := hid (hm.o.below B1.out)
  have P1 := hid (hx.o.below B1.out)
  have hq := eq36 m.ro x.ro hm.ro.1 hx.ro.1
  have HS : Hid (sameM m.p x.p = ((m.c == x.c) && ((m.i == x.i) && ((m.v == x.v) && ((m.r == x.r) && ((m.mo == x.mo) && ((m.pf == x.pf) && ((m.d == x.d) && ((m.sq == x.sq) && ((m.st == x.st) && ((m.g == x.g) && ((m.a == x.a) && ((m.ro == x.ro) && allB (pos m.L) (pos x.L)))))))))))))) := hid (HSP m x)
  rw [bc, bi, bv, br, bmo, bpf, bd, bsq, bst, bg, ba, bro] at HS
  rw [bro] at hq
  clear hm hx
  go_enter Tryd.func12, Tryd.ntmps12
  go_upto_region 1 with fail
  generalize hw1 : (w.alloc (.cells m.cs 25)).alloc (.cells x.cs 25) = w1 at *
  generalize hg1 : w.heap.size = g1 at *
  clear hw1 hs1
  have c0 := (R1.out.cell 0).trans m.at0
  have d0 := (X1.out.cell 0).trans x.at0
  have c1 := (R1.out.cell 1).trans m.at1
  have d1 := (X1.out.cell 1).trans x.at1
  have c2 := (R1.out.cell 2).trans m.at2
  have d2 := (X1.out.cell 2).trans x.at2
  have c3 := (R1.out.cell 3).trans m.at3
  have d3 := (X1.out.cell 3).trans x.at3
  have c4 := (R1.out.cell 4).trans m.at4
  have d4 := (X1.out.cell 4).trans x.at4
  have c5 := (R1.out.cell 5).trans m.at5
  have d5 := (X1.out.cell 5).trans x.at5
  have c6 := (R1.out.cell 6).trans m.at6
  have d6 := (X1.out.cell 6).trans x.at6
  have c7 := (R1.out.cell 7).trans m.at7
  have d7 := (X1.out.cell 7).trans x.at7
  have c8 := (R1.out.cell 8).trans m.at8
  have d8 := (X1.out.cell 8).trans x.at8
  have c9 := (R1.out.cell 9).trans m.at9
  have d9 := (X1.out.cell 9).trans x.at9
  have c10 := (R1.out.cell 10).trans m.at10
  have d10 := (X1.out.cell 10).trans x.at10
  have PA := hid (R1.out.part.mvA HA.out)
  have PB := hid (X1.out.part.mvA HB.out)
  go_wp2_with (with_reducible refine wpl_id ?_; first | (refine ld36 _ rfl rfl _ _ rfl m.ro HA.out PA.out ?_) | (refine ld36 _ rfl rfl _ _ rfl x.ro HB.out PB.out ?_))
  go_ret
  exact ⟨ret_bool (by rw [HS.out]; rfl), by rw [hg1]; exact B1.out⟩
set_option maxRecDepth 100000 in
set_option maxHeartbeats 3200000 in
theorem refSame12 (m x : Mv) (w : World) (hm : m.ok w) (hx : x.ok w) (bc : (m.c == x.c) = true) (bi : (m.i == x.i) = true) (bv : (m.v == x.v) = true) (br : (m.r == x.r) = true) (bmo : (m.mo == x.mo) = true) (bpf : (m.pf == x.pf) = true) (bd : (m.d == x.d) = true) (bsq : (m.sq == x.sq) = true) (bst : (m.st == x.st) = true) (bg : (m.g == x.g) = true) (ba : (m.a == x.a) = true) (bro : (m.ro == x.ro) = true) : Calls Tryd.prog 12 #[.agg m.cs, .agg x.cs] w fun e w' => e = .returned (.bool (sameM m.p x.p)) ∧ Below w.heap.size w w' := by
  have HA := hid hm.ro
  have HB := hid hx.ro
  have R1 := hid ((Row.new w 25 m.cs).alloc (.cells x.cs 25))
  have X1 := hid (Row.new (w.alloc (.cells m.cs 25)) 25 x.cs)
  have B1 := hid (balloc (balloc (Below.refl w.heap.size w) (.cells m.cs 25)) (.cells x.cs 25))
  have hs1 : (w.alloc (.cells m.cs 25)).heap.size = w.heap.size + 1 := World.size_alloc ..
  rw [hs1] at X1
  have O1 := hid (hm.o.below B1.out)
  have P1 := hid (hx.o.below B1.out)
  have hq := eq36 m.ro x.ro hm.ro.1 hx.ro.1
  have HS : Hid (sameM m.p x.p = ((m.c == x.c) && ((m.i == x.i) && ((m.v == x.v) && ((m.r == x.r) && ((m.mo == x.mo) && ((m.pf == x.pf) && ((m.d == x.d) && ((m.sq == x.sq) && ((m.st == x.st) && ((m.g == x.g) && ((m.a == x.a) && ((m.ro == x.ro) && allB (pos m.L) (pos x.L)))))))))))))) := hid (HSP m x)
  rw [bc, bi, bv, br, bmo, bpf, bd, bsq, bst, bg, ba, bro] at HS
  rw [bro] at hq
  clear hm hx
  go_enter Tryd.func12, Tryd.ntmps12
  go_upto_region 1 with fail
  generalize hw1 : (w.alloc (.cells m.cs 25)).alloc (.cells x.cs 25) = w1 at *
  generalize hg1 : w.heap.size = g1 at *
  clear hw1 hs1
  have c0 := (R1.out.cell 0).trans m.at0
  have d0 := (X1.out.cell 0).trans x.at0
  have c1 := (R1.out.cell 1).trans m.at1
  have d1 := (X1.out.cell 1).trans x.at1
  have c2 := (R1.out.cell 2).trans m.at2
  have d2 := (X1.out.cell 2).trans x.at2
  have c3 := (R1.out.cell 3).trans m.at3
  have d3 := (X1.out.cell 3).trans x.at3
  have c4 := (R1.out.cell 4).trans m.at4
  have d4 := (X1.out.cell 4).trans x.at4
  have c5 := (R1.out.cell 5).trans m.at5
  have d5 := (X1.out.cell 5).trans x.at5
  have c6 := (R1.out.cell 6).trans m.at6
  have d6 := (X1.out.cell 6).trans x.at6
  have c7 := (R1.out.cell 7).trans m.at7
  have d7 := (X1.out.cell 7).trans x.at7
  have c8 := (R1.out.cell 8).trans m.at8
  have d8 := (X1.out.cell 8).trans x.at8
  have c9 := (R1.out.cell 9).trans m.at9
  have d9 := (X1.out.cell 9).trans x.at9
  have c10 := (R1.out.cell 10).trans m.at10
  have d10 := (X1.out.cell 10).trans x.at10
  have c27 := (R1.out.cell 27).trans (Mv.at27 HA.out)
  have d27 := (X1.out.cell 27).trans (Mv.at27 HB.out)
  have PA := hid (R1.out.part.mvA HA.out)
  have PB := hid (X1.out.part.mvA HB.out)
  go_wp2_with (with_reducible refine wpl_id ?_; first | (refine ld36 _ rfl rfl _ _ rfl m.ro HA.out PA.out ?_) | (refine ld36 _ rfl rfl _ _ rfl x.ro HB.out PB.out ?_))
  refine (optRefAll_any m.oa x.oa m.on m.oc x.on x.oc m.L x.L _ O1.out P1.out).mono ?_
  rintro e w2 ⟨rfl, hb2⟩
  have B2 : Hid (Below g1 w w2) := hid (B1.out.trans (hb2.mono (by rw [← hg1]; exact B1.out.size)))
  clear hb2
  go_wp2_with fail
  go_ret
  exact ⟨ret_bool (by rw [HS.out]; simp), by rw [hg1]; exact B2.out⟩
end Go.Proofs.YtbfjkhafdkhhmaaDoor

namespace Go.Proofs.YtbfjkhafdkhhmaaDoor
open Go.ChangeShapes Go.WideShapes Go.ChangeAt Go.RowKit Go.Deep
set_option linter.unusedVariables false
set_option linter.unusedSimpArgs false

theorem refSameM_any (m x : Mv) (w : World) (hm : m.ok w) (hx : x.ok w) : Calls Tryd.prog 12 #[.agg m.cs, .agg x.cs] w fun e w' => e = .returned (.bool (sameM m.p x.p)) ∧ Below w.heap.size w w' := by
  cases bc : (m.c == x.c)
  · exact refSame0 m x w hm hx bc
  · cases bi : (m.i == x.i)
    · exact refSame1 m x w hm hx bc bi
    · cases bv : (m.v == x.v)
      · exact refSame2 m x w hm hx bc bi bv
      · cases br : (m.r == x.r)
        · exact refSame3 m x w hm hx bc bi bv br
        · cases bmo : (m.mo == x.mo)
          · exact refSame4 m x w hm hx bc bi bv br bmo
          · cases bpf : (m.pf == x.pf)
            · exact refSame5 m x w hm hx bc bi bv br bmo bpf
            · cases bd : (m.d == x.d)
              · exact refSame6 m x w hm hx bc bi bv br bmo bpf bd
              · cases bsq : (m.sq == x.sq)
                · exact refSame7 m x w hm hx bc bi bv br bmo bpf bd bsq
                · cases bst : (m.st == x.st)
                  · exact refSame8 m x w hm hx bc bi bv br bmo bpf bd bsq bst
                  · cases bg : (m.g == x.g)
                    · exact refSame9 m x w hm hx bc bi bv br bmo bpf bd bsq bst bg
                    · cases ba : (m.a == x.a)
                      · exact refSame10 m x w hm hx bc bi bv br bmo bpf bd bsq bst bg ba
                      · cases bro : (m.ro == x.ro)
                        · exact refSame11 m x w hm hx bc bi bv br bmo bpf bd bsq bst bg ba bro
                        · exact refSame12 m x w hm hx bc bi bv br bmo bpf bd bsq bst bg ba bro
end Go.Proofs.YtbfjkhafdkhhmaaDoor

namespace Go.Proofs.YtbfjkhafdkhhmaaDoor
open Go.ChangeShapes Go.WideShapes Go.ChangeAt Go.RowKit Go.Deep
set_option linter.unusedVariables false
set_option linter.unusedSimpArgs false

theorem sameM_self (a : Pm) : sameM a a = true := by simp [sameM, allB_self]
set_option maxRecDepth 1000000 in
set_option maxHeartbeats 3200000 in
theorem cdecodes_core (code : Int) (a : Option Addr) (len cap n : Nat) (l : List Int) (w : World) (hmin : (if (600 : Int) < (len : Int) then (600 : Int) else (len : Int)) = (n : Int)) (hn : n ≤ len ∧ n ≤ 600) (h : Lies .u8 w a n cap l) (ha : ∀ x, a = some x → x.block < w.heap.size) (hlc : len ≤ cap) (ho : Oct l) (hV : CV w.heap.size w) :
    Calls Tryd.prog 4 #[.int .i64 code, .slice a len cap] w fun e w' => e = .returned (.bool true) ∧ Below w.heap.size w w' := by
  have hz := zmv
  have hcm := h.2.2.1
  unfold maxLen at hcm
  have HL := hid h
  have HA0 := hid ha
  have HV := hid hV
  have HO := hid ho
  have HEn := hid (fun he => round_trip_any code l ho (by rw [h.1]; omega) he)
  clear h ha hV ho
  go_enter Tryd.func4, Tryd.ntmps4
  go_wp2_with fail
  refine (cDecode_any code a n cap l _ HL.out HO.out (by omega) HV.out).mono ?_
  rintro e w1 ⟨m, rfl, hm, hp, hb1⟩
  have HMP := hid hp.out
  have M1 := hid (MOwn.ok hm.out)
  have h16 := hm.out.le
  have HA := hid hm.out.ro
  have B1 := hid hb1.out
  have V1 := hid (HV.out.below hb1.out)
  have L1 := hid (HL.out.below hb1.out)
  clear hm hp hb1 HL HV
  have RM := hid (layM_new w1 29 m)
  have BM := hid (layM_below w1 29 m)
  go_upto_region 3 with (refine stM m29 _ _ rfl rfl w1.heap.size m HA.out rfl rfl 29 Mv.zero adr_zeros (Row.new w1 29 _) ?_)
  have M2 := hid (M1.out.below BM.out)
  have B2 := hid (bthen B1.out BM.out)
  have V2 := hid (V1.out.below BM.out)
  have L2 := hid (L1.out.below BM.out)
  generalize (w1.alloc (.cells Mv.zero.cs 29)).setRow w1.heap.size m.cs = w2 at *
  generalize w1.heap.size = gm at *
  clear BM M1 B1 V1 L1
  go_wp2_with fail
  refine (cRefDecode_any code a n cap l _ L2.out (fun x e => Nat.lt_of_lt_of_le (HA0.out x e) B2.out.size) HO.out (by omega)).mono ?_
  rintro e w3 ⟨x, rfl, hx, hp, hb3⟩
  have HXP := hid hp.out
  have X3 := hid hx.out
  have HX := hid hx.out.ro
  have RM3 := hid (RM.out.below hb3.out)
  have M3 := hid (M2.out.below hb3.out)
  have B3 := hid (bthen B2.out hb3.out)
  have V3 := hid (V2.out.below hb3.out)
  have L3 := hid (L2.out.below hb3.out)
  clear hx hp hb3 RM M2 B2 V2 L2
  have RX := hid (layM_new w3 25 x)
  have BX := hid (layM_below w3 25 x)
  go_upto_region 4 with (refine stM m25 _ _ rfl rfl w3.heap.size x HX.out rfl rfl 25 Mv.zero adr_zeros (Row.new w3 25 _) ?_)
  have RM4 := hid (RM3.out.below BX.out)
  have M4 := hid (M3.out.below BX.out)
  have X4 := hid (X3.out.below BX.out)
  have B4 := hid (bthen B3.out BX.out)
  have V4 := hid (V3.out.below BX.out)
  have L4 := hid (L3.out.below BX.out)
  generalize (w3.alloc (.cells Mv.zero.cs 25)).setRow w3.heap.size x.cs = w4 at *
  generalize w3.heap.size = gx at *
  have RX4 := RX
  clear BX RM3 M3 X3 B3 V3 L3 RX hz
  have HSM : Hid (∀ a5 c5, sameM (m.opt a5 m.on c5 m.L).p x.p = true) := hid (fun a5 c5 => by
    rw [HXP.out, show (m.opt a5 m.on c5 m.L).p = m.p from rfl, HMP.out]; exact sameM_self _)
  have PX0 : Hid (dE code l = 0 → eE m.p = 0 ∧ eL m.p = l) := fun he => by rw [HMP.out]; exact HEn.out he
  clear HMP HXP HEn
  generalize dE code l = er at *
  have hee : (er != er) = false := by simp
  go_wp2_with fail
  refine wp_region_held_drew (S := fun w' => Hid (Row w' gm 29 m.cs) ∧ Hid (Row w' gx 25 x.cs)) (by kernel_rfl) ?_ (fun hHeld => ?_)
  · exact ⟨RM4, RX4⟩
  refine wpAnyH_take (i := 0) (oi := _) (v := ?va0) rfl (by kernel_rfl) (by kernel_rfl) (by kernel_rfl) (fun _ _ _ h => h) (Or.inl ⟨by rfl, ?hya0⟩) (by assumption) ?resta0
  case hya0 => (intro w hSw; (try dsimp only at hSw); go_split_ands; go_simp; try (with_reducible rfl))
  try simp only [List.getElem_toArray, List.getElem_cons_zero, List.getElem_cons_succ, Act.put, List.setIfInBounds_toArray, List.set_cons_zero, List.set_cons_succ]
  refine wpAnyH_take (i := 1) (oi := _) (v := ?va1) rfl (by kernel_rfl) (by kernel_rfl) (by kernel_rfl) (fun _ _ _ h => h) (Or.inl ⟨by rfl, ?hya1⟩) (by assumption) ?resta1
  case hya1 => (intro w hSw; (try dsimp only at hSw); go_split_ands; go_simp; try (with_reducible rfl))
  try simp only [List.getElem_toArray, List.getElem_cons_zero, List.getElem_cons_succ, Act.put, List.setIfInBounds_toArray, List.set_cons_zero, List.set_cons_succ]
  refine wpAnyH_take (i := 2) (oi := _) (v := ?va2) rfl (by kernel_rfl) (by kernel_rfl) (by kernel_rfl) (fun _ _ _ h => h) (Or.inl ⟨by rfl, ?hya2⟩) (by assumption) ?resta2
  case hya2 => (intro w hSw; (try dsimp only at hSw); go_split_ands; go_simp; try (with_reducible rfl))
  try simp only [List.getElem_toArray, List.getElem_cons_zero, List.getElem_cons_succ, Act.put, List.setIfInBounds_toArray, List.set_cons_zero, List.set_cons_succ]
  refine wpAnyH_take (i := 3) (oi := _) (v := ?va3) rfl (by kernel_rfl) (by kernel_rfl) (by kernel_rfl) (fun _ _ _ h => h) (Or.inl ⟨by rfl, ?hya3⟩) (by assumption) ?resta3
  case hya3 => (intro w hSw; (try dsimp only at hSw); go_split_ands; go_simp; try (with_reducible rfl))
  try simp only [List.getElem_toArray, List.getElem_cons_zero, List.getElem_cons_succ, Act.put, List.setIfInBounds_toArray, List.set_cons_zero, List.set_cons_succ]
  refine wpAnyH_take (i := 4) (oi := _) (v := .agg m.cs) rfl (by kernel_rfl) (by kernel_rfl) (by kernel_rfl) (fun _ _ _ h => h) (yldM m29 (by rfl) _ rfl gm 0 rfl m HA.out (fun w h => h.1.out.part)) (by assumption) ?_
  try simp only [List.getElem_toArray, List.getElem_cons_zero, List.getElem_cons_succ, Act.put, List.setIfInBounds_toArray, List.set_cons_zero, List.set_cons_succ]
  refine wpAnyH_take (i := 6) (oi := _) (v := .agg x.cs) rfl (by kernel_rfl) (by kernel_rfl) (by kernel_rfl) (fun _ _ _ h => h) (yldM m25 (by rfl) _ rfl gx 0 rfl x HX.out (fun w h => h.2.out.part)) (by assumption) ?_
  try simp only [List.getElem_toArray, List.getElem_cons_zero, List.getElem_cons_succ, Act.put, List.setIfInBounds_toArray, List.set_cons_zero, List.set_cons_succ]
  refine wpAnyH_ready (rs := [5]) (by kernel_rfl) (by simp) ?_
  refine AllReadyH.cons (o := _) rfl (fun K hK => ?_) AllReadyH.nil
  go_simp
  refine (cOf_any m _ (M4.out.below (bdrew (Below.refl _ _) 1)) (by omega)).mono ?_
  rintro e w5 ⟨⟨a5, c5, rfl, hO⟩, hb5⟩
  have bb5 : Below w4.heap.size w4 w5 := bthen (bdrew (Below.refl _ _) 1) hb5
  have RM5 := hid (RM4.out.below bb5)
  have RX5 := hid (RX4.out.below bb5)
  have M5 := hid (M4.out.below bb5)
  have X5 := hid (X4.out.below bb5)
  have V5 := hid (V4.out.below bb5)
  have L5 := hid (L4.out.below bb5)
  have B5 := hid (bthen B4.out bb5)
  have O5 := hid hO.out
  clear hb5 bb5 hO RM4 RX4 M4 X4 V4 L4 B4
  go_wp2_with fail
  refine hK.out _ _ ⟨RM5, RX5⟩ (fun hHeld => ?_)
  clear hK K
  try simp only [List.getElem_toArray, List.getElem_cons_zero, List.getElem_cons_succ, Act.put, List.setIfInBounds_toArray, List.set_cons_zero, List.set_cons_succ]
  refine wpAnyH_ready (rs := [7]) (by kernel_rfl) (by simp) ?_
  refine AllReadyH.cons (o := _) rfl (fun K hK => ?_) AllReadyH.nil
  go_simp
  refine (refSameM_any (m.opt a5 m.on c5 m.L) x _ O5.out X5.out).mono ?_
  rintro e w6 ⟨rfl, bb6⟩
  rw [HSM.out a5 c5]
  have RM6 := hid (RM5.out.below bb6)
  have RX6 := hid (RX5.out.below bb6)
  have M6 := hid (M5.out.below bb6)
  have V6 := hid (V5.out.below bb6)
  have L6 := hid (L5.out.below bb6)
  have B6 := hid (bthen B5.out bb6)
  clear bb6 RM5 RX5 M5 X5 V5 L5 B5 O5
  go_wp2_with fail
  refine hK.out _ _ ⟨RM6, RX6⟩ (fun hHeld => ?_)
  clear hK K
  try simp only [List.getElem_toArray, List.getElem_cons_zero, List.getElem_cons_succ, Act.put, List.setIfInBounds_toArray, List.set_cons_zero, List.set_cons_succ]
  refine wpAnyH_take (i := 8) (oi := _) (v := ?vb8) rfl (by kernel_rfl) (by kernel_rfl) (by kernel_rfl) (fun _ _ _ h => h) (Or.inl ⟨by rfl, ?hyb8⟩) (by assumption) ?restb8
  case hyb8 => (intro w hSw; (try dsimp only at hSw); go_split_ands; go_simp; try (with_reducible rfl))
  try simp only [List.getElem_toArray, List.getElem_cons_zero, List.getElem_cons_succ, Act.put, List.setIfInBounds_toArray, List.set_cons_zero, List.set_cons_succ]
  refine wpAnyH_take (i := 9) (oi := _) (v := ?vb9) rfl (by kernel_rfl) (by kernel_rfl) (by kernel_rfl) (fun _ _ _ h => h) (Or.inl ⟨by rfl, ?hyb9⟩) (by assumption) ?restb9
  case hyb9 => (intro w hSw; (try dsimp only at hSw); go_split_ands; go_simp; try (with_reducible rfl))
  try simp only [List.getElem_toArray, List.getElem_cons_zero, List.getElem_cons_succ, Act.put, List.setIfInBounds_toArray, List.set_cons_zero, List.set_cons_succ]
  refine wpAnyH_done (by kernel_rfl) ?_ _
  by_cases he : er = 0
  · have HE := hid (PX0.out he)
    subst he
    clear PX0
    go_wp2_with (refine ldM m29 _ rfl rfl _ _ rfl m HA.out RM6.out.part ?_)
    refine (cEncode_any m _ M6.out V6.out (by omega)).mono ?_
    rintro e w7 ⟨⟨v7, rfl, hown⟩, hb7⟩
    obtain ⟨ba, bc, rfl, hb8, _⟩ := owns_lies hown.out
    rw [HE.out.1, HE.out.2]
    rw [HE.out.2] at hb8
    have LB7 := hid hb8
    have B7 := hid (bthen B6.out hb7)
    have V7 := hid (V6.out.below hb7)
    have L7 := hid (L6.out.below hb7)
    clear hown hb7 hb8 V6 L6 M6 B6 RM6 RX6
    generalize l.length = ll at *
    go_wp2_with fail
    refine (cLawKnown_any _ V7.out).mono ?_
    rintro e w8 ⟨rfl, hb8⟩
    have LB8 := hid (LB7.out.below hb8)
    have B8 := hid (bthen B7.out hb8)
    have L8 := hid (L7.out.below hb8)
    clear hb8 V7 L7 LB7 B7
    go_wp2_with fail
    refine (same_any ba a ll bc n cap l l _ LB8.out L8.out).mono ?_
    rintro e w9 ⟨rfl, q, rfl⟩
    rw [beq_self_eq_true]
    go_wp2_with fail
    go_ret
    exact ⟨rfl, bdrew B8.out q⟩
  · have he1 : (er != 0) = true := by rw [bne_iff_ne]; exact he
    clear he
    go_wp2_with fail
    refine (cLawKnown_any _ V6.out).mono ?_
    rintro e w8 ⟨rfl, hb8⟩
    have B8 := hid (bthen B6.out hb8)
    clear hb8
    go_wp2_with fail
    go_ret
    exact ⟨rfl, B8.out⟩
theorem cdecodes_walk (code : Int) (a : Option Addr) (len cap : Nat) (z : List Int) (w : World) (hr : IsRow .u8 w a len cap z) (ha : ∀ x, a = some x → x.block < w.heap.size) (hV : CV w.heap.size w) :
    Calls Tryd.prog 4 #[.int .i64 code, .slice a len cap] w fun e w' => e = .returned (.bool true) ∧ Below w.heap.size w w' := by
  refine cdecodes_core code a len cap (min len 600) ((z.take len).take (min len 600)) w ?_ (by omega) (hr.lies.pre (min len 600) (by omega)) ha hr.lies.2.1 (fun x hx => hr.oct x (List.mem_of_mem_take (List.mem_of_mem_take hx))) hV
  split <;> omega
end Go.Proofs.YtbfjkhafdkhhmaaDoor

namespace Go.Proofs.YtbfjkhafdkhhmaaDoor
open Go.ChangeShapes Go.WideShapes Go.ChangeAt Go.RowKit Go.Deep
set_option linter.unusedVariables false
set_option linter.unusedSimpArgs false
set_option maxRecDepth 100000

theorem gC0 : Tryd.prog.globalNamed "rivulet/control.shapes" = some 0 := by kernel_rfl
theorem gtC0 : (Tryd.prog.globals[0]?).map (·.type) = some 99 := by kernel_rfl
theorem uc99 : Tryd.prog.underlying 99 = some (.array 4 98) := by kernel_rfl
theorem uc98 : Tryd.prog.underlying 98 = some (.struct (Tryd.prog.fieldsOf 98)) := by kernel_rfl
theorem uc108 : Tryd.prog.underlying 108 = some (.struct (Tryd.prog.fieldsOf 108)) := by kernel_rfl
theorem uc110 : Tryd.prog.underlying 110 = some (.struct (Tryd.prog.fieldsOf 110)) := by kernel_rfl
theorem uc25 : Tryd.prog.underlying 25 = some (.struct (Tryd.prog.fieldsOf 25)) := by kernel_rfl
theorem uc96 : Tryd.prog.underlying 96 = some (.slice 108) := by kernel_rfl
theorem uc106 : Tryd.prog.underlying 106 = some (.slice 110) := by kernel_rfl
theorem uc52 : Tryd.prog.underlying 52 = some (.slice 3) := by kernel_rfl
theorem cc98 : Tryd.prog.cellsOf 98 = 4 := by kernel_rfl
theorem cc99 : Tryd.prog.cellsOf 99 = 16 := by kernel_rfl
theorem cc108 : Tryd.prog.cellsOf 108 = 2 := by kernel_rfl
theorem cc110 : Tryd.prog.cellsOf 110 = 3 := by kernel_rfl
theorem cc96 : Tryd.prog.cellsOf 96 = 1 := by kernel_rfl
theorem cc106 : Tryd.prog.cellsOf 106 = 1 := by kernel_rfl
theorem cc52 : Tryd.prog.cellsOf 52 = 1 := by kernel_rfl
theorem cc9 : Tryd.prog.cellsOf 9 = 1 := by kernel_rfl
theorem cc4 : Tryd.prog.cellsOf 4 = 1 := by kernel_rfl
theorem cc3 : Tryd.prog.cellsOf 3 = 1 := by kernel_rfl
theorem cc22 : Tryd.prog.cellsOf 22 = 16 := by kernel_rfl
theorem cc23 : Tryd.prog.cellsOf 23 = 1 := by kernel_rfl
theorem cc25 : Tryd.prog.cellsOf 25 = 28 := by kernel_rfl
theorem fsc98 : (Tryd.prog.fieldsOf 98).toList.map (fun f => (f.type, f.offset)) = [(9, 0), (96, 1), (4, 2), (52, 3)] := by kernel_rfl
theorem fsc108 : (Tryd.prog.fieldsOf 108).toList.map (fun f => (f.type, f.offset)) = [(3, 0), (106, 1)] := by kernel_rfl
theorem fsc110 : (Tryd.prog.fieldsOf 110).toList.map (fun f => (f.type, f.offset)) = [(3, 0), (3, 1), (3, 2)] := by kernel_rfl
theorem fsc25 : (Tryd.prog.fieldsOf 25).toList.map (fun f => (f.type, f.offset)) = [(3, 0), (3, 1), (3, 2), (3, 3), (3, 4), (3, 5), (3, 6), (3, 7), (3, 8), (4, 9), (4, 10), (22, 11), (23, 27)] := by kernel_rfl
/-- A list as a datum. -/
def sdat {H : Type} {α : Type} (dat : α → DataW H) (L : List α) : DataW H := match L with | [] => .nil | _ => .slice (L.map dat) []
/-- A slice that is laid. -/
theorem slice_of {α : Type} {H : Type} {enc : TypeId × Value → H} {W : World} {held : Bool} {fuel : Nat} {cs : List Value} {x : DataW H × List MemPlace} (t e : TypeId) (s : Nat) (ut : Tryd.prog.underlying t = some (.slice e)) (ce : Tryd.prog.cellsOf e = s) (hs : 0 < s) (d : α) (dat : α → DataW H) (L : List α) (h : DataW.trod enc Tryd.prog W 0 (fun _ => true) held fuel t cs = some x) (hx : x.1 = sdat dat L) :
    ∃ a n cap, cs = [.slice a n cap] ∧ L.length = n ∧ n ≤ cap ∧ cap ≤ maxLen ∧ (a = none → cap = 0) ∧ ∀ i, i < n → ∃ b off fuel' cs' y, a = some ⟨b, off, none⟩ ∧ (∀ j, j < s → W.cell? ⟨b, off + i * s + j, none⟩ = cs'[j]?) ∧ cs'.length = s ∧ DataW.trod enc Tryd.prog W 0 (fun _ => true) held fuel' e cs' = some y ∧ y.1 = dat (L.getD i d) := by
  rcases open_slice ut h with ⟨hcs, rfl⟩ | ⟨ad, len, cap, m, n, D, Pl, hcs, _, hl, hm, hmm, rfl, hall⟩
  · match L, hx with
    | [], _ => exact ⟨none, 0, 0, hcs, rfl, Nat.le_refl _, by decide, fun _ => rfl, fun i hi => by omega⟩
    | p :: l, hx => simp [sdat] at hx
  · match L, hx with
    | [], hx => simp [sdat] at hx
    | p :: l, hx =>
      generalize p :: l = L at *
      have hx : (DataW.slice ((List.range len).map D) ((List.range (m - len)).map fun j => D (len + j)) : DataW H) = .slice (L.map dat) [] := by
        simp only [sdat] at hx
        split at hx
        · cases hx
        · exact hx
      injection hx with hx1 _
      have hlen : L.length = len := by have := congrArg List.length hx1; simpa using this.symm
      rw [ce] at hall
      have hspot : len ≠ 0 → ad.spot = none := by
        intro h0
        obtain ⟨cs', h1, h2⟩ := hall 0 (by simp at hmm; omega)
        obtain ⟨_, hl2, hc⟩ := World.cells?_some h1
        have e0 := hc 0 (by omega)
        rw [List.getElem?_eq_getElem (by omega)] at e0
        exact World.cell?_spot (by simpa [Addr.add] using e0)
      obtain ⟨b, off, spot⟩ := ad
      refine ⟨some ⟨b, off, spot⟩, len, cap, hcs, hlen, hl, hm, (fun h => by cases h), fun i hi => ?_⟩
      have hs := hspot (by omega)
      simp only at hs
      subst hs
      obtain ⟨cs', h1, h2⟩ := hall i (by simp at hmm; omega)
      obtain ⟨_, hl2, hc⟩ := World.cells?_some h1
      have hDi : D i = dat (L.getD i d) := by
        have := congrArg (·[i]?) hx1
        simp only [List.getElem?_map, List.getElem?_range hi, Option.map_some] at this
        rw [List.getElem?_eq_getElem (by omega)] at this
        simp only [Option.map_some, Option.some.injEq] at this
        rw [this]; simp [show i < L.length by omega]
      refine ⟨b, off, _, cs', _, rfl, fun j hj => ?_, hl2, h2, hDi⟩
      have := hc j (by omega)
      rwa [Addr.add_lit, Addr.add_lit] at this
def nd {H : Type} (n : Int) : DataW H := .lit (.int .i64 n)
def fd {H : Type} (f : Fl) : DataW H := .agg [.lit (.int .i64 f.p), .lit (.int .i64 f.s), .lit (.int .i64 f.l)]
def pad {H : Type} (p : Pa) : DataW H := .agg [.lit (.int .i64 p.z), sdat fd p.f]
def scd {H : Type} (k : Nat) : DataW H := .agg [.lit (.string (cwd k).data.toList), sdat pad (cpa k), .lit (.bool (crt k)), sdat nd (cki k)]
theorem laidC_eq : (Rows.laid_rivulet_control_shapes : DataW Unit) = .agg ((List.range 4).map scd) := by kernel_rfl
theorem field_of {H : Type} {enc : TypeId × Value → H} {W : World} {held : Bool} {fuel : Nat} {cs : List Value} {x : DataW H × List MemPlace} (f : Fl) (h : DataW.trod enc Tryd.prog W 0 (fun _ => true) held fuel 110 cs = some x) (hx : x.1 = fd f) : cs = [.int .i64 (f.p : Int), .int .i64 (f.s : Int), .int .i64 (f.l : Int)] := by
  obtain ⟨xs, n, rfl, hlen, hxl, hall⟩ := fields_of uc110 _ fsc110 h
  rw [cc110] at hlen
  match xs, hxl, cs, hlen with
  | [y0, y1, y2], _, [v0, v1, v2], _ =>
    have h0 := hall 0 3 0 rfl
    have h1 := hall 1 3 1 rfl
    have h2 := hall 2 3 2 rfl
    rw [cc3] at h0 h1 h2
    simp at h0 h1 h2
    obtain ⟨z0, e0, f0, _⟩ := DataW.trod_int Tryd.underlying3 h0
    obtain ⟨z1, e1, f1, _⟩ := DataW.trod_int Tryd.underlying3 h1
    obtain ⟨z2, e2, f2, _⟩ := DataW.trod_int Tryd.underlying3 h2
    simp at e0 e1 e2
    subst e0; subst e1; subst e2
    simp [fd, f0, f1, f2] at hx
    obtain ⟨q0, q1, q2⟩ := hx
    rw [q0, q1, q2]
theorem pfields_of {H : Type} {enc : TypeId × Value → H} {W : World} {held : Bool} {fuel : Nat} {cs : List Value} {x : DataW H × List MemPlace} (l : List Fl) (h : DataW.trod enc Tryd.prog W 0 (fun _ => true) held fuel 106 cs = some x) (hx : x.1 = sdat fd l) : ∃ a n cap, cs = [.slice a n cap] ∧ FLies W.heap.size W a n cap l := by
  obtain ⟨a, n, cap, hcs, hlen, hle, hmax, _, hall⟩ := slice_of 106 110 3 uc106 cc110 (by decide) Fl.none fd l h hx
  refine ⟨a, n, cap, hcs, hlen, hle, hmax, fun i hi => ?_⟩
  obtain ⟨b, off, fu, cs', y, ha, hc, hl, ht, hy⟩ := hall i hi
  have he := field_of _ ht hy
  subst he
  have e0 := hc 0 (by decide)
  have e1 := hc 1 (by decide)
  have e2 := hc 2 (by decide)
  simp only [Nat.add_zero, List.getElem?_cons_zero, List.getElem?_cons_succ] at e0 e1 e2
  exact ⟨b, off, ha, World.block_lt_of_cell? W _ e0, e0, e1, e2⟩
theorem cpart_of {H : Type} {enc : TypeId × Value → H} {W : World} {held : Bool} {fuel : Nat} {cs : List Value} {x : DataW H × List MemPlace} (p : Pa) (h : DataW.trod enc Tryd.prog W 0 (fun _ => true) held fuel 108 cs = some x) (hx : x.1 = pad p) : ∃ a n cap, cs = [.int .i64 (p.z : Int), .slice a n cap] ∧ FLies W.heap.size W a n cap p.f := by
  obtain ⟨xs, n, rfl, hlen, hxl, hall⟩ := fields_of uc108 _ fsc108 h
  rw [cc108] at hlen
  match xs, hxl, cs, hlen with
  | [y0, y1], _, [v0, v1], _ =>
    have h0 := hall 0 3 0 rfl
    have h1 := hall 1 106 1 rfl
    rw [cc3] at h0
    rw [cc106] at h1
    simp at h0 h1
    obtain ⟨z0, e0, f0, _⟩ := DataW.trod_int Tryd.underlying3 h0
    simp [pad] at hx
    obtain ⟨a, n, cap, e1, hF⟩ := pfields_of p.f h1 hx.2
    simp at e0 e1
    subst e0; subst e1
    rw [f0] at hx
    simp at hx
    exact ⟨a, n, cap, by rw [hx.1], hF⟩
theorem cparts_of {H : Type} {enc : TypeId × Value → H} {W : World} {held : Bool} {fuel : Nat} {cs : List Value} {x : DataW H × List MemPlace} (l : List Pa) (h : DataW.trod enc Tryd.prog W 0 (fun _ => true) held fuel 96 cs = some x) (hx : x.1 = sdat pad l) : ∃ a n cap, cs = [.slice a n cap] ∧ PaLies W.heap.size W a n cap l := by
  obtain ⟨a, n, cap, hcs, hlen, hle, hmax, _, hall⟩ := slice_of 96 108 2 uc96 cc108 (by decide) Pa.none pad l h hx
  refine ⟨a, n, cap, hcs, hlen, hle, hmax, fun i hi => ?_⟩
  obtain ⟨b, off, fu, cs', y, ha, hc, hl, ht, hy⟩ := hall i hi
  obtain ⟨fa, fn, fc, he, hF⟩ := cpart_of _ ht hy
  subst he
  have e0 := hc 0 (by decide)
  have e1 := hc 1 (by decide)
  simp only [Nat.add_zero, List.getElem?_cons_zero, List.getElem?_cons_succ] at e0 e1
  exact ⟨b, off, ha, World.block_lt_of_cell? W _ e0, e0, fa, fn, fc, e1, hF⟩
theorem ckinds_of {H : Type} {enc : TypeId × Value → H} {W : World} {held : Bool} {fuel : Nat} {cs : List Value} {x : DataW H × List MemPlace} (l : List Int) (h : DataW.trod enc Tryd.prog W 0 (fun _ => true) held fuel 52 cs = some x) (hx : x.1 = sdat nd l) : ∃ a n cap, cs = [.slice a n cap] ∧ NLies W.heap.size W a n cap l := by
  obtain ⟨a, n, cap, hcs, hlen, hle, hmax, hnil, hall⟩ := slice_of 52 3 1 uc52 cc3 (by decide) 0 nd l h hx
  refine ⟨a, n, cap, hcs, hlen, hle, hmax, hnil, fun i hi => ?_⟩
  obtain ⟨b, off, fu, cs', y, ha, hc, hl, ht, hy⟩ := hall i hi
  obtain ⟨z, e, f, _⟩ := DataW.trod_int Tryd.underlying3 ht
  subst e
  have e0 := hc 0 (by decide)
  simp only [Nat.add_zero, Nat.mul_one, List.getElem?_cons_zero] at e0
  rw [f] at hy
  simp [nd] at hy
  refine ⟨b, off, ha, World.block_lt_of_cell? W _ e0, ?_⟩
  rw [e0, hy]; simp
theorem cshape_of {enc : TypeId × Value → Unit} {W : World} {held : Bool} {fuel : Nat} {cs : List Value} {x : DataW Unit × List MemPlace} (k : Nat) (h : DataW.trod enc Tryd.prog W 0 (fun _ => true) held fuel 98 cs = some x) (hx : x.1 = scd k) :
    ∃ a n cap a2 n2 c2, cs = [.string (cwd k), .slice a n cap, .bool (crt k), .slice a2 n2 c2] ∧ PaLies W.heap.size W a n cap (cpa k) ∧ NLies W.heap.size W a2 n2 c2 (cki k) := by
  obtain ⟨xs, n, rfl, hlen, hxl, hall⟩ := fields_of uc98 _ fsc98 h
  rw [cc98] at hlen
  match xs, hxl, cs, hlen with
  | [y0, y1, y2, y3], _, [v0, v1, v2, v3], _ =>
    have h0 := hall 0 9 0 rfl
    have h1 := hall 1 96 1 rfl
    have h2 := hall 2 4 2 rfl
    have h3 := hall 3 52 3 rfl
    rw [cc9] at h0
    rw [cc96] at h1
    rw [cc4] at h2
    rw [cc52] at h3
    simp at h0 h1 h2 h3
    simp [scd] at hx
    obtain ⟨s, e0, f0, _⟩ := DataW.trod_string Tryd.underlying9 h0
    obtain ⟨a, m, cap, e1, hP⟩ := cparts_of (cpa k) h1 hx.2.1
    obtain ⟨b2, e2, f2⟩ := DataW.trod_bool Tryd.underlying4 h2
    obtain ⟨a3, m3, cap3, e3, hK⟩ := ckinds_of (cki k) h3 hx.2.2.2
    simp at e0 e1 e2 e3
    subst e0; subst e1; subst e2; subst e3
    rw [f0, f2] at hx
    simp at hx
    obtain ⟨q0, _, q2, _⟩ := hx
    refine ⟨a, m, cap, a3, m3, cap3, ?_, hP, hK⟩
    have hs : s = cwd k := by
      have : s.data = (cwd k).data := by simpa using q0
      cases s; cases hw : cwd k; simp_all
    rw [hs, q2]
theorem cvars_of {W : World} (h : laidMetH Tryd.prog Rows.controlTellsRow.laid W) : CV W.heap.size W := by
  have hO := vars_of h
  have h : laidMet Tryd.prog [("rivulet/option.shapes", Rows.laid_rivulet_option_shapes), ("rivulet/control.shapes", Rows.laid_rivulet_control_shapes)] W := h
  obtain ⟨ps, ⟨_, _, _, _, _, q0, _, _, _, _, hrest, _⟩, _⟩ := h
  obtain ⟨g, t, cs, fuel, p, q, hg, ht, hvar, hd, _, _⟩ := hrest
  obtain rfl := Option.some.inj (gC0.symm.trans hg)
  obtain rfl := Option.some.inj (gtC0.symm.trans ht)
  rw [laidC_eq] at hd
  obtain ⟨xs, m, _, hx, hlen, hxl, hall⟩ := DataW.trod_array uc99 hd
  have hx1 : (DataW.agg ((List.range 4).map scd) : DataW Unit) = .agg (xs.map (·.1)) := congrArg Prod.fst hx
  injection hx1 with hx1
  rw [cc99] at hlen
  rw [cc98] at hall
  have key : ∀ k, k < 4 → ∃ a n cap a2 n2 c2, (cs.toList.drop (k * 4)).take 4 = [.string (cwd k), .slice a n cap, .bool (crt k), .slice a2 n2 c2] ∧ PaLies W.heap.size W a n cap (cpa k) ∧ NLies W.heap.size W a2 n2 c2 (cki k) := by
    intro k hk
    have h1 := hall k hk
    rw [List.getElem?_eq_getElem (by omega)] at h1
    refine cshape_of k h1 ?_
    have := congrArg (·[k]?) hx1
    simp only [List.getElem?_map, List.getElem?_range hk, Option.map_some] at this
    rw [List.getElem?_eq_getElem (by omega)] at this
    simpa using this.symm
  have cell : ∀ k j v, k < 4 → j < 4 → ((cs.toList.drop (k * 4)).take 4)[j]? = some v → W.cell? ⟨0, k * 4 + j, none⟩ = some v := by
    intro k j v hk hj hv
    have h0 := World.var?_cell gC0 hvar (k * 4 + j)
    rw [h0]
    rw [List.getElem?_take, if_pos hj, List.getElem?_drop] at hv
    simpa using hv
  have c0 : W.cell? ⟨0, 0, none⟩ = some (.string (cwd 0)) := by
    obtain ⟨a, n, cap, a2, n2, c2, e, _⟩ := key 0 (by decide)
    exact cell 0 0 _ (by decide) (by decide) (by rw [e]; rfl)
  refine ⟨⟨World.block_lt_of_cell? W _ c0, Nat.le_refl _, fun k hk => ?_, fun k hk => ?_, fun k hk => ?_, fun k hk => ?_⟩, hO⟩
  · obtain ⟨a, n, cap, a2, n2, c2, e, _⟩ := key k hk
    exact cell k 0 _ hk (by decide) (by rw [e]; rfl)
  · obtain ⟨a, n, cap, a2, n2, c2, e, hP, _⟩ := key k hk
    exact ⟨a, n, cap, cell k 1 _ hk (by decide) (by rw [e]; rfl), hP⟩
  · obtain ⟨a, n, cap, a2, n2, c2, e, _⟩ := key k hk
    exact cell k 2 _ hk (by decide) (by rw [e]; rfl)
  · obtain ⟨a, n, cap, a2, n2, c2, e, _, hK⟩ := key k hk
    exact ⟨a2, n2, c2, cell k 3 _ hk (by decide) (by rw [e]; rfl), hK⟩
/-! A message that came in. -/
theorem msg_of {H : Type} {enc : TypeId × Value → H} {W : World} {held : Bool} {fuel : Nat} {cs : List Value} {x : DataW H × List MemPlace} (h : DataW.trod enc Tryd.prog W 0 (fun _ => true) held fuel 25 cs = some x) : ∃ m : Mv, cs = m.cs.toList ∧ m.ok W ∧ Wfo m.L := by
  obtain ⟨xs, n, rfl, hlen, hxl, hall⟩ := fields_of uc25 _ fsc25 h
  rw [cc25] at hlen
  have key : ∀ (i : Nat) (ty : TypeId) (o : Nat), [(3, 0), (3, 1), (3, 2), (3, 3), (3, 4), (3, 5), (3, 6), (3, 7), (3, 8), (4, 9), (4, 10), (22, 11), (23, 27)][i]? = some (ty, o) → ∃ y, DataW.trod enc Tryd.prog W 0 (fun _ => true) held n ty ((cs.drop o).take (Tryd.prog.cellsOf ty)) = some y := by
    intro i ty o he
    have hi : i < 13 := (List.getElem?_eq_some_iff.1 he).1
    have := hall i ty o he
    rw [List.getElem?_eq_getElem (by rw [hxl]; exact hi)] at this
    exact ⟨_, this⟩
  have int : ∀ o, o < 9 → ∃ z, (cs.drop o).take 1 = [.int .i64 z] := by
    intro o ho
    obtain ⟨y, hy⟩ := key o 3 o (by match o, ho with | 0, _ => rfl | 1, _ => rfl | 2, _ => rfl | 3, _ => rfl | 4, _ => rfl | 5, _ => rfl | 6, _ => rfl | 7, _ => rfl | 8, _ => rfl)
    rw [cc3] at hy
    obtain ⟨z, hz, _, _⟩ := DataW.trod_int Tryd.underlying3 hy
    exact ⟨z, hz⟩
  obtain ⟨n0, e0⟩ := int 0 (by decide)
  obtain ⟨n1, e1⟩ := int 1 (by decide)
  obtain ⟨n2, e2⟩ := int 2 (by decide)
  obtain ⟨n3, e3⟩ := int 3 (by decide)
  obtain ⟨n4, e4⟩ := int 4 (by decide)
  obtain ⟨n5, e5⟩ := int 5 (by decide)
  obtain ⟨n6, e6⟩ := int 6 (by decide)
  obtain ⟨n7, e7⟩ := int 7 (by decide)
  obtain ⟨n8, e8⟩ := int 8 (by decide)
  obtain ⟨y9, h9⟩ := key 9 4 9 rfl
  obtain ⟨y10, h10⟩ := key 10 4 10 rfl
  obtain ⟨y11, h11⟩ := key 11 22 11 rfl
  obtain ⟨y12, h12⟩ := key 12 23 27 rfl
  rw [cc4] at h9 h10
  rw [cc22] at h11
  rw [cc23] at h12
  obtain ⟨g, e9, _⟩ := DataW.trod_bool Tryd.underlying4 h9
  obtain ⟨a, e10, _⟩ := DataW.trod_bool Tryd.underlying4 h10
  obtain ⟨ad, e11, hA⟩ := adr_of h11
  obtain ⟨oa, on, oc, e12⟩ : ∃ oa on oc, (cs.drop 27).take 1 = [Value.slice oa on oc] := by
    rcases open_slice Tryd.underlying23 h12 with ⟨hcs, _⟩ | ⟨sad, l, c, _, _, _, _, hcs, _⟩
    · exact ⟨none, 0, 0, hcs⟩
    · exact ⟨some sad, l, c, hcs⟩
  rw [e12] at h12
  obtain ⟨L, hL⟩ := open_optsw (a := oa) (len := on) (cap := oc) ⟨n, h12⟩
  clear key int hall hxl h9 h10 h11 h12
  match cs, hlen with
  | c0 :: c1 :: c2 :: c3 :: c4 :: c5 :: c6 :: c7 :: c8 :: c9 :: c10 :: rest, hlen =>
    simp at e0 e1 e2 e3 e4 e5 e6 e7 e8 e9 e10 e11 e12 hlen
    subst e0; subst e1; subst e2; subst e3; subst e4; subst e5; subst e6; subst e7; subst e8; subst e9; subst e10
    refine ⟨⟨n0, n1, n2, n3, n4, n5, n6, n7, n8, g, a, ad, oa, on, oc, L⟩, ?_, ⟨hA, hL.1⟩, hL.2⟩
    have hr : rest = u8s ad ++ [.slice oa on oc] := by
      rw [← e11, ← e12, List.take_of_length_le (by simp; omega : (rest.drop 16).length ≤ 1), List.take_append_drop]
    simp [Mv.cs, Mv.hd, arr, hr]
theorem open_msg {H : Type} {enc : TypeId × Value → H} {W : World} {base : Nat} {held : Bool} {v : Value} {d : DataW H} {p : List MemPlace}
    (hok : Value.okWide Tryd.prog W .any base 25 v) (h : DataW.Trod enc Tryd.prog W 0 (fun _ => true) held 25 v d p) : ∃ m : Mv, v = .agg m.cs ∧ (m.ok W ∧ Wfo m.L) := by
  simp only [Value.okWide, uc25] at hok
  obtain ⟨cs, rfl, hsz, _⟩ := hok
  rw [cc25] at hsz
  obtain ⟨fuel, hf⟩ := h
  obtain ⟨m, hc, h1, h2⟩ := msg_of (cs := cs.toList) hf
  refine ⟨m, ?_, h1, h2⟩
  congr 1
  exact Array.ext' hc
end Go.Proofs.YtbfjkhafdkhhmaaDoor

namespace Go.Proofs.YtbfjkhafdkhhmaaDoor
open Go.ChangeShapes Go.WideShapes Go.ChangeAt Go.RowKit Go.Deep
set_option linter.unusedVariables false
set_option linter.unusedSimpArgs false
set_option maxRecDepth 100000

theorem own : ownKnob Tryd.prog.godebug = none := by kernel_rfl
theorem laidOut : laidOutB Tryd.prog = true := by kernel_rfl
noncomputable def lowW : Nat := (World.holding Tryd.prog default ⟨#[], #[], []⟩).heap.size
def put (c : Array Value) : Obj → Obj
  | .cells _ t frozen => .cells c t frozen
  | o => o
def pblk (k : Nat) : Obj := .cells (pcs (prt k)).toArray 160
noncomputable def shc (k : Nat) (j : Nat) : List Value := [.string (wrd k), .slice (some ⟨lowW + j, 0, none⟩) (prt k).length (prt k).length, .bool (zer k), .bool (txb k)]
def shn (k : Nat) : List Value := [.string (wrd k), .slice none 0 0, .bool (zer k), .bool (txb k)]
noncomputable def shAll : Array Value := (shn 0 ++ (shc 1 0 ++ (shn 2 ++ (shc 3 1 ++ (shc 4 2 ++ (shc 5 3 ++ (shc 6 4 ++ (shc 7 5 ++ (shc 8 6 ++ shc 9 7))))))))).toArray
noncomputable def csAll : Array Value := #[.string (cwd 0), .slice (some ⟨lowW + 8, 0, none⟩) 1 1, .bool (crt 0), .slice (some ⟨lowW + 9, 0, none⟩) 3 3, .string (cwd 1), .slice (some ⟨lowW + 15, 0, none⟩) 6 6, .bool (crt 1), .slice (some ⟨lowW + 16, 0, none⟩) 6 6, .string (cwd 2), .slice (some ⟨lowW + 20, 0, none⟩) 4 4, .bool (crt 2), .slice (some ⟨lowW + 21, 0, none⟩) 5 5, .string (cwd 3), .slice (some ⟨lowW + 26, 0, none⟩) 4 4, .bool (crt 3), .slice (some ⟨lowW + 27, 0, none⟩) 2 2]
noncomputable def laidObjs : List Obj := [pblk 1, pblk 3, pblk 4, pblk 5, pblk 6, pblk 7, pblk 8, pblk 9, (.cells #[.int .i64 2, .slice none 0 0] 108), (.cells #[.int .i64 0, .int .i64 1, .int .i64 7] 3), (.cells #[.int .i64 0, .int .i64 0, .int .i64 255] 110), (.cells #[.int .i64 1, .int .i64 0, .int .i64 255] 110), (.cells #[.int .i64 2, .int .i64 0, .int .i64 65535] 110), (.cells #[.int .i64 3, .int .i64 7, .int .i64 1, .int .i64 4, .int .i64 3, .int .i64 7, .int .i64 5, .int .i64 0, .int .i64 7] 110), (.cells #[.int .i64 6, .int .i64 0, .int .i64 255] 110), (.cells #[.int .i64 1, .slice (some ⟨lowW + 10, 0, none⟩) 1 1, .int .i64 1, .slice (some ⟨lowW + 11, 0, none⟩) 1 1, .int .i64 2, .slice (some ⟨lowW + 12, 0, none⟩) 1 1, .int .i64 1, .slice (some ⟨lowW + 13, 0, none⟩) 3 3, .int .i64 1, .slice (some ⟨lowW + 14, 0, none⟩) 1 1, .int .i64 2, .slice none 0 0] 108), (.cells #[.int .i64 0, .int .i64 1, .int .i64 2, .int .i64 3, .int .i64 4, .int .i64 8] 3), (.cells #[.int .i64 0, .int .i64 0, .int .i64 255] 110), (.cells #[.int .i64 7, .int .i64 7, .int .i64 1, .int .i64 10, .int .i64 6, .int .i64 1] 110), (.cells #[.int .i64 8, .int .i64 0, .int .i64 255] 110), (.cells #[.int .i64 1, .slice (some ⟨lowW + 17, 0, none⟩) 1 1, .int .i64 1, .slice (some ⟨lowW + 18, 0, none⟩) 2 2, .int .i64 1, .slice none 0 0, .int .i64 1, .slice (some ⟨lowW + 19, 0, none⟩) 1 1] 108), (.cells #[.int .i64 0, .int .i64 1, .int .i64 5, .int .i64 6, .int .i64 9] 3), (.cells #[.int .i64 0, .int .i64 0, .int .i64 255] 110), (.cells #[.int .i64 10, .int .i64 7, .int .i64 1] 110), (.cells #[.int .i64 8, .int .i64 0, .int .i64 255] 110), (.cells #[.int .i64 9, .int .i64 0, .int .i64 255] 110), (.cells #[.int .i64 1, .slice (some ⟨lowW + 22, 0, none⟩) 1 1, .int .i64 1, .slice (some ⟨lowW + 23, 0, none⟩) 1 1, .int .i64 1, .slice (some ⟨lowW + 24, 0, none⟩) 1 1, .int .i64 1, .slice (some ⟨lowW + 25, 0, none⟩) 1 1] 108), (.cells #[.int .i64 0, .int .i64 1] 3)]
noncomputable def laidWorld (os : Os) : World :=
  let w0 := World.holding Tryd.prog os ⟨laidObjs.toArray, #[], []⟩
  { w0 with heap := (w0.heap.modify 1 (put shAll)).modify 0 (put csAll) }
theorem laid_met (os : Os) (args : Array Value) : laidMet Tryd.prog Rows.controlTellsRow.laid ((laidWorld os).forCall (fun _ _ => 0) ⟨#[], args, []⟩).memory :=
  laidMet_of_run' 10 (by kernel_rfl) (by kernel_rfl)
end Go.Proofs.YtbfjkhafdkhhmaaDoor
