/- Are options the same? The document's answer. · Are lists of options the same? The document's answer. · Are two messages the same? The document's answer, where they differ first. · Are two messages the same? The document's answer, where they differ first. · Are two messages the same? The document's answer, where they differ first. -/
import Derived.Test.YtbfjkhafdkhhmaaDoorM30
import Derived.Test.YtbfjkhafdkhhmaaDoorSc
import Derived.Test.YtbfjkhafdkhhmaaDoorM13
namespace Go.Proofs.YtbfjkhafdkhhmaaDoor
open Go.ChangeShapes Go.WideShapes Go.ChangeAt Go.RowKit Go.Deep
set_option linter.unusedVariables false
set_option linter.unusedSimpArgs false

theorem eqB_bits (o p : Ov) : o.p.eqB p.p = (o.k == p.k && (o.ad == p.ad && (o.n.l == p.n.l && o.t.l == p.t.l))) := rfl
set_option maxRecDepth 100000 in
set_option maxHeartbeats 1600000 in
theorem optRefSame_any (o p : Ov) (w : World) (ho : o.ok w) (hp : p.ok w) :
    Calls Tryd.prog 20 #[.agg o.cs, .agg p.cs] w fun e w' => e = .returned (.bool (o.p.eqB p.p)) ∧ Below w.heap.size w w' := by
  have B0 := hid (balloc (balloc (Below.refl w.heap.size w) (.cells o.cs 57)) (.cells p.cs 57))
  have R0 := hid ((Row.new w 57 o.cs).alloc (.cells p.cs 57))
  have R1 := hid (Row.new (w.alloc (.cells o.cs 57)) 57 p.cs)
  have hs1 : (w.alloc (.cells o.cs 57)).heap.size = w.heap.size + 1 := World.size_alloc ..
  rw [hs1] at R1
  have O0 := hid (ho.below B0.out)
  have P0 := hid (hp.below B0.out)
  have HA := hid ho.ad
  have HB := hid hp.ad
  have hq := eq36 o.ad p.ad ho.ad.1 hp.ad.1
  have HF : Hid (o.p.eqB p.p = (o.k == p.k && (o.ad == p.ad && (o.n.l == p.n.l && o.t.l == p.t.l)))) := eqB_bits o p
  have cT := hid (fun w' (hb : Below w.heap.size w w') => same_any o.t.a p.t.a o.t.n o.t.cap p.t.n p.t.cap o.t.l p.t.l w' (ho.t.below hb) (hp.t.below hb))
  have ln := hid ho.n.1
  have lm := hid hp.n.1
  have k1 := Nat.le_trans ho.n.2.1 ho.n.2.2.1
  have k2 := Nat.le_trans hp.n.2.1 hp.n.2.2.1
  unfold maxLen at k1 k2
  generalize o.p.eqB p.p = fb at *
  clear ho hp hs1
  generalize hkk : (o.k == p.k) = kb at *
  generalize (o.ad == p.ad) = ab at *
  have hkn : (o.k != p.k) = !kb := by rw [bne, hkk]
  clear hkk
  go_enter Tryd.func20, Tryd.ntmps20
  go_upto_region 1 with fail
  generalize hw1 : (w.alloc (.cells o.cs 57)).alloc (.cells p.cs 57) = w1 at *
  have a0 := (R0.out.cell 0).trans o.at0
  have b0 := (R1.out.cell 0).trans p.at0
  have a1 := (R0.out.cell 1).trans o.at1
  have b1 := (R1.out.cell 1).trans p.at1
  have a18 := (R0.out.cell 18).trans (Ov.at18 HA.out)
  have b18 := (R1.out.cell 18).trans (Ov.at18 HB.out)
  have PA := hid (R0.out.part.ovA HA.out)
  have PB := hid (R1.out.part.ovA HB.out)
  clear hw1
  cases kb
  · go_wp2_with fail
    go_ret
    exact ⟨ret_bool (by rw [HF.out]; rfl), B0.out⟩
  · cases ab
    · go_wp2_with (first | (refine ld36 _ rfl rfl _ _ rfl o.ad HA.out PA.out ?_) | (refine ld36 _ rfl rfl _ _ rfl p.ad HB.out PB.out ?_))
      go_ret
      exact ⟨ret_bool (by rw [HF.out]; rfl), B0.out⟩
    · have HF : Hid (fb = (o.n.l == p.n.l && o.t.l == p.t.l)) := by rw [Hid, HF.out]; simp
      by_cases hnn : o.n.n = p.n.n
      · have lm2 : Hid (p.n.l.length = o.n.n) := by rw [Hid, lm.out, hnn]
        rw [← hnn] at b1
        generalize hn : o.n.n = n at *
        have L1 := hid O0.out.n
        have L2 := hid P0.out.n
        rw [hn] at L1
        rw [← hnn] at L2
        have hne : ((n : Int) != (n : Int)) = false := by simp
        clear hnn hn
        go_wp2_with (first | (refine ld36 _ rfl rfl _ _ rfl o.ad HA.out PA.out ?_) | (refine ld36 _ rfl rfl _ _ rfl p.ad HB.out PB.out ?_))
        go_loopw [5] (fun i wr => ∃ k : Nat, k ≤ n ∧ i = .int .i64 k ∧ Hid (o.n.l.take k = p.n.l.take k) ∧ ∃ q, wr = w1.drewN q) (fun i _ => n - (intOf i).toNat)
        case atStart => exact ⟨0, Nat.zero_le _, rfl, rfl, 0, rfl⟩
        case round =>
          obtain ⟨k, hk, rfl, hall, q, rfl⟩ := hrel
          by_cases hlt : k < n
          · obtain ⟨b1', off1, hna, hcell1⟩ := L1.out.2.2.2.2 k hlt
            obtain ⟨b2', off2, hpa, hcell2⟩ := L2.out.2.2.2.2 k hlt
            have HD : Hid (o.n.l.getD k 0 ≠ p.n.l.getD k 0 → (o.n.l == p.n.l) = false) := take_differ _ _ k (by rw [ln.out]; exact hlt) (by rw [lm2.out]; exact hlt)
            have HS : Hid (o.n.l.getD k 0 = p.n.l.getD k 0 → o.n.l.take (k + 1) = p.n.l.take (k + 1)) := take_same _ _ k (by rw [ln.out]; exact hlt) (by rw [lm2.out]; exact hlt) hall.out
            have hlt' : (k : Int) < (n : Int) := by omega
            rw [hna] at a1
            rw [hpa] at b1
            generalize o.n.l.getD k 0 = x at *
            generalize p.n.l.getD k 0 = y at *
            go_wp2_with fail
            go_quiet (fail)
            by_cases hxy : x = y
            · have hb : (x != y) = false := by simp [hxy]
              have HX : Hid (x = y) := hxy
              clear hxy
              go_wp2_with fail
              go_roundw
              case rel => exact ⟨k + 1, by omega, by go_num, HS.out HX.out, q + nq, rfl⟩
              case measure => simp [intOf]; omega
            · have hb : (x != y) = true := by rw [bne_iff_ne]; exact hxy
              go_wp2_with fail
              go_ret
              exact ⟨ret_bool (by rw [HF.out, HD.out hxy]; rfl), by first | exact bdrew B0.out _ | exact bdrew (bdrew B0.out _) _⟩
          · obtain rfl : k = n := by omega
            have HE : Hid ((o.n.l == p.n.l) = true) := by
              have := hall.out
              rw [List.take_of_length_le (by rw [ln.out]; exact Nat.le_refl _), List.take_of_length_le (by rw [lm2.out]; exact Nat.le_refl _)] at this
              rw [Hid, this]; simp
            have B2 := hid (bdrew B0.out q)
            generalize hw2 : w1.drewN q = w2 at *
            have a18' : w2.cell? ⟨w.heap.size, 18, none⟩ = some (.slice o.t.a o.t.n o.t.cap) := by rw [← hw2]; exact a18
            have b18' : w2.cell? ⟨w.heap.size + 1, 18, none⟩ = some (.slice p.t.a p.t.n p.t.cap) := by rw [← hw2]; exact b18
            have a1' : w2.cell? ⟨w.heap.size, 1, none⟩ = some (.slice o.n.a k o.n.cap) := by rw [← hw2]; exact a1
            clear hw2
            go_wp2_with fail
            refine (cT.out _ B2.out).mono ?_
            rintro e w3 ⟨rfl, q3, rfl⟩
            go_wp2_with fail
            go_ret
            exact ⟨ret_bool (by rw [HF.out, HE.out]; simp), bdrew B2.out _⟩
      · have hne : ((o.n.n : Int) != (p.n.n : Int)) = true := by rw [bne_iff_ne]; omega
        have HE : Hid ((o.n.l == p.n.l) = false) := by
          rw [Hid, beq_eq_false_iff_ne]
          intro e
          exact hnn (by rw [← ln.out, ← lm.out, e])
        clear hnn
        go_wp2_with (first | (refine ld36 _ rfl rfl _ _ rfl o.ad HA.out PA.out ?_) | (refine ld36 _ rfl rfl _ _ rfl p.ad HB.out PB.out ?_))
        go_ret
        exact ⟨ret_bool (by rw [HF.out, HE.out]; rfl), B0.out⟩
end Go.Proofs.YtbfjkhafdkhhmaaDoor

namespace Go.Proofs.YtbfjkhafdkhhmaaDoor
open Go.ChangeShapes Go.WideShapes Go.ChangeAt Go.RowKit Go.Deep
set_option linter.unusedVariables false
set_option linter.unusedSimpArgs false

set_option maxRecDepth 100000 in
set_option maxHeartbeats 1600000 in
theorem optRefAll_any (a b : Option Addr) (n ca m cb : Nat) (L M : List Ov) (w : World) (hL : Opts w a n ca L) (hM : Opts w b m cb M) :
    Calls Tryd.prog 34 #[.slice a n ca, .slice b m cb] w fun e w' => e = .returned (.bool (allB (pos L) (pos M))) ∧ Below w.heap.size w w' := by
  have k1 := Nat.le_trans hL.le hL.max
  have k2 := Nat.le_trans hM.le hM.max
  unfold maxLen at k1 k2
  have HL := hid hL
  have HM := hid hM
  have HF : Hid (allB (pos L) (pos M) = ((n == m) && allTo (pos L) (pos M) n)) := by rw [Hid, allB, pos_len, pos_len, hL.len, hM.len]
  have ll := hid hL.len
  have lm := hid hM.len
  clear hL hM
  generalize allB (pos L) (pos M) = fb at *
  by_cases hnm : n = m
  · subst hnm
    have HF : Hid (fb = allTo (pos L) (pos M) n) := by rw [Hid, HF.out]; simp
    go_enter Tryd.func34, Tryd.ntmps34
    go_wp2_with fail
    go_loopw [5] (fun i wr => ∃ j : Nat, j ≤ n ∧ i = .int .i64 j ∧ Hid (allTo (pos L) (pos M) j = true) ∧ Hid (Below w.heap.size w wr)) (fun i _ => n - (intOf i).toNat)
    case atStart => exact ⟨0, Nat.zero_le _, rfl, rfl, Below.refl _ _⟩
    case round =>
      obtain ⟨j, hj, rfl, hall, hb⟩ := hrel
      by_cases hlt : j < n
      · have hlt' : (j : Int) < (n : Int) := by omega
        obtain ⟨b1, off1, rfl, hp1⟩ := (HL.out.below hb.out).cell j hlt
        obtain ⟨b2, off2, rfl, hp2⟩ := (HM.out.below hb.out).cell j hlt
        have ok1 := (HL.out.below hb.out).at j hlt
        have ok2 := (HM.out.below hb.out).at j hlt
        have HS := hid (allTo_succ (pos L) (pos M) j)
        have HN := hid (allTo_no (pos L) (pos M) j n hlt)
        rw [pos_at L j (by rw [ll.out]; exact hlt), pos_at M j (by rw [lm.out]; exact hlt)] at HS HN
        generalize L.getD j Ov.zero = o at *
        generalize M.getD j Ov.zero = p at *
        have P1 := hid hp1
        have P2 := hid hp2
        have O1 := hid ok1
        have O2 := hid ok2
        have A1 := hid ok1.ad
        have A2 := hid ok2.ad
        clear hp1 hp2 ok1 ok2
        go_wp2_with fail
        refine wp_region_held_drew (S := fun w' => Hid (Part w' b1 (off1 + j * 19) o.cs) ∧ Hid (Part w' b2 (off2 + j * 19) p.cs)) (by kernel_rfl) ?_ (fun hHeld => ?_)
        · exact ⟨P1.out, P2.out⟩
        refine wpAnyH_take (i := 0) (oi := _) (v := ?va0) rfl (by kernel_rfl) (by kernel_rfl) (by kernel_rfl) (fun _ _ _ h => h) (Or.inl ⟨by rfl, ?hya0⟩) (by assumption) ?resta0
        case hya0 => (intro w hSw; (try dsimp only at hSw); go_split_ands; go_simp; try (with_reducible rfl))
        try simp only [List.getElem_toArray, List.getElem_cons_zero, List.getElem_cons_succ, Act.put, List.setIfInBounds_toArray, List.set_cons_zero, List.set_cons_succ]
        refine wpAnyH_take (i := 1) (oi := _) (v := ?va1) rfl (by kernel_rfl) (by kernel_rfl) (by kernel_rfl) (fun _ _ _ h => h) (Or.inl ⟨by rfl, ?hya1⟩) (by assumption) ?resta1
        case hya1 => (intro w hSw; (try dsimp only at hSw); go_split_ands; go_simp; try (with_reducible rfl))
        try simp only [List.getElem_toArray, List.getElem_cons_zero, List.getElem_cons_succ, Act.put, List.setIfInBounds_toArray, List.set_cons_zero, List.set_cons_succ]
        refine wpAnyH_take (i := 2) (oi := _) (v := ?va2) rfl (by kernel_rfl) (by kernel_rfl) (by kernel_rfl) (fun _ _ _ h => h) (Or.inl ⟨by rfl, ?hya2⟩) (by assumption) ?resta2
        case hya2 => (intro w hSw; (try dsimp only at hSw); go_split_ands; go_simp; try (with_reducible rfl))
        try simp only [List.getElem_toArray, List.getElem_cons_zero, List.getElem_cons_succ, Act.put, List.setIfInBounds_toArray, List.set_cons_zero, List.set_cons_succ]
        refine wpAnyH_take (i := 3) (oi := _) (v := .agg o.cs) rfl (by kernel_rfl) (by kernel_rfl) (by kernel_rfl) (fun _ _ _ h => h) (yldOo o38 (by rfl) _ rfl b1 (off1 + j * 19) rfl o A1.out (fun w h => h.1.out)) (by assumption) ?_
        try simp only [List.getElem_toArray, List.getElem_cons_zero, List.getElem_cons_succ, Act.put, List.setIfInBounds_toArray, List.set_cons_zero, List.set_cons_succ]
        refine wpAnyH_take (i := 4) (oi := _) (v := ?va4) rfl (by kernel_rfl) (by kernel_rfl) (by kernel_rfl) (fun _ _ _ h => h) (Or.inl ⟨by rfl, ?hya4⟩) (by assumption) ?resta4
        case hya4 => (intro w hSw; (try dsimp only at hSw); go_split_ands; go_simp; try (with_reducible rfl))
        try simp only [List.getElem_toArray, List.getElem_cons_zero, List.getElem_cons_succ, Act.put, List.setIfInBounds_toArray, List.set_cons_zero, List.set_cons_succ]
        refine wpAnyH_take (i := 5) (oi := _) (v := ?va5) rfl (by kernel_rfl) (by kernel_rfl) (by kernel_rfl) (fun _ _ _ h => h) (Or.inl ⟨by rfl, ?hya5⟩) (by assumption) ?resta5
        case hya5 => (intro w hSw; (try dsimp only at hSw); go_split_ands; go_simp; try (with_reducible rfl))
        try simp only [List.getElem_toArray, List.getElem_cons_zero, List.getElem_cons_succ, Act.put, List.setIfInBounds_toArray, List.set_cons_zero, List.set_cons_succ]
        refine wpAnyH_take (i := 6) (oi := _) (v := ?va6) rfl (by kernel_rfl) (by kernel_rfl) (by kernel_rfl) (fun _ _ _ h => h) (Or.inl ⟨by rfl, ?hya6⟩) (by assumption) ?resta6
        case hya6 => (intro w hSw; (try dsimp only at hSw); go_split_ands; go_simp; try (with_reducible rfl))
        try simp only [List.getElem_toArray, List.getElem_cons_zero, List.getElem_cons_succ, Act.put, List.setIfInBounds_toArray, List.set_cons_zero, List.set_cons_succ]
        refine wpAnyH_take (i := 7) (oi := _) (v := .agg p.cs) rfl (by kernel_rfl) (by kernel_rfl) (by kernel_rfl) (fun _ _ _ h => h) (yldOo o38 (by rfl) _ rfl b2 (off2 + j * 19) rfl p A2.out (fun w h => h.2.out)) (by assumption) ?_
        try simp only [List.getElem_toArray, List.getElem_cons_zero, List.getElem_cons_succ, Act.put, List.setIfInBounds_toArray, List.set_cons_zero, List.set_cons_succ]
        refine wpAnyH_ready (rs := [8]) (by kernel_rfl) (by simp) ?_
        refine AllReadyH.cons (o := _) rfl (fun K hK => ?_) AllReadyH.nil
        go_simp
        refine (optRefSame_any o p _ (by exact O1.out.drewN 1) (by exact O2.out.drewN 1)).mono ?_
        rintro e w4 ⟨rfl, hb4⟩
        have hb4 : Below wr.heap.size wr.drew w4 := hb4
        have hb5 : Below wr.heap.size wr w4 := (bdrew (Below.refl wr.heap.size wr) 1).trans hb4
        have B5 := hid (bthen hb.out hb5)
        have P3 := hid (Part.below P1.out hb5)
        have P4 := hid (Part.below P2.out hb5)
        clear hb4 hb5
        go_wp2_with fail
        refine hK.out _ _ ⟨P3.out, P4.out⟩ (fun hHeld => ?_)
        clear hK K
        try simp only [List.getElem_toArray, List.getElem_cons_zero, List.getElem_cons_succ, Act.put, List.setIfInBounds_toArray, List.set_cons_zero, List.set_cons_succ]
        refine wpAnyH_take (i := 9) (oi := _) (v := ?va9) rfl (by kernel_rfl) (by kernel_rfl) (by kernel_rfl) (fun _ _ _ h => h) (Or.inl ⟨by rfl, ?hya9⟩) (by assumption) ?resta9
        case hya9 => (intro w hSw; (try dsimp only at hSw); go_split_ands; go_simp; try (with_reducible rfl))
        try simp only [List.getElem_toArray, List.getElem_cons_zero, List.getElem_cons_succ, Act.put, List.setIfInBounds_toArray, List.set_cons_zero, List.set_cons_succ]
        refine wpAnyH_done (by kernel_rfl) ?_ _
        cases hc : o.p.eqB p.p
        · rw [hc] at HN
          go_wp2_with fail
          go_ret
          exact ⟨ret_bool (by rw [HF.out]; exact (HN.out (by simp)).symm), B5.out⟩
        · rw [hc] at HS
          go_wp2_with fail
          go_roundw
          case rel => exact ⟨j + 1, by omega, by go_num, by rw [Hid, HS.out, hall.out]; rfl, B5.out⟩
          case measure => simp [intOf]; omega
      · obtain rfl : j = n := by omega
        go_wp2_with fail
        go_ret
        exact ⟨ret_bool (by rw [HF.out]; exact hall.out.symm), hb.out⟩
  · have hne : ((n : Int) != (m : Int)) = true := by rw [bne_iff_ne]; omega
    have HF : Hid (fb = false) := by rw [Hid, HF.out]; simp [hnm]
    clear hnm
    go_enter Tryd.func34, Tryd.ntmps34
    go_wp2_with fail
    go_ret
    exact ⟨ret_bool HF.out.symm, Below.refl _ _⟩
end Go.Proofs.YtbfjkhafdkhhmaaDoor

namespace Go.Proofs.YtbfjkhafdkhhmaaDoor
open Go.ChangeShapes Go.WideShapes Go.ChangeAt Go.RowKit Go.Deep
set_option linter.unusedVariables false
set_option linter.unusedSimpArgs false

theorem HSP (m x : Mv) : sameM m.p x.p = ((m.c == x.c) && ((m.i == x.i) && ((m.v == x.v) && ((m.r == x.r) && ((m.mo == x.mo) && ((m.pf == x.pf) && ((m.d == x.d) && ((m.sq == x.sq) && ((m.st == x.st) && ((m.g == x.g) && ((m.a == x.a) && ((m.ro == x.ro) && allB (pos m.L) (pos x.L))))))))))))) := same_rsame _ _
set_option maxRecDepth 100000 in
set_option maxHeartbeats 3200000 in
theorem refSame0 (m x : Mv) (w : World) (hm : m.ok w) (hx : x.ok w) (bc : (m.c == x.c) = false) : Calls Tryd.prog 12 #[.agg m.cs, .agg x.cs] w fun e w' => e = .returned (.bool (sameM m.p x.p)) ∧ Below w.heap.size w w' := by
  have HA := hid hm.ro
  have HB := hid hx.ro
  have R1 := hid ((Row.new w 25 m.cs).alloc (.cells x.cs 25))
  have X1 := hid (Row.new (w.alloc (.cells m.cs 25)) 25 x.cs)
  have B1 := hid (balloc (balloc (Below.refl w.heap.size w) (.cells m.cs 25)) (.cells x.cs 25))
  have hs1 : (w.alloc (.cells m.cs 25)).heap.size = w.heap.size + 1 := World.size_alloc ..
  rw [hs1] at X1
  have O1 := hid (hm.o.below B1.out)
  have P1 := hid (hx.o.below B1.out)
  have hq := eq36 m.ro x.ro hm.ro.1 hx.ro.1
  have HS : Hid (sameM m.p x.p = ((m.c == x.c) && ((m.i == x.i) && ((m.v == x.v) && ((m.r == x.r) && ((m.mo == x.mo) && ((m.pf == x.pf) && ((m.d == x.d) && ((m.sq == x.sq) && ((m.st == x.st) && ((m.g == x.g) && ((m.a == x.a) && ((m.ro == x.ro) && allB (pos m.L) (pos x.L)))))))))))))) := hid (HSP m x)
  rw [bc] at HS
  clear hm hx
  go_enter Tryd.func12, Tryd.ntmps12
  go_upto_region 1 with fail
  generalize hw1 : (w.alloc (.cells m.cs 25)).alloc (.cells x.cs 25) = w1 at *
  generalize hg1 : w.heap.size = g1 at *
  clear hw1 hs1
  have c0 := (R1.out.cell 0).trans m.at0
  have d0 := (X1.out.cell 0).trans x.at0
  have PA := hid (R1.out.part.mvA HA.out)
  have PB := hid (X1.out.part.mvA HB.out)
  go_wp2_with (with_reducible refine wpl_id ?_; first | (refine ld36 _ rfl rfl _ _ rfl m.ro HA.out PA.out ?_) | (refine ld36 _ rfl rfl _ _ rfl x.ro HB.out PB.out ?_))
  go_ret
  exact ⟨ret_bool (by rw [HS.out]; rfl), by rw [hg1]; exact B1.out⟩
set_option maxRecDepth 100000 in
set_option maxHeartbeats 3200000 in
theorem refSame1 (m x : Mv) (w : World) (hm : m.ok w) (hx : x.ok w) (bc : (m.c == x.c) = true) (bi : (m.i == x.i) = false) : Calls Tryd.prog 12 #[.agg m.cs, .agg x.cs] w fun e w' => e = .returned (.bool (sameM m.p x.p)) ∧ Below w.heap.size w w' := by
  have HA := hid hm.ro
  have HB := hid hx.ro
  have R1 := hid ((Row.new w 25 m.cs).alloc (.cells x.cs 25))
  have X1 := hid (Row.new (w.alloc (.cells m.cs 25)) 25 x.cs)
  have B1 := hid (balloc (balloc (Below.refl w.heap.size w) (.cells m.cs 25)) (.cells x.cs 25))
  have hs1 : (w.alloc (.cells m.cs 25)).heap.size = w.heap.size + 1 := World.size_alloc ..
  rw [hs1] at X1
  have O1 := hid (hm.o.below B1.out)
  have P1 := hid (hx.o.below B1.out)
  have hq := eq36 m.ro x.ro hm.ro.1 hx.ro.1
  have HS : Hid (sameM m.p x.p = ((m.c == x.c) && ((m.i == x.i) && ((m.v == x.v) && ((m.r == x.r) && ((m.mo == x.mo) && ((m.pf == x.pf) && ((m.d == x.d) && ((m.sq == x.sq) && ((m.st == x.st) && ((m.g == x.g) && ((m.a == x.a) && ((m.ro == x.ro) && allB (pos m.L) (pos x.L)))))))))))))) := hid (HSP m x)
  rw [bc, bi] at HS
  clear hm hx
  go_enter Tryd.func12, Tryd.ntmps12
  go_upto_region 1 with fail
  generalize hw1 : (w.alloc (.cells m.cs 25)).alloc (.cells x.cs 25) = w1 at *
  generalize hg1 : w.heap.size = g1 at *
  clear hw1 hs1
  have c0 := (R1.out.cell 0).trans m.at0
  have d0 := (X1.out.cell 0).trans x.at0
  have c1 := (R1.out.cell 1).trans m.at1
  have d1 := (X1.out.cell 1).trans x.at1
  have PA := hid (R1.out.part.mvA HA.out)
  have PB := hid (X1.out.part.mvA HB.out)
  go_wp2_with (with_reducible refine wpl_id ?_; first | (refine ld36 _ rfl rfl _ _ rfl m.ro HA.out PA.out ?_) | (refine ld36 _ rfl rfl _ _ rfl x.ro HB.out PB.out ?_))
  go_ret
  exact ⟨ret_bool (by rw [HS.out]; rfl), by rw [hg1]; exact B1.out⟩
set_option maxRecDepth 100000 in
set_option maxHeartbeats 3200000 in
theorem refSame2 (m x : Mv) (w : World) (hm : m.ok w) (hx : x.ok w) (bc : (m.c == x.c) = true) (bi : (m.i == x.i) = true) (bv : (m.v == x.v) = false) : Calls Tryd.prog 12 #[.agg m.cs, .agg x.cs] w fun e w' => e = .returned (.bool (sameM m.p x.p)) ∧ Below w.heap.size w w' := by
  have HA := hid hm.ro
  have HB := hid hx.ro
  have R1 := hid ((Row.new w 25 m.cs).alloc (.cells x.cs 25))
  have X1 := hid (Row.new (w.alloc (.cells m.cs 25)) 25 x.cs)
  have B1 := hid (balloc (balloc (Below.refl w.heap.size w) (.cells m.cs 25)) (.cells x.cs 25))
  have hs1 : (w.alloc (.cells m.cs 25)).heap.size = w.heap.size + 1 := World.size_alloc ..
  rw [hs1] at X1
  have O1 := hid (hm.o.below B1.out)
  have P1 := hid (hx.o.below B1.out)
  have hq := eq36 m.ro x.ro hm.ro.1 hx.ro.1
  have HS : Hid (sameM m.p x.p = ((m.c == x.c) && ((m.i == x.i) && ((m.v == x.v) && ((m.r == x.r) && ((m.mo == x.mo) && ((m.pf == x.pf) && ((m.d == x.d) && ((m.sq == x.sq) && ((m.st == x.st) && ((m.g == x.g) && ((m.a == x.a) && ((m.ro == x.ro) && allB (pos m.L) (pos x.L)))))))))))))) := hid (HSP m x)
  rw [bc, bi, bv] at HS
  clear hm hx
  go_enter Tryd.func12, Tryd.ntmps12
  go_upto_region 1 with fail
  generalize hw1 : (w.alloc (.cells m.cs 25)).alloc (.cells x.cs 25) = w1 at *
  generalize hg1 : w.heap.size = g1 at *
  clear hw1 hs1
  have c0 := (R1.out.cell 0).trans m.at0
  have d0 := (X1.out.cell 0).trans x.at0
  have c1 := (R1.out.cell 1).trans m.at1
  have d1 := (X1.out.cell 1).trans x.at1
  have c2 := (R1.out.cell 2).trans m.at2
  have d2 := (X1.out.cell 2).trans x.at2
  have PA := hid (R1.out.part.mvA HA.out)
  have PB := hid (X1.out.part.mvA HB.out)
  go_wp2_with (with_reducible refine wpl_id ?_; first | (refine ld36 _ rfl rfl _ _ rfl m.ro HA.out PA.out ?_) | (refine ld36 _ rfl rfl _ _ rfl x.ro HB.out PB.out ?_))
  go_ret
  exact ⟨ret_bool (by rw [HS.out]; rfl), by rw [hg1]; exact B1.out⟩
set_option maxRecDepth 100000 in
set_option maxHeartbeats 3200000 in
theorem refSame3 (m x : Mv) (w : World) (hm : m.ok w) (hx : x.ok w) (bc : (m.c == x.c) = true) (bi : (m.i == x.i) = true) (bv : (m.v == x.v) = true) (br : (m.r == x.r) = false) : Calls Tryd.prog 12 #[.agg m.cs, .agg x.cs] w fun e w' => e = .returned (.bool (sameM m.p x.p)) ∧ Below w.heap.size w w' := by
  have HA := hid hm.ro
  have HB := hid hx.ro
  have R1 := hid ((Row.new w 25 m.cs).alloc (.cells x.cs 25))
  have X1 := hid (Row.new (w.alloc (.cells m.cs 25)) 25 x.cs)
  have B1 := hid (balloc (balloc (Below.refl w.heap.size w) (.cells m.cs 25)) (.cells x.cs 25))
  have hs1 : (w.alloc (.cells m.cs 25)).heap.size = w.heap.size + 1 := World.size_alloc ..
  rw [hs1] at X1
  have O1 := hid (hm.o.below B1.out)
  have P1 := hid (hx.o.below B1.out)
  have hq := eq36 m.ro x.ro hm.ro.1 hx.ro.1
  have HS : Hid (sameM m.p x.p = ((m.c == x.c) && ((m.i == x.i) && ((m.v == x.v) && ((m.r == x.r) && ((m.mo == x.mo) && ((m.pf == x.pf) && ((m.d == x.d) && ((m.sq == x.sq) && ((m.st == x.st) && ((m.g == x.g) && ((m.a == x.a) && ((m.ro == x.ro) && allB (pos m.L) (pos x.L)))))))))))))) := hid (HSP m x)
  rw [bc, bi, bv, br] at HS
  clear hm hx
  go_enter Tryd.func12, Tryd.ntmps12
  go_upto_region 1 with fail
  generalize hw1 : (w.alloc (.cells m.cs 25)).alloc (.cells x.cs 25) = w1 at *
  generalize hg1 : w.heap.size = g1 at *
  clear hw1 hs1
  have c0 := (R1.out.cell 0).trans m.at0
  have d0 := (X1.out.cell 0).trans x.at0
  have c1 := (R1.out.cell 1).trans m.at1
  have d1 := (X1.out.cell 1).trans x.at1
  have c2 := (R1.out.cell 2).trans m.at2
  have d2 := (X1.out.cell 2).trans x.at2
  have c3 := (R1.out.cell 3).trans m.at3
  have d3 := (X1.out.cell 3).trans x.at3
  have PA := hid (R1.out.part.mvA HA.out)
  have PB := hid (X1.out.part.mvA HB.out)
  go_wp2_with (with_reducible refine wpl_id ?_; first | (refine ld36 _ rfl rfl _ _ rfl m.ro HA.out PA.out ?_) | (refine ld36 _ rfl rfl _ _ rfl x.ro HB.out PB.out ?_))
  go_ret
  exact ⟨ret_bool (by rw [HS.out]; rfl), by rw [hg1]; exact B1.out⟩
end Go.Proofs.YtbfjkhafdkhhmaaDoor

namespace Go.Proofs.YtbfjkhafdkhhmaaDoor
open Go.ChangeShapes Go.WideShapes Go.ChangeAt Go.RowKit Go.Deep
set_option linter.unusedVariables false
set_option linter.unusedSimpArgs false

set_option maxRecDepth 100000 in
set_option maxHeartbeats 3200000 in
theorem refSame4 (m x : Mv) (w : World) (hm : m.ok w) (hx : x.ok w) (bc : (m.c == x.c) = true) (bi : (m.i == x.i) = true) (bv : (m.v == x.v) = true) (br : (m.r == x.r) = true) (bmo : (m.mo == x.mo) = false) : Calls Tryd.prog 12 #[.agg m.cs, .agg x.cs] w fun e w' => e = .returned (.bool (sameM m.p x.p)) ∧ Below w.heap.size w w' := by
  have HA := hid hm.ro
  have HB := hid hx.ro
  have R1 := hid ((Row.new w 25 m.cs).alloc (.cells x.cs 25))
  have X1 := hid (Row.new (w.alloc (.cells m.cs 25)) 25 x.cs)
  have B1 := hid (balloc (balloc (Below.refl w.heap.size w) (.cells m.cs 25)) (.cells x.cs 25))
  have hs1 : (w.alloc (.cells m.cs 25)).heap.size = w.heap.size + 1 := World.size_alloc ..
  rw [hs1] at X1
  have O1 := hid (hm.o.below B1.out)
  have P1 := hid (hx.o.below B1.out)
  have hq := eq36 m.ro x.ro hm.ro.1 hx.ro.1
  have HS : Hid (sameM m.p x.p = ((m.c == x.c) && ((m.i == x.i) && ((m.v == x.v) && ((m.r == x.r) && ((m.mo == x.mo) && ((m.pf == x.pf) && ((m.d == x.d) && ((m.sq == x.sq) && ((m.st == x.st) && ((m.g == x.g) && ((m.a == x.a) && ((m.ro == x.ro) && allB (pos m.L) (pos x.L)))))))))))))) := hid (HSP m x)
  rw [bc, bi, bv, br, bmo] at HS
  clear hm hx
  go_enter Tryd.func12, Tryd.ntmps12
  go_upto_region 1 with fail
  generalize hw1 : (w.alloc (.cells m.cs 25)).alloc (.cells x.cs 25) = w1 at *
  generalize hg1 : w.heap.size = g1 at *
  clear hw1 hs1
  have c0 := (R1.out.cell 0).trans m.at0
  have d0 := (X1.out.cell 0).trans x.at0
  have c1 := (R1.out.cell 1).trans m.at1
  have d1 := (X1.out.cell 1).trans x.at1
  have c2 := (R1.out.cell 2).trans m.at2
  have d2 := (X1.out.cell 2).trans x.at2
  have c3 := (R1.out.cell 3).trans m.at3
  have d3 := (X1.out.cell 3).trans x.at3
  have c4 := (R1.out.cell 4).trans m.at4
  have d4 := (X1.out.cell 4).trans x.at4
  have PA := hid (R1.out.part.mvA HA.out)
  have PB := hid (X1.out.part.mvA HB.out)
  go_wp2_with (with_reducible refine wpl_id ?_; first | (refine ld36 _ rfl rfl _ _ rfl m.ro HA.out PA.out ?_) | (refine ld36 _ rfl rfl _ _ rfl x.ro HB.out PB.out ?_))
  go_ret
  exact ⟨ret_bool (by rw [HS.out]; rfl), by rw [hg1]; exact B1.out⟩
set_option maxRecDepth 100000 in
set_option maxHeartbeats 3200000 in
theorem refSame5 (m x : Mv) (w : World) (hm : m.ok w) (hx : x.ok w) (bc : (m.c == x.c) = true) (bi : (m.i == x.i) = true) (bv : (m.v == x.v) = true) (br : (m.r == x.r) = true) (bmo : (m.mo == x.mo) = true) (bpf : (m.pf == x.pf) = false) : Calls Tryd.prog 12 #[.agg m.cs, .agg x.cs] w fun e w' => e = .returned (.bool (sameM m.p x.p)) ∧ Below w.heap.size w w' := by
  have HA := hid hm.ro
  have HB := hid hx.ro
  have R1 := hid ((Row.new w 25 m.cs).alloc (.cells x.cs 25))
  have X1 := hid (Row.new (w.alloc (.cells m.cs 25)) 25 x.cs)
  have B1 := hid (balloc (balloc (Below.refl w.heap.size w) (.cells m.cs 25)) (.cells x.cs 25))
  have hs1 : (w.alloc (.cells m.cs 25)).heap.size = w.heap.size + 1 := World.size_alloc ..
  rw [hs1] at X1
  have O1 := hid (hm.o.below B1.out)
  have P1 := hid (hx.o.below B1.out)
  have hq := eq36 m.ro x.ro hm.ro.1 hx.ro.1
  have HS : Hid (sameM m.p x.p = ((m.c == x.c) && ((m.i == x.i) && ((m.v == x.v) && ((m.r == x.r) && ((m.mo == x.mo) && ((m.pf == x.pf) && ((m.d == x.d) && ((m.sq == x.sq) && ((m.st == x.st) && ((m.g == x.g) && ((m.a == x.a) && ((m.ro == x.ro) && allB (pos m.L) (pos x.L)))))))))))))) := hid (HSP m x)
  rw [bc, bi, bv, br, bmo, bpf] at HS
  clear hm hx
  go_enter Tryd.func12, Tryd.ntmps12
  go_upto_region 1 with fail
  generalize hw1 : (w.alloc (.cells m.cs 25)).alloc (.cells x.cs 25) = w1 at *
  generalize hg1 : w.heap.size = g1 at *
  clear hw1 hs1
  have c0 := (R1.out.cell 0).trans m.at0
  have d0 := (X1.out.cell 0).trans x.at0
  have c1 := (R1.out.cell 1).trans m.at1
  have d1 := (X1.out.cell 1).trans x.at1
  have c2 := (R1.out.cell 2).trans m.at2
  have d2 := (X1.out.cell 2).trans x.at2
  have c3 := (R1.out.cell 3).trans m.at3
  have d3 := (X1.out.cell 3).trans x.at3
  have c4 := (R1.out.cell 4).trans m.at4
  have d4 := (X1.out.cell 4).trans x.at4
  have c5 := (R1.out.cell 5).trans m.at5
  have d5 := (X1.out.cell 5).trans x.at5
  have PA := hid (R1.out.part.mvA HA.out)
  have PB := hid (X1.out.part.mvA HB.out)
  go_wp2_with (with_reducible refine wpl_id ?_; first | (refine ld36 _ rfl rfl _ _ rfl m.ro HA.out PA.out ?_) | (refine ld36 _ rfl rfl _ _ rfl x.ro HB.out PB.out ?_))
  go_ret
  exact ⟨ret_bool (by rw [HS.out]; rfl), by rw [hg1]; exact B1.out⟩
set_option maxRecDepth 100000 in
set_option maxHeartbeats 3200000 in
theorem refSame6 (m x : Mv) (w : World) (hm : m.ok w) (hx : x.ok w) (bc : (m.c == x.c) = true) (bi : (m.i == x.i) = true) (bv : (m.v == x.v) = true) (br : (m.r == x.r) = true) (bmo : (m.mo == x.mo) = true) (bpf : (m.pf == x.pf) = true) (bd : (m.d == x.d) = false) : Calls Tryd.prog 12 #[.agg m.cs, .agg x.cs] w fun e w' => e = .returned (.bool (sameM m.p x.p)) ∧ Below w.heap.size w w' := by
  have HA := hid hm.ro
  have HB := hid hx.ro
  have R1 := hid ((Row.new w 25 m.cs).alloc (.cells x.cs 25))
  have X1 := hid (Row.new (w.alloc (.cells m.cs 25)) 25 x.cs)
  have B1 := hid (balloc (balloc (Below.refl w.heap.size w) (.cells m.cs 25)) (.cells x.cs 25))
  have hs1 : (w.alloc (.cells m.cs 25)).heap.size = w.heap.size + 1 := World.size_alloc ..
  rw [hs1] at X1
  have O1 := hid (hm.o.below B1.out)
  have P1 := hid (hx.o.below B1.out)
  have hq := eq36 m.ro x.ro hm.ro.1 hx.ro.1
  have HS : Hid (sameM m.p x.p = ((m.c == x.c) && ((m.i == x.i) && ((m.v == x.v) && ((m.r == x.r) && ((m.mo == x.mo) && ((m.pf == x.pf) && ((m.d == x.d) && ((m.sq == x.sq) && ((m.st == x.st) && ((m.g == x.g) && ((m.a == x.a) && ((m.ro == x.ro) && allB (pos m.L) (pos x.L)))))))))))))) := hid (HSP m x)
  rw [bc, bi, bv, br, bmo, bpf, bd] at HS
  clear hm hx
  go_enter Tryd.func12, Tryd.ntmps12
  go_upto_region 1 with fail
  generalize hw1 : (w.alloc (.cells m.cs 25)).alloc (.cells x.cs 25) = w1 at *
  generalize hg1 : w.heap.size = g1 at *
  clear hw1 hs1
  have c0 := (R1.out.cell 0).trans m.at0
  have d0 := (X1.out.cell 0).trans x.at0
  have c1 := (R1.out.cell 1).trans m.at1
  have d1 := (X1.out.cell 1).trans x.at1
  have c2 := (R1.out.cell 2).trans m.at2
  have d2 := (X1.out.cell 2).trans x.at2
  have c3 := (R1.out.cell 3).trans m.at3
  have d3 := (X1.out.cell 3).trans x.at3
  have c4 := (R1.out.cell 4).trans m.at4
  have d4 := (X1.out.cell 4).trans x.at4
  have c5 := (R1.out.cell 5).trans m.at5
  have d5 := (X1.out.cell 5).trans x.at5
  have c6 := (R1.out.cell 6).trans m.at6
  have d6 := (X1.out.cell 6).trans x.at6
  have PA := hid (R1.out.part.mvA HA.out)
  have PB := hid (X1.out.part.mvA HB.out)
  go_wp2_with (with_reducible refine wpl_id ?_; first | (refine ld36 _ rfl rfl _ _ rfl m.ro HA.out PA.out ?_) | (refine ld36 _ rfl rfl _ _ rfl x.ro HB.out PB.out ?_))
  go_ret
  exact ⟨ret_bool (by rw [HS.out]; rfl), by rw [hg1]; exact B1.out⟩
end Go.Proofs.YtbfjkhafdkhhmaaDoor

namespace Go.Proofs.YtbfjkhafdkhhmaaDoor
open Go.ChangeShapes Go.WideShapes Go.ChangeAt Go.RowKit Go.Deep
set_option linter.unusedVariables false
set_option linter.unusedSimpArgs false

set_option maxRecDepth 100000 in
set_option maxHeartbeats 3200000 in
theorem refSame7 (m x : Mv) (w : World) (hm : m.ok w) (hx : x.ok w) (bc : (m.c == x.c) = true) (bi : (m.i == x.i) = true) (bv : (m.v == x.v) = true) (br : (m.r == x.r) = true) (bmo : (m.mo == x.mo) = true) (bpf : (m.pf == x.pf) = true) (bd : (m.d == x.d) = true) (bsq : (m.sq == x.sq) = false) : Calls Tryd.prog 12 #[.agg m.cs, .agg x.cs] w fun e w' => e = .returned (.bool (sameM m.p x.p)) ∧ Below w.heap.size w w' := by
  have HA := hid hm.ro
  have HB := hid hx.ro
  have R1 := hid ((Row.new w 25 m.cs).alloc (.cells x.cs 25))
  have X1 := hid (Row.new (w.alloc (.cells m.cs 25)) 25 x.cs)
  have B1 := hid (balloc (balloc (Below.refl w.heap.size w) (.cells m.cs 25)) (.cells x.cs 25))
  have hs1 : (w.alloc (.cells m.cs 25)).heap.size = w.heap.size + 1 := World.size_alloc ..
  rw [hs1] at X1
  have O1 := hid (hm.o.below B1.out)
  have P1 := hid (hx.o.below B1.out)
  have hq := eq36 m.ro x.ro hm.ro.1 hx.ro.1
  have HS : Hid (sameM m.p x.p = ((m.c == x.c) && ((m.i == x.i) && ((m.v == x.v) && ((m.r == x.r) && ((m.mo == x.mo) && ((m.pf == x.pf) && ((m.d == x.d) && ((m.sq == x.sq) && ((m.st == x.st) && ((m.g == x.g) && ((m.a == x.a) && ((m.ro == x.ro) && allB (pos m.L) (pos x.L)))))))))))))) := hid (HSP m x)
  rw [bc, bi, bv, br, bmo, bpf, bd, bsq] at HS
  clear hm hx
  go_enter Tryd.func12, Tryd.ntmps12
  go_upto_region 1 with fail
  generalize hw1 : (w.alloc (.cells m.cs 25)).alloc (.cells x.cs 25) = w1 at *
  generalize hg1 : w.heap.size = g1 at *
  clear hw1 hs1
  have c0 := (R1.out.cell 0).trans m.at0
  have d0 := (X1.out.cell 0).trans x.at0
  have c1 := (R1.out.cell 1).trans m.at1
  have d1 := (X1.out.cell 1).trans x.at1
  have c2 := (R1.out.cell 2).trans m.at2
  have d2 := (X1.out.cell 2).trans x.at2
  have c3 := (R1.out.cell 3).trans m.at3
  have d3 := (X1.out.cell 3).trans x.at3
  have c4 := (R1.out.cell 4).trans m.at4
  have d4 := (X1.out.cell 4).trans x.at4
  have c5 := (R1.out.cell 5).trans m.at5
  have d5 := (X1.out.cell 5).trans x.at5
  have c6 := (R1.out.cell 6).trans m.at6
  have d6 := (X1.out.cell 6).trans x.at6
  have c7 := (R1.out.cell 7).trans m.at7
  have d7 := (X1.out.cell 7).trans x.at7
  have PA := hid (R1.out.part.mvA HA.out)
  have PB := hid (X1.out.part.mvA HB.out)
  go_wp2_with (with_reducible refine wpl_id ?_; first | (refine ld36 _ rfl rfl _ _ rfl m.ro HA.out PA.out ?_) | (refine ld36 _ rfl rfl _ _ rfl x.ro HB.out PB.out ?_))
  go_ret
  exact ⟨ret_bool (by rw [HS.out]; rfl), by rw [hg1]; exact B1.out⟩
set_option maxRecDepth 100000 in
set_option maxHeartbeats 3200000 in
theorem refSame8 (m x : Mv) (w : World) (hm : m.ok w) (hx : x.ok w) (bc : (m.c == x.c) = true) (bi : (m.i == x.i) = true) (bv : (m.v == x.v) = true) (br : (m.r == x.r) = true) (bmo : (m.mo == x.mo) = true) (bpf : (m.pf == x.pf) = true) (bd : (m.d == x.d) = true) (bsq : (m.sq == x.sq) = true) (bst : (m.st == x.st) = false) : Calls Tryd.prog 12 #[.agg m.cs, .agg x.cs] w fun e w' => e = .returned (.bool (sameM m.p x.p)) ∧ Below w.heap.size w w' := by
  have HA := hid hm.ro
  have HB := hid hx.ro
  have R1 := hid ((Row.new w 25 m.cs).alloc (.cells x.cs 25))
  have X1 := hid (Row.new (w.alloc (.cells m.cs 25)) 25 x.cs)
  have B1 := hid (balloc (balloc (Below.refl w.heap.size w) (.cells m.cs 25)) (.cells x.cs 25))
  have hs1 : (w.alloc (.cells m.cs 25)).heap.size = w.heap.size + 1 := World.size_alloc ..
  rw [hs1] at X1
  have O1 := hid (hm.o.below B1.out)
  have P1 := hid (hx.o.below B1.out)
  have hq := eq36 m.ro x.ro hm.ro.1 hx.ro.1
  have HS : Hid (sameM m.p x.p = ((m.c == x.c) && ((m.i == x.i) && ((m.v == x.v) && ((m.r == x.r) && ((m.mo == x.mo) && ((m.pf == x.pf) && ((m.d == x.d) && ((m.sq == x.sq) && ((m.st == x.st) && ((m.g == x.g) && ((m.a == x.a) && ((m.ro == x.ro) && allB (pos m.L) (pos x.L)))))))))))))) := hid (HSP m x)
  rw [bc, bi, bv, br, bmo, bpf, bd, bsq, bst] at HS
  clear hm hx
  go_enter Tryd.func12, Tryd.ntmps12
  go_upto_region 1 with fail
  generalize hw1 : (w.alloc (.cells m.cs 25)).alloc (.cells x.cs 25) = w1 at *
  generalize hg1 : w.heap.size = g1 at *
  clear hw1 hs1
  have c0 := (R1.out.cell 0).trans m.at0
  have d0 := (X1.out.cell 0).trans x.at0
  have c1 := (R1.out.cell 1).trans m.at1
  have d1 := (X1.out.cell 1).trans x.at1
  have c2 := (R1.out.cell 2).trans m.at2
  have d2 := (X1.out.cell 2).trans x.at2
  have c3 := (R1.out.cell 3).trans m.at3
  have d3 := (X1.out.cell 3).trans x.at3
  have c4 := (R1.out.cell 4).trans m.at4
  have d4 := (X1.out.cell 4).trans x.at4
  have c5 := (R1.out.cell 5).trans m.at5
  have d5 := (X1.out.cell 5).trans x.at5
  have c6 := (R1.out.cell 6).trans m.at6
  have d6 := (X1.out.cell 6).trans x.at6
  have c7 := (R1.out.cell 7).trans m.at7
  have d7 := (X1.out.cell 7).trans x.at7
  have c8 := (R1.out.cell 8).trans m.at8
  have d8 := (X1.out.cell 8).trans x.at8
  have PA := hid (R1.out.part.mvA HA.out)
  have PB := hid (X1.out.part.mvA HB.out)
  go_wp2_with (with_reducible refine wpl_id ?_; first | (refine ld36 _ rfl rfl _ _ rfl m.ro HA.out PA.out ?_) | (refine ld36 _ rfl rfl _ _ rfl x.ro HB.out PB.out ?_))
  go_ret
  exact ⟨ret_bool (by rw [HS.out]; rfl), by rw [hg1]; exact B1.out⟩
set_option maxRecDepth 100000 in
set_option maxHeartbeats 3200000 in
theorem refSame9 (m x : Mv) (w : World) (hm : m.ok w) (hx : x.ok w) (bc : (m.c == x.c) = true) (bi : (m.i == x.i) = true) (bv : (m.v == x.v) = true) (br : (m.r == x.r) = true) (bmo : (m.mo == x.mo) = true) (bpf : (m.pf == x.pf) = true) (bd : (m.d == x.d) = true) (bsq : (m.sq == x.sq) = true) (bst : (m.st == x.st) = true) (bg : (m.g == x.g) = false) : Calls Tryd.prog 12 #[.agg m.cs, .agg x.cs] w fun e w' => e = .returned (.bool (sameM m.p x.p)) ∧ Below w.heap.size w w' := by
  have HA := hid hm.ro
  have HB := hid hx.ro
  have R1 := hid ((Row.new w 25 m.cs).alloc (.cells x.cs 25))
  have X1 := hid (Row.new (w.alloc (.cells m.cs 25)) 25 x.cs)
  have B1 := hid (balloc (balloc (Below.refl w.heap.size w) (.cells m.cs 25)) (.cells x.cs 25))
  have hs1 : (w.alloc (.cells m.cs 25)).heap.size = w.heap.size + 1 := World.size_alloc ..
  rw [hs1] at X1
  have O1 := hid (hm.o.below B1.out)
  have P1 := hid (hx.o.below B1.out)
  have hq := eq36 m.ro x.ro hm.ro.1 hx.ro.1
  have HS : Hid (sameM m.p x.p = ((m.c == x.c) && ((m.i == x.i) && ((m.v == x.v) && ((m.r == x.r) && ((m.mo == x.mo) && ((m.pf == x.pf) && ((m.d == x.d) && ((m.sq == x.sq) && ((m.st == x.st) && ((m.g == x.g) && ((m.a == x.a) && ((m.ro == x.ro) && allB (pos m.L) (pos x.L)))))))))))))) := hid (HSP m x)
  rw [bc, bi, bv, br, bmo, bpf, bd, bsq, bst, bg] at HS
  clear hm hx
  go_enter Tryd.func12, Tryd.ntmps12
  go_upto_region 1 with fail
  generalize hw1 : (w.alloc (.cells m.cs 25)).alloc (.cells x.cs 25) = w1 at *
  generalize hg1 : w.heap.size = g1 at *
  clear hw1 hs1
  have c0 := (R1.out.cell 0).trans m.at0
  have d0 := (X1.out.cell 0).trans x.at0
  have c1 := (R1.out.cell 1).trans m.at1
  have d1 := (X1.out.cell 1).trans x.at1
  have c2 := (R1.out.cell 2).trans m.at2
  have d2 := (X1.out.cell 2).trans x.at2
  have c3 := (R1.out.cell 3).trans m.at3
  have d3 := (X1.out.cell 3).trans x.at3
  have c4 := (R1.out.cell 4).trans m.at4
  have d4 := (X1.out.cell 4).trans x.at4
  have c5 := (R1.out.cell 5).trans m.at5
  have d5 := (X1.out.cell 5).trans x.at5
  have c6 := (R1.out.cell 6).trans m.at6
  have d6 := (X1.out.cell 6).trans x.at6
  have c7 := (R1.out.cell 7).trans m.at7
  have d7 := (X1.out.cell 7).trans x.at7
  have c8 := (R1.out.cell 8).trans m.at8
  have d8 := (X1.out.cell 8).trans x.at8
  have c9 := (R1.out.cell 9).trans m.at9
  have d9 := (X1.out.cell 9).trans x.at9
  have PA := hid (R1.out.part.mvA HA.out)
  have PB := hid (X1.out.part.mvA HB.out)
  go_wp2_with (with_reducible refine wpl_id ?_; first | (refine ld36 _ rfl rfl _ _ rfl m.ro HA.out PA.out ?_) | (refine ld36 _ rfl rfl _ _ rfl x.ro HB.out PB.out ?_))
  go_ret
  exact ⟨ret_bool (by rw [HS.out]; rfl), by rw [hg1]; exact B1.out⟩
end Go.Proofs.YtbfjkhafdkhhmaaDoor
