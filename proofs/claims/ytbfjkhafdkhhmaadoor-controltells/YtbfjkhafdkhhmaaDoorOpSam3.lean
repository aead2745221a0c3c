/- Are options the same? The document's answer. -/
import Derived.Test.YtbfjkhafdkhhmaaDoorM16
namespace Go.Proofs.YtbfjkhafdkhhmaaDoor
open Go.ChangeShapes Go.WideShapes Go.ChangeAt Go.RowKit Go.Deep
set_option linter.unusedVariables false
set_option linter.unusedSimpArgs false

theorem eqB_bits (o p : Ov) : o.p.eqB p.p = (o.k == p.k && (o.ad == p.ad && (o.n.l == p.n.l && o.t.l == p.t.l))) := rfl
set_option maxRecDepth 100000 in
set_option maxHeartbeats 1600000 in
theorem optRefSame_any (o p : Ov) (w : World) (ho : o.ok w) (hp : p.ok w) :
    Calls Tryd.prog 20 #[.agg o.cs, .agg p.cs] w fun e w' => e = .returned (.bool (o.p.eqB p.p)) ∧ Below w.heap.size w w' := by
  have B0 := hid (balloc (balloc (Below.refl w.heap.size w) (.cells o.cs 57)) (.cells p.cs 57))
  have R0 := hid ((Row.new w 57 o.cs).alloc (.cells p.cs 57))
  have R1 := hid (Row.new (w.alloc (.cells o.cs 57)) 57 p.cs)
  have hs1 : (w.alloc (.cells o.cs 57)).heap.size = w.heap.size + 1 := World.size_alloc ..
  rw [hs1] at R1
  have O0 := hid (ho.below B0.out)
  have P0 := hid (hp.below B0.out)
  have HA := hid ho.ad
  have HB := hid hp.ad
  have hq := eq36 o.ad p.ad ho.ad.1 hp.ad.1
  have HF : Hid (o.p.eqB p.p = (o.k == p.k && (o.ad == p.ad && (o.n.l == p.n.l && o.t.l == p.t.l)))) := eqB_bits o p
  have cT := hid (fun w' (hb : Below w.heap.size w w') => same_any o.t.a p.t.a o.t.n o.t.cap p.t.n p.t.cap o.t.l p.t.l w' (ho.t.below hb) (hp.t.below hb))
  have ln := hid ho.n.1
  have lm := hid hp.n.1
  have k1 := Nat.le_trans ho.n.2.1 ho.n.2.2.1
  have k2 := Nat.le_trans hp.n.2.1 hp.n.2.2.1
  unfold maxLen at k1 k2
  generalize o.p.eqB p.p = fb at *
  clear ho hp hs1
  generalize hkk : (o.k == p.k) = kb at *
  generalize (o.ad == p.ad) = ab at *
  have hkn : (o.k != p.k) = !kb := by rw [bne, hkk]
  clear hkk
  go_enter Tryd.func20, Tryd.ntmps20
  go_upto_region 1 with fail
  generalize hw1 : (w.alloc (.cells o.cs 57)).alloc (.cells p.cs 57) = w1 at *
  have a0 := (R0.out.cell 0).trans o.at0
  have b0 := (R1.out.cell 0).trans p.at0
  have a1 := (R0.out.cell 1).trans o.at1
  have b1 := (R1.out.cell 1).trans p.at1
  have a18 := (R0.out.cell 18).trans (Ov.at18 HA.out)
  have b18 := (R1.out.cell 18).trans (Ov.at18 HB.out)
  have PA := hid (R0.out.part.ovA HA.out)
  have PB := hid (R1.out.part.ovA HB.out)
  clear hw1
  cases kb
  · go_wp2_with fail
    go_ret
    exact ⟨ret_bool (by rw [HF.out]; rfl), B0.out⟩
  · cases ab
    · go_wp2_with (first | (refine ld36 _ rfl rfl _ _ rfl o.ad HA.out PA.out ?_) | (refine ld36 _ rfl rfl _ _ rfl p.ad HB.out PB.out ?_))
      go_ret
      exact ⟨ret_bool (by rw [HF.out]; rfl), B0.out⟩
    · have HF : Hid (fb = (o.n.l == p.n.l && o.t.l == p.t.l)) := by rw [Hid, HF.out]; simp
      by_cases hnn : o.n.n = p.n.n
      · have lm2 : Hid (p.n.l.length = o.n.n) := by rw [Hid, lm.out, hnn]
        rw [← hnn] at b1
        generalize hn : o.n.n = n at *
        have L1 := hid O0.out.n
        have L2 := hid P0.out.n
        rw [hn] at L1
        rw [← hnn] at L2
        have hne : ((n : Int) != (n : Int)) = false := by simp
        clear hnn hn
        go_wp2_with (first | (refine ld36 _ rfl rfl _ _ rfl o.ad HA.out PA.out ?_) | (refine ld36 _ rfl rfl _ _ rfl p.ad HB.out PB.out ?_))
        go_loopw [5] (fun i wr => ∃ k : Nat, k ≤ n ∧ i = .int .i64 k ∧ Hid (o.n.l.take k = p.n.l.take k) ∧ ∃ q, wr = w1.drewN q) (fun i _ => n - (intOf i).toNat)
        case atStart => exact ⟨0, Nat.zero_le _, rfl, rfl, 0, rfl⟩
        case round =>
          obtain ⟨k, hk, rfl, hall, q, rfl⟩ := hrel
          by_cases hlt : k < n
          · obtain ⟨b1', off1, hna, hcell1⟩ := L1.out.2.2.2.2 k hlt
            obtain ⟨b2', off2, hpa, hcell2⟩ := L2.out.2.2.2.2 k hlt
            have HD : Hid (o.n.l.getD k 0 ≠ p.n.l.getD k 0 → (o.n.l == p.n.l) = false) := take_differ _ _ k (by rw [ln.out]; exact hlt) (by rw [lm2.out]; exact hlt)
            have HS : Hid (o.n.l.getD k 0 = p.n.l.getD k 0 → o.n.l.take (k + 1) = p.n.l.take (k + 1)) := take_same _ _ k (by rw [ln.out]; exact hlt) (by rw [lm2.out]; exact hlt) hall.out
            have hlt' : (k : Int) < (n : Int) := by omega
            rw [hna] at a1
            rw [hpa] at b1
            generalize o.n.l.getD k 0 = x at *
            generalize p.n.l.getD k 0 = y at *
            go_wp2_with fail
            go_quiet (fail)
            by_cases hxy : x = y
            · have hb : (x != y) = false := by simp [hxy]
              have HX : Hid (x = y) := hxy
              clear hxy
              go_wp2_with fail
              go_roundw
              case rel => exact ⟨k + 1, by omega, by go_num, HS.out HX.out, q + nq, rfl⟩
              case measure => simp [intOf]; omega
            · have hb : (x != y) = true := by rw [bne_iff_ne]; exact hxy
              go_wp2_with fail
              go_ret
              exact ⟨ret_bool (by rw [HF.out, HD.out hxy]; rfl), by first | exact bdrew B0.out _ | exact bdrew (bdrew B0.out _) _⟩
          · obtain rfl : k = n := by omega
            have HE : Hid ((o.n.l == p.n.l) = true) := by
              have := hall.out
              rw [List.take_of_length_le (by rw [ln.out]; exact Nat.le_refl _), List.take_of_length_le (by rw [lm2.out]; exact Nat.le_refl _)] at this
              rw [Hid, this]; simp
            have B2 := hid (bdrew B0.out q)
            generalize hw2 : w1.drewN q = w2 at *
            have a18' : w2.cell? ⟨w.heap.size, 18, none⟩ = some (.slice o.t.a o.t.n o.t.cap) := by rw [← hw2]; exact a18
            have b18' : w2.cell? ⟨w.heap.size + 1, 18, none⟩ = some (.slice p.t.a p.t.n p.t.cap) := by rw [← hw2]; exact b18
            have a1' : w2.cell? ⟨w.heap.size, 1, none⟩ = some (.slice o.n.a k o.n.cap) := by rw [← hw2]; exact a1
            clear hw2
            go_wp2_with fail
            refine (cT.out _ B2.out).mono ?_
            rintro e w3 ⟨rfl, q3, rfl⟩
            go_wp2_with fail
            go_ret
            exact ⟨ret_bool (by rw [HF.out, HE.out]; simp), bdrew B2.out _⟩
      · have hne : ((o.n.n : Int) != (p.n.n : Int)) = true := by rw [bne_iff_ne]; omega
        have HE : Hid ((o.n.l == p.n.l) = false) := by
          rw [Hid, beq_eq_false_iff_ne]
          intro e
          exact hnn (by rw [← ln.out, ← lm.out, e])
        clear hnn
        go_wp2_with (first | (refine ld36 _ rfl rfl _ _ rfl o.ad HA.out PA.out ?_) | (refine ld36 _ rfl rfl _ _ rfl p.ad HB.out PB.out ?_))
        go_ret
        exact ⟨ret_bool (by rw [HF.out, HE.out]; rfl), B0.out⟩
end Go.Proofs.YtbfjkhafdkhhmaaDoor
