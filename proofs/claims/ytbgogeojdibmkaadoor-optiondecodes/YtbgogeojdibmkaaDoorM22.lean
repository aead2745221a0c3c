/- Are options the same? · Are lists of options the same? · Are options the same? The document's answer. · Are lists of options the same? The document's answer. · OptionBytes' walk. -/
import Derived.Test.YtbgogeojdibmkaaDoorM7
import Derived.Deep.QuietTactic
import Derived.Test.YtbgogeojdibmkaaDoorM20
import Derived.Test.YtbgogeojdibmkaaDoorM14
import Derived.Test.YtbgogeojdibmkaaDoorM21
namespace Go.Proofs.YtbgogeojdibmkaaDoor
open Go.ChangeShapes Go.WideShapes Go.ChangeAt Go.RowKit Go.Deep
set_option linter.unusedVariables false
set_option linter.unusedSimpArgs false

set_option maxHeartbeats 400000 in
theorem equal39_len (a b : Option Addr) (n ca cb : Nat) (l m : List Int) (w : World) (ha : Lies .i64 w a n ca l) (hb : Lies .i64 w b n cb m) :
    Calls Tryd.prog 39 #[.slice a n ca, .slice b n cb] w fun e w' => e = .returned (.bool (l == m)) ∧ ∃ q, w' = w.drewN q := by
  obtain ⟨hl, hlc, hcm, _, hc⟩ := ha
  obtain ⟨hl2, hlc2, hcm2, _, hc2⟩ := hb
  unfold maxLen at hcm hcm2
  have HC : Hid _ := hc
  have HL : Hid (l.length = n) := hl
  have HC2 : Hid _ := hc2
  have HL2 : Hid (m.length = n) := hl2
  clear hc hl hc2 hl2
  go_enter Tryd.func39, Tryd.ntmps39
  go_wp2
  go_loopw [13] (fun i wr => ∃ k : Nat, k ≤ n ∧ i = .int .i64 k ∧ Hid (l.take k = m.take k) ∧ ∃ q, wr = w.drewN q) (fun i _ => n - (intOf i).toNat)
  case atStart => exact ⟨0, Nat.zero_le _, rfl, rfl, 0, rfl⟩
  case round =>
    obtain ⟨k, hk, rfl, hall, q, rfl⟩ := hrel
    by_cases hlt : k < n
    · obtain ⟨b1, off1, rfl, hcell1⟩ := HC.out k hlt
      obtain ⟨b2, off2, rfl, hcell2⟩ := HC2.out k hlt
      have HD : Hid (l.getD k 0 ≠ m.getD k 0 → (l == m) = false) := take_differ l m k (by rw [HL.out]; exact hlt) (by rw [HL2.out]; exact hlt)
      have HS : Hid (l.getD k 0 = m.getD k 0 → l.take (k + 1) = m.take (k + 1)) := take_same l m k (by rw [HL.out]; exact hlt) (by rw [HL2.out]; exact hlt) hall.out
      have hlt' : (k : Int) < (n : Int) := by omega
      generalize l.getD k 0 = x at *
      generalize m.getD k 0 = y at *
      go_wp2
      go_quiet (fail)
      by_cases hxy : x = y
      · have hb : (x != y) = false := by simp [hxy]
        have HX : Hid (x = y) := hxy
        clear hxy
        go_wp2
        go_roundw
        case rel => exact ⟨k + 1, by omega, by go_num, HS.out HX.out, q + nq, rfl⟩
        case measure => simp [intOf]; omega
      · have hb : (x != y) = true := by rw [bne_iff_ne]; exact hxy
        go_wp2
        go_ret
        exact ⟨ret_bool (HD.out hxy).symm, q + nq, World.drewN_drewN ..⟩
    · obtain rfl : k = n := by omega
      go_wp2
      go_ret
      refine ⟨ret_bool ?_, q, rfl⟩
      have h1 : l.take k = l := List.take_of_length_le (by rw [HL.out]; exact Nat.le_refl _)
      have h2 : m.take k = m := List.take_of_length_le (by rw [HL2.out]; exact Nat.le_refl _)
      have := hall.out
      rw [h1, h2] at this
      simp [this]
theorem equal39_any (a b : Option Addr) (la ca lb cb : Nat) (l m : List Int) (w : World) (ha : Lies .i64 w a la ca l) (hb : Lies .i64 w b lb cb m) :
    Calls Tryd.prog 39 #[.slice a la ca, .slice b lb cb] w fun e w' => e = .returned (.bool (l == m)) ∧ ∃ q, w' = w.drewN q := by
  by_cases h : la = lb
  · subst h; exact equal39_len a b la ca cb l m w ha hb
  · have hne : ((la : Int) != (lb : Int)) = true := by rw [bne_iff_ne]; omega
    have HE : Hid ((l == m) = false) := by
      rw [Hid, beq_eq_false_iff_ne]
      intro e; subst e
      exact h (ha.1.symm.trans hb.1)
    clear h ha hb
    go_enter Tryd.func39, Tryd.ntmps39
    go_wp2
    go_ret
    exact ⟨ret_bool HE.out.symm, 0, rfl⟩
set_option maxHeartbeats 400000 in
theorem equal40_len (a b : Option Addr) (n ca cb : Nat) (l m : List Int) (w : World) (ha : Lies .u8 w a n ca l) (hb : Lies .u8 w b n cb m) :
    Calls Tryd.prog 40 #[.slice a n ca, .slice b n cb] w fun e w' => e = .returned (.bool (l == m)) ∧ ∃ q, w' = w.drewN q := by
  obtain ⟨hl, hlc, hcm, _, hc⟩ := ha
  obtain ⟨hl2, hlc2, hcm2, _, hc2⟩ := hb
  unfold maxLen at hcm hcm2
  have HC : Hid _ := hc
  have HL : Hid (l.length = n) := hl
  have HC2 : Hid _ := hc2
  have HL2 : Hid (m.length = n) := hl2
  clear hc hl hc2 hl2
  go_enter Tryd.func40, Tryd.ntmps40
  go_wp2
  go_loopw [13] (fun i wr => ∃ k : Nat, k ≤ n ∧ i = .int .i64 k ∧ Hid (l.take k = m.take k) ∧ ∃ q, wr = w.drewN q) (fun i _ => n - (intOf i).toNat)
  case atStart => exact ⟨0, Nat.zero_le _, rfl, rfl, 0, rfl⟩
  case round =>
    obtain ⟨k, hk, rfl, hall, q, rfl⟩ := hrel
    by_cases hlt : k < n
    · obtain ⟨b1, off1, rfl, hcell1⟩ := HC.out k hlt
      obtain ⟨b2, off2, rfl, hcell2⟩ := HC2.out k hlt
      have HD : Hid (l.getD k 0 ≠ m.getD k 0 → (l == m) = false) := take_differ l m k (by rw [HL.out]; exact hlt) (by rw [HL2.out]; exact hlt)
      have HS : Hid (l.getD k 0 = m.getD k 0 → l.take (k + 1) = m.take (k + 1)) := take_same l m k (by rw [HL.out]; exact hlt) (by rw [HL2.out]; exact hlt) hall.out
      have hlt' : (k : Int) < (n : Int) := by omega
      generalize l.getD k 0 = x at *
      generalize m.getD k 0 = y at *
      go_wp2
      go_quiet (fail)
      by_cases hxy : x = y
      · have hb : (x != y) = false := by simp [hxy]
        have HX : Hid (x = y) := hxy
        clear hxy
        go_wp2
        go_roundw
        case rel => exact ⟨k + 1, by omega, by go_num, HS.out HX.out, q + nq, rfl⟩
        case measure => simp [intOf]; omega
      · have hb : (x != y) = true := by rw [bne_iff_ne]; exact hxy
        go_wp2
        go_ret
        exact ⟨ret_bool (HD.out hxy).symm, q + nq, World.drewN_drewN ..⟩
    · obtain rfl : k = n := by omega
      go_wp2
      go_ret
      refine ⟨ret_bool ?_, q, rfl⟩
      have h1 : l.take k = l := List.take_of_length_le (by rw [HL.out]; exact Nat.le_refl _)
      have h2 : m.take k = m := List.take_of_length_le (by rw [HL2.out]; exact Nat.le_refl _)
      have := hall.out
      rw [h1, h2] at this
      simp [this]
theorem equal40_any (a b : Option Addr) (la ca lb cb : Nat) (l m : List Int) (w : World) (ha : Lies .u8 w a la ca l) (hb : Lies .u8 w b lb cb m) :
    Calls Tryd.prog 40 #[.slice a la ca, .slice b lb cb] w fun e w' => e = .returned (.bool (l == m)) ∧ ∃ q, w' = w.drewN q := by
  by_cases h : la = lb
  · subst h; exact equal40_len a b la ca cb l m w ha hb
  · have hne : ((la : Int) != (lb : Int)) = true := by rw [bne_iff_ne]; omega
    have HE : Hid ((l == m) = false) := by
      rw [Hid, beq_eq_false_iff_ne]
      intro e; subst e
      exact h (ha.1.symm.trans hb.1)
    clear h ha hb
    go_enter Tryd.func40, Tryd.ntmps40
    go_wp2
    go_ret
    exact ⟨ret_bool HE.out.symm, 0, rfl⟩
/-- Are two options the same? -/
def Po.eqB (p q : Po) : Bool := p.k == q.k && (p.ad == q.ad && (p.n == q.n && p.t == q.t))
theorem Po.eqB_self (p : Po) : p.eqB p = true := by simp [Po.eqB]
theorem Po.eq_of {p q : Po} (h : p.eqB q = true) : p = q := by
  simp [Po.eqB] at h
  obtain ⟨h1, h2, h3, h4⟩ := h
  cases p; cases q; simp_all
set_option maxHeartbeats 1600000 in
theorem same1_any (o p : Ov) (w : World) (ho : o.ok w) (hp : p.ok w) :
    Calls Tryd.prog 38 #[.agg o.cs, .agg p.cs] w fun e w' => e = .returned (.bool (o.p.eqB p.p)) ∧ Below w.heap.size w w' := by
  have B0 := hid (balloc (balloc (Below.refl w.heap.size w) (.cells o.cs 43)) (.cells p.cs 43))
  have R0 := hid ((Row.new w 43 o.cs).alloc (.cells p.cs 43))
  have R1 := hid (Row.new (w.alloc (.cells o.cs 43)) 43 p.cs)
  have hs1 : (w.alloc (.cells o.cs 43)).heap.size = w.heap.size + 1 := World.size_alloc ..
  rw [hs1] at R1
  have O0 := hid (ho.below B0.out)
  have P0 := hid (hp.below B0.out)
  have HA := hid ho.ad
  have HB := hid hp.ad
  have hq := eq41 o.ad p.ad ho.ad.1 hp.ad.1
  have HF : Hid (o.p.eqB p.p = (o.k == p.k && (o.ad == p.ad && (o.n.l == p.n.l && o.t.l == p.t.l)))) := rfl
  have cN := hid (fun w' (hb : Below w.heap.size w w') => equal39_any o.n.a p.n.a o.n.n o.n.cap p.n.n p.n.cap o.n.l p.n.l w' (ho.n.below hb) (hp.n.below hb))
  have cT := hid (fun w' (hb : Below w.heap.size w w') => equal40_any o.t.a p.t.a o.t.n o.t.cap p.t.n p.t.cap o.t.l p.t.l w' (ho.t.below hb) (hp.t.below hb))
  generalize o.p.eqB p.p = fb at *
  clear ho hp hs1
  generalize hkk : (o.k == p.k) = kb at *
  generalize (o.ad == p.ad) = ab at *
  generalize (o.n.l == p.n.l) = nb at *
  generalize (o.t.l == p.t.l) = tb at *
  go_enter Tryd.func38, Tryd.ntmps38
  go_upto_region 1 with fail
  generalize hw1 : (w.alloc (.cells o.cs 43)).alloc (.cells p.cs 43) = w1 at *
  have a0 := (R0.out.cell 0).trans o.at0
  have b0 := (R1.out.cell 0).trans p.at0
  have a1 := (R0.out.cell 1).trans o.at1
  have b1 := (R1.out.cell 1).trans p.at1
  have a18 := (R0.out.cell 18).trans (Ov.at18 HA.out)
  have b18 := (R1.out.cell 18).trans (Ov.at18 HB.out)
  have PA := hid (R0.out.part.ovA HA.out)
  have PB := hid (R1.out.part.ovA HB.out)
  clear hw1
  cases kb
  · go_wp2_with fail
    go_ret
    exact ⟨ret_bool (by rw [HF.out]; rfl), B0.out⟩
  · cases ab
    · go_wp2_with (first | (refine ld41 _ rfl rfl _ _ rfl o.ad HA.out PA.out ?_) | (refine ld41 _ rfl rfl _ _ rfl p.ad HB.out PB.out ?_))
      go_ret
      exact ⟨ret_bool (by rw [HF.out]; rfl), B0.out⟩
    · go_wp2_with (first | (refine ld41 _ rfl rfl _ _ rfl o.ad HA.out PA.out ?_) | (refine ld41 _ rfl rfl _ _ rfl p.ad HB.out PB.out ?_))
      refine (cN.out _ B0.out).mono ?_
      rintro e w2 ⟨rfl, q, rfl⟩
      have B2 := hid (bdrew B0.out q)
      cases nb
      · go_wp2_with fail
        go_ret
        exact ⟨ret_bool (by rw [HF.out]; rfl), B2.out⟩
      · go_wp2_with fail
        refine (cT.out _ B2.out).mono ?_
        rintro e w3 ⟨rfl, q3, rfl⟩
        cases tb
        · go_wp2_with fail
          go_ret
          exact ⟨ret_bool (by rw [HF.out]; rfl), bdrew B0.out _⟩
        · go_wp2_with fail
          go_ret
          exact ⟨ret_bool (by rw [HF.out]; rfl), bdrew B0.out _⟩
end Go.Proofs.YtbgogeojdibmkaaDoor

namespace Go.Proofs.YtbgogeojdibmkaaDoor
open Go.ChangeShapes Go.WideShapes Go.ChangeAt Go.RowKit Go.Deep
set_option linter.unusedVariables false
set_option linter.unusedSimpArgs false

/-- Are the first ones the same? -/
def allTo (L M : List Po) (j : Nat) : Bool := (List.range j).all fun i => (L.getD i Po.none).eqB (M.getD i Po.none)
def allB (L M : List Po) : Bool := (L.length == M.length) && allTo L M L.length
theorem allTo_succ (L M : List Po) (j : Nat) : allTo L M (j + 1) = (allTo L M j && (L.getD j Po.none).eqB (M.getD j Po.none)) := by
  unfold allTo; rw [List.range_succ, List.all_append]; simp
theorem allTo_no (L M : List Po) (j n : Nat) (hj : j < n) (h : (L.getD j Po.none).eqB (M.getD j Po.none) = false) : allTo L M n = false := by
  unfold allTo; rw [List.all_eq_false]; exact ⟨j, by simpa using hj, by simpa using h⟩
theorem allB_self (L : List Po) : allB L L = true := by
  simp [allB, allTo, Po.eqB_self]
theorem allB_one (p q : Po) : allB [p] [q] = p.eqB q := by simp [allB, allTo, List.range_succ]
set_option maxRecDepth 100000 in
set_option maxHeartbeats 1600000 in
theorem equalFunc_any (a b : Option Addr) (n ca m cb : Nat) (L M : List Ov) (w : World) (hL : Opts w a n ca L) (hM : Opts w b m cb M) :
    Calls Tryd.prog 37 #[.slice a n ca, .slice b m cb, .func (.func 38) #[] #[]] w fun e w' => e = .returned (.bool (allB (pos L) (pos M))) ∧ Below w.heap.size w w' := by
  have hz := zov
  have k1 := Nat.le_trans hL.le hL.max
  have k2 := Nat.le_trans hM.le hM.max
  unfold maxLen at k1 k2
  have HL := hid hL
  have HM := hid hM
  have HF : Hid (allB (pos L) (pos M) = ((n == m) && allTo (pos L) (pos M) n)) := by rw [Hid, allB, pos_len, pos_len, hL.len, hM.len]
  have ll := hid hL.len
  have lm := hid hM.len
  clear hL hM
  generalize allB (pos L) (pos M) = fb at *
  by_cases hnm : n = m
  · subst hnm
    have HF : Hid (fb = allTo (pos L) (pos M) n) := by rw [Hid, HF.out]; simp
    go_enter Tryd.func37, Tryd.ntmps37
    go_wp2_with fail
    go_loopw [17] (fun i wr => ∃ j : Nat, j ≤ n ∧ i = .int .i64 j ∧ Hid (allTo (pos L) (pos M) j = true) ∧ Hid (Below w.heap.size w wr)) (fun i _ => n - (intOf i).toNat)
    case atStart => exact ⟨0, Nat.zero_le _, rfl, rfl, Below.refl _ _⟩
    case round =>
      obtain ⟨j, hj, rfl, hall, hb⟩ := hrel
      by_cases hlt : j < n
      · have hlt' : (j : Int) < (n : Int) := by omega
        obtain ⟨b1, off1, rfl, hp1⟩ := (HL.out.below hb.out).cell j hlt
        obtain ⟨b2, off2, rfl, hp2⟩ := (HM.out.below hb.out).cell j hlt
        have ok1 := (HL.out.below hb.out).at j hlt
        have ok2 := (HM.out.below hb.out).at j hlt
        have HS := hid (allTo_succ (pos L) (pos M) j)
        have HN := hid (allTo_no (pos L) (pos M) j n hlt)
        rw [pos_at L j (by rw [ll.out]; exact hlt), pos_at M j (by rw [lm.out]; exact hlt)] at HS HN
        generalize L.getD j Ov.zero = o at *
        generalize M.getD j Ov.zero = p at *
        have P1 := hid hp1
        have P2 := hid hp2
        have O1 := hid ok1
        have O2 := hid ok2
        have A1 := hid ok1.ad
        have A2 := hid ok2.ad
        clear hp1 hp2 ok1 ok2
        have Ra := hid (layO_new wr 43 o)
        have Ba := hid (layO_below wr 43 o)
        go_upto_region 6 with (first | (refine ldO o43 _ rfl rfl _ _ rfl o A1.out P1.out ?_) | (refine stO o43 _ _ rfl rfl wr.heap.size o A1.out rfl rfl 43 Ov.zero adr_zeros (Row.new wr 43 _) ?_))
        generalize hw2 : (wr.alloc (.cells Ov.zero.cs 43)).setRow wr.heap.size o.cs = w2 at *
        generalize hg1 : wr.heap.size = g1 at *
        have P3 := hid (Part.below P2.out (by rw [hg1]; exact Ba.out))
        have O3 := hid (O1.out.below (by rw [hg1]; exact Ba.out))
        have O4 := hid (O2.out.below (by rw [hg1]; exact Ba.out))
        have B3 := hid (bthen hb.out (by rw [hg1]; exact Ba.out))
        clear hw2 P1 P2 O1 O2
        have Rb := hid (layO_new w2 43 p)
        have Bb := hid (layO_below w2 43 p)
        have Rc := hid (Ra.out.below Bb.out)
        go_upto_region 7 with (first | (refine ldO o43 _ rfl rfl _ _ rfl p A2.out P3.out ?_) | (refine stO o43 _ _ rfl rfl w2.heap.size p A2.out rfl rfl 43 Ov.zero adr_zeros (Row.new w2 43 _) ?_))
        generalize hw3 : (w2.alloc (.cells Ov.zero.cs 43)).setRow w2.heap.size p.cs = w3 at *
        have O5 := hid (O3.out.below Bb.out)
        have O6 := hid (O4.out.below Bb.out)
        have B4 := hid (bthen B3.out Bb.out)
        generalize hg2 : w2.heap.size = g2 at *
        clear hw3 O3 O4 P3 hg1 hg2
        go_wp2_with (first | (refine ldO o43 _ rfl rfl _ _ rfl o A1.out Rc.out.part ?_) | (refine ldO o43 _ rfl rfl _ _ rfl p A2.out Rb.out.part ?_))
        refine (same1_any o p _ O5.out O6.out).mono ?_
        rintro e w4 ⟨rfl, hb4⟩
        have B5 := hid (bthen B4.out hb4)
        clear hb4
        cases hc : o.p.eqB p.p
        · rw [hc] at HN
          go_wp2_with fail
          go_ret
          exact ⟨ret_bool (by rw [HF.out]; exact (HN.out (by simp)).symm), B5.out⟩
        · rw [hc] at HS
          go_wp2_with fail
          go_roundw
          case rel => exact ⟨j + 1, by omega, by go_num, by rw [Hid, HS.out, hall.out]; rfl, B5.out⟩
          case measure => simp [intOf]; omega
      · obtain rfl : j = n := by omega
        go_wp2_with fail
        go_ret
        exact ⟨ret_bool (by rw [HF.out]; exact hall.out.symm), hb.out⟩
  · have hne : ((n : Int) != (m : Int)) = true := by rw [bne_iff_ne]; omega
    have HF : Hid (fb = false) := by rw [Hid, HF.out]; simp [hnm]
    clear hnm
    go_enter Tryd.func37, Tryd.ntmps37
    go_wp2_with fail
    go_ret
    exact ⟨ret_bool HF.out.symm, Below.refl _ _⟩
theorem oSame_any (a b : Option Addr) (n ca m cb : Nat) (L M : List Ov) (w : World) (hL : Opts w a n ca L) (hM : Opts w b m cb M) :
    Calls Tryd.prog 21 #[.slice a n ca, .slice b m cb] w fun e w' => e = .returned (.bool (allB (pos L) (pos M))) ∧ Below w.heap.size w w' := by
  have HL := hid hL
  have HM := hid hM
  clear hL hM
  go_enter Tryd.func21, Tryd.ntmps21
  go_wp2_with fail
  refine (equalFunc_any a b n ca m cb L M _ HL.out HM.out).mono ?_
  rintro e w' ⟨rfl, hb⟩
  go_wp2_with fail
  go_ret
  exact ⟨rfl, hb⟩
end Go.Proofs.YtbgogeojdibmkaaDoor

namespace Go.Proofs.YtbgogeojdibmkaaDoor
open Go.ChangeShapes Go.WideShapes Go.ChangeAt Go.RowKit Go.Deep
set_option linter.unusedVariables false
set_option linter.unusedSimpArgs false

theorem eqB_bits (o p : Ov) : o.p.eqB p.p = (o.k == p.k && (o.ad == p.ad && (o.n.l == p.n.l && o.t.l == p.t.l))) := rfl
set_option maxRecDepth 100000 in
set_option maxHeartbeats 1600000 in
theorem refSame_any (o p : Ov) (w : World) (ho : o.ok w) (hp : p.ok w) :
    Calls Tryd.prog 36 #[.agg o.cs, .agg p.cs] w fun e w' => e = .returned (.bool (o.p.eqB p.p)) ∧ Below w.heap.size w w' := by
  have B0 := hid (balloc (balloc (Below.refl w.heap.size w) (.cells o.cs 38)) (.cells p.cs 38))
  have R0 := hid ((Row.new w 38 o.cs).alloc (.cells p.cs 38))
  have R1 := hid (Row.new (w.alloc (.cells o.cs 38)) 38 p.cs)
  have hs1 : (w.alloc (.cells o.cs 38)).heap.size = w.heap.size + 1 := World.size_alloc ..
  rw [hs1] at R1
  have O0 := hid (ho.below B0.out)
  have P0 := hid (hp.below B0.out)
  have HA := hid ho.ad
  have HB := hid hp.ad
  have hq := eq36 o.ad p.ad ho.ad.1 hp.ad.1
  have HF : Hid (o.p.eqB p.p = (o.k == p.k && (o.ad == p.ad && (o.n.l == p.n.l && o.t.l == p.t.l)))) := eqB_bits o p
  have cT := hid (fun w' (hb : Below w.heap.size w w') => same_any o.t.a p.t.a o.t.n o.t.cap p.t.n p.t.cap o.t.l p.t.l w' (ho.t.below hb) (hp.t.below hb))
  have ln := hid ho.n.1
  have lm := hid hp.n.1
  have k1 := Nat.le_trans ho.n.2.1 ho.n.2.2.1
  have k2 := Nat.le_trans hp.n.2.1 hp.n.2.2.1
  unfold maxLen at k1 k2
  generalize o.p.eqB p.p = fb at *
  clear ho hp hs1
  generalize hkk : (o.k == p.k) = kb at *
  generalize (o.ad == p.ad) = ab at *
  have hkn : (o.k != p.k) = !kb := by rw [bne, hkk]
  clear hkk
  go_enter Tryd.func36, Tryd.ntmps36
  go_upto_region 1 with fail
  generalize hw1 : (w.alloc (.cells o.cs 38)).alloc (.cells p.cs 38) = w1 at *
  have a0 := (R0.out.cell 0).trans o.at0
  have b0 := (R1.out.cell 0).trans p.at0
  have a1 := (R0.out.cell 1).trans o.at1
  have b1 := (R1.out.cell 1).trans p.at1
  have a18 := (R0.out.cell 18).trans (Ov.at18 HA.out)
  have b18 := (R1.out.cell 18).trans (Ov.at18 HB.out)
  have PA := hid (R0.out.part.ovA HA.out)
  have PB := hid (R1.out.part.ovA HB.out)
  clear hw1
  cases kb
  · go_wp2_with fail
    go_ret
    exact ⟨ret_bool (by rw [HF.out]; rfl), B0.out⟩
  · cases ab
    · go_wp2_with (first | (refine ld36 _ rfl rfl _ _ rfl o.ad HA.out PA.out ?_) | (refine ld36 _ rfl rfl _ _ rfl p.ad HB.out PB.out ?_))
      go_ret
      exact ⟨ret_bool (by rw [HF.out]; rfl), B0.out⟩
    · have HF : Hid (fb = (o.n.l == p.n.l && o.t.l == p.t.l)) := by rw [Hid, HF.out]; simp
      by_cases hnn : o.n.n = p.n.n
      · have lm2 : Hid (p.n.l.length = o.n.n) := by rw [Hid, lm.out, hnn]
        rw [← hnn] at b1
        generalize hn : o.n.n = n at *
        have L1 := hid O0.out.n
        have L2 := hid P0.out.n
        rw [hn] at L1
        rw [← hnn] at L2
        have hne : ((n : Int) != (n : Int)) = false := by simp
        clear hnn hn
        go_wp2_with (first | (refine ld36 _ rfl rfl _ _ rfl o.ad HA.out PA.out ?_) | (refine ld36 _ rfl rfl _ _ rfl p.ad HB.out PB.out ?_))
        go_loopw [5] (fun i wr => ∃ k : Nat, k ≤ n ∧ i = .int .i64 k ∧ Hid (o.n.l.take k = p.n.l.take k) ∧ ∃ q, wr = w1.drewN q) (fun i _ => n - (intOf i).toNat)
        case atStart => exact ⟨0, Nat.zero_le _, rfl, rfl, 0, rfl⟩
        case round =>
          obtain ⟨k, hk, rfl, hall, q, rfl⟩ := hrel
          by_cases hlt : k < n
          · obtain ⟨b1', off1, hna, hcell1⟩ := L1.out.2.2.2.2 k hlt
            obtain ⟨b2', off2, hpa, hcell2⟩ := L2.out.2.2.2.2 k hlt
            have HD : Hid (o.n.l.getD k 0 ≠ p.n.l.getD k 0 → (o.n.l == p.n.l) = false) := take_differ _ _ k (by rw [ln.out]; exact hlt) (by rw [lm2.out]; exact hlt)
            have HS : Hid (o.n.l.getD k 0 = p.n.l.getD k 0 → o.n.l.take (k + 1) = p.n.l.take (k + 1)) := take_same _ _ k (by rw [ln.out]; exact hlt) (by rw [lm2.out]; exact hlt) hall.out
            have hlt' : (k : Int) < (n : Int) := by omega
            rw [hna] at a1
            rw [hpa] at b1
            generalize o.n.l.getD k 0 = x at *
            generalize p.n.l.getD k 0 = y at *
            go_wp2_with fail
            go_quiet (fail)
            by_cases hxy : x = y
            · have hb : (x != y) = false := by simp [hxy]
              have HX : Hid (x = y) := hxy
              clear hxy
              go_wp2_with fail
              go_roundw
              case rel => exact ⟨k + 1, by omega, by go_num, HS.out HX.out, q + nq, rfl⟩
              case measure => simp [intOf]; omega
            · have hb : (x != y) = true := by rw [bne_iff_ne]; exact hxy
              go_wp2_with fail
              go_ret
              exact ⟨ret_bool (by rw [HF.out, HD.out hxy]; rfl), by first | exact bdrew B0.out _ | exact bdrew (bdrew B0.out _) _⟩
          · obtain rfl : k = n := by omega
            have HE : Hid ((o.n.l == p.n.l) = true) := by
              have := hall.out
              rw [List.take_of_length_le (by rw [ln.out]; exact Nat.le_refl _), List.take_of_length_le (by rw [lm2.out]; exact Nat.le_refl _)] at this
              rw [Hid, this]; simp
            have B2 := hid (bdrew B0.out q)
            generalize hw2 : w1.drewN q = w2 at *
            have a18' : w2.cell? ⟨w.heap.size, 18, none⟩ = some (.slice o.t.a o.t.n o.t.cap) := by rw [← hw2]; exact a18
            have b18' : w2.cell? ⟨w.heap.size + 1, 18, none⟩ = some (.slice p.t.a p.t.n p.t.cap) := by rw [← hw2]; exact b18
            have a1' : w2.cell? ⟨w.heap.size, 1, none⟩ = some (.slice o.n.a k o.n.cap) := by rw [← hw2]; exact a1
            clear hw2
            go_wp2_with fail
            refine (cT.out _ B2.out).mono ?_
            rintro e w3 ⟨rfl, q3, rfl⟩
            go_wp2_with fail
            go_ret
            exact ⟨ret_bool (by rw [HF.out, HE.out]; simp), bdrew B2.out _⟩
      · have hne : ((o.n.n : Int) != (p.n.n : Int)) = true := by rw [bne_iff_ne]; omega
        have HE : Hid ((o.n.l == p.n.l) = false) := by
          rw [Hid, beq_eq_false_iff_ne]
          intro e
          exact hnn (by rw [← ln.out, ← lm.out, e])
        clear hnn
        go_wp2_with (first | (refine ld36 _ rfl rfl _ _ rfl o.ad HA.out PA.out ?_) | (refine ld36 _ rfl rfl _ _ rfl p.ad HB.out PB.out ?_))
        go_ret
        exact ⟨ret_bool (by rw [HF.out, HE.out]; rfl), B0.out⟩
end Go.Proofs.YtbgogeojdibmkaaDoor

namespace Go.Proofs.YtbgogeojdibmkaaDoor
open Go.ChangeShapes Go.WideShapes Go.ChangeAt Go.RowKit Go.Deep
set_option linter.unusedVariables false
set_option linter.unusedSimpArgs false

set_option maxRecDepth 100000 in
set_option maxHeartbeats 1600000 in
theorem refAll_any (a b : Option Addr) (n ca m cb : Nat) (L M : List Ov) (w : World) (hL : Opts w a n ca L) (hM : Opts w b m cb M) :
    Calls Tryd.prog 20 #[.slice a n ca, .slice b m cb] w fun e w' => e = .returned (.bool (allB (pos L) (pos M))) ∧ Below w.heap.size w w' := by
  have k1 := Nat.le_trans hL.le hL.max
  have k2 := Nat.le_trans hM.le hM.max
  unfold maxLen at k1 k2
  have HL := hid hL
  have HM := hid hM
  have HF : Hid (allB (pos L) (pos M) = ((n == m) && allTo (pos L) (pos M) n)) := by rw [Hid, allB, pos_len, pos_len, hL.len, hM.len]
  have ll := hid hL.len
  have lm := hid hM.len
  clear hL hM
  generalize allB (pos L) (pos M) = fb at *
  by_cases hnm : n = m
  · subst hnm
    have HF : Hid (fb = allTo (pos L) (pos M) n) := by rw [Hid, HF.out]; simp
    go_enter Tryd.func20, Tryd.ntmps20
    go_wp2_with fail
    go_loopw [5] (fun i wr => ∃ j : Nat, j ≤ n ∧ i = .int .i64 j ∧ Hid (allTo (pos L) (pos M) j = true) ∧ Hid (Below w.heap.size w wr)) (fun i _ => n - (intOf i).toNat)
    case atStart => exact ⟨0, Nat.zero_le _, rfl, rfl, Below.refl _ _⟩
    case round =>
      obtain ⟨j, hj, rfl, hall, hb⟩ := hrel
      by_cases hlt : j < n
      · have hlt' : (j : Int) < (n : Int) := by omega
        obtain ⟨b1, off1, rfl, hp1⟩ := (HL.out.below hb.out).cell j hlt
        obtain ⟨b2, off2, rfl, hp2⟩ := (HM.out.below hb.out).cell j hlt
        have ok1 := (HL.out.below hb.out).at j hlt
        have ok2 := (HM.out.below hb.out).at j hlt
        have HS := hid (allTo_succ (pos L) (pos M) j)
        have HN := hid (allTo_no (pos L) (pos M) j n hlt)
        rw [pos_at L j (by rw [ll.out]; exact hlt), pos_at M j (by rw [lm.out]; exact hlt)] at HS HN
        generalize L.getD j Ov.zero = o at *
        generalize M.getD j Ov.zero = p at *
        have P1 := hid hp1
        have P2 := hid hp2
        have O1 := hid ok1
        have O2 := hid ok2
        have A1 := hid ok1.ad
        have A2 := hid ok2.ad
        clear hp1 hp2 ok1 ok2
        go_wp2_with fail
        refine wp_region_held_drew (S := fun w' => Hid (Part w' b1 (off1 + j * 19) o.cs) ∧ Hid (Part w' b2 (off2 + j * 19) p.cs)) (by kernel_rfl) ?_ (fun hHeld => ?_)
        · exact ⟨P1.out, P2.out⟩
        refine wpAnyH_take (i := 0) (oi := _) (v := ?va0) rfl (by kernel_rfl) (by kernel_rfl) (by kernel_rfl) (fun _ _ _ h => h) (Or.inl ⟨by rfl, ?hya0⟩) (by assumption) ?resta0
        case hya0 => (intro w hSw; (try dsimp only at hSw); go_split_ands; go_simp; try (with_reducible rfl))
        try simp only [List.getElem_toArray, List.getElem_cons_zero, List.getElem_cons_succ, Act.put, List.setIfInBounds_toArray, List.set_cons_zero, List.set_cons_succ]
        refine wpAnyH_take (i := 1) (oi := _) (v := ?va1) rfl (by kernel_rfl) (by kernel_rfl) (by kernel_rfl) (fun _ _ _ h => h) (Or.inl ⟨by rfl, ?hya1⟩) (by assumption) ?resta1
        case hya1 => (intro w hSw; (try dsimp only at hSw); go_split_ands; go_simp; try (with_reducible rfl))
        try simp only [List.getElem_toArray, List.getElem_cons_zero, List.getElem_cons_succ, Act.put, List.setIfInBounds_toArray, List.set_cons_zero, List.set_cons_succ]
        refine wpAnyH_take (i := 2) (oi := _) (v := ?va2) rfl (by kernel_rfl) (by kernel_rfl) (by kernel_rfl) (fun _ _ _ h => h) (Or.inl ⟨by rfl, ?hya2⟩) (by assumption) ?resta2
        case hya2 => (intro w hSw; (try dsimp only at hSw); go_split_ands; go_simp; try (with_reducible rfl))
        try simp only [List.getElem_toArray, List.getElem_cons_zero, List.getElem_cons_succ, Act.put, List.setIfInBounds_toArray, List.set_cons_zero, List.set_cons_succ]
        refine wpAnyH_take (i := 3) (oi := _) (v := .agg o.cs) rfl (by kernel_rfl) (by kernel_rfl) (by kernel_rfl) (fun _ _ _ h => h) (yldO o38 (by rfl) _ rfl b1 (off1 + j * 19) rfl o A1.out (fun w h => h.1.out)) (by assumption) ?_
        try simp only [List.getElem_toArray, List.getElem_cons_zero, List.getElem_cons_succ, Act.put, List.setIfInBounds_toArray, List.set_cons_zero, List.set_cons_succ]
        refine wpAnyH_take (i := 4) (oi := _) (v := ?va4) rfl (by kernel_rfl) (by kernel_rfl) (by kernel_rfl) (fun _ _ _ h => h) (Or.inl ⟨by rfl, ?hya4⟩) (by assumption) ?resta4
        case hya4 => (intro w hSw; (try dsimp only at hSw); go_split_ands; go_simp; try (with_reducible rfl))
        try simp only [List.getElem_toArray, List.getElem_cons_zero, List.getElem_cons_succ, Act.put, List.setIfInBounds_toArray, List.set_cons_zero, List.set_cons_succ]
        refine wpAnyH_take (i := 5) (oi := _) (v := ?va5) rfl (by kernel_rfl) (by kernel_rfl) (by kernel_rfl) (fun _ _ _ h => h) (Or.inl ⟨by rfl, ?hya5⟩) (by assumption) ?resta5
        case hya5 => (intro w hSw; (try dsimp only at hSw); go_split_ands; go_simp; try (with_reducible rfl))
        try simp only [List.getElem_toArray, List.getElem_cons_zero, List.getElem_cons_succ, Act.put, List.setIfInBounds_toArray, List.set_cons_zero, List.set_cons_succ]
        refine wpAnyH_take (i := 6) (oi := _) (v := ?va6) rfl (by kernel_rfl) (by kernel_rfl) (by kernel_rfl) (fun _ _ _ h => h) (Or.inl ⟨by rfl, ?hya6⟩) (by assumption) ?resta6
        case hya6 => (intro w hSw; (try dsimp only at hSw); go_split_ands; go_simp; try (with_reducible rfl))
        try simp only [List.getElem_toArray, List.getElem_cons_zero, List.getElem_cons_succ, Act.put, List.setIfInBounds_toArray, List.set_cons_zero, List.set_cons_succ]
        refine wpAnyH_take (i := 7) (oi := _) (v := .agg p.cs) rfl (by kernel_rfl) (by kernel_rfl) (by kernel_rfl) (fun _ _ _ h => h) (yldO o38 (by rfl) _ rfl b2 (off2 + j * 19) rfl p A2.out (fun w h => h.2.out)) (by assumption) ?_
        try simp only [List.getElem_toArray, List.getElem_cons_zero, List.getElem_cons_succ, Act.put, List.setIfInBounds_toArray, List.set_cons_zero, List.set_cons_succ]
        refine wpAnyH_ready (rs := [8]) (by kernel_rfl) (by simp) ?_
        refine AllReadyH.cons (o := _) rfl (fun K hK => ?_) AllReadyH.nil
        go_simp
        refine (refSame_any o p _ (by exact O1.out.drewN 1) (by exact O2.out.drewN 1)).mono ?_
        rintro e w4 ⟨rfl, hb4⟩
        have hb4 : Below wr.heap.size wr.drew w4 := hb4
        have hb5 : Below wr.heap.size wr w4 := (bdrew (Below.refl wr.heap.size wr) 1).trans hb4
        have B5 := hid (bthen hb.out hb5)
        have P3 := hid (Part.below P1.out hb5)
        have P4 := hid (Part.below P2.out hb5)
        clear hb4 hb5
        go_wp2_with fail
        refine hK.out _ _ ⟨P3.out, P4.out⟩ (fun hHeld => ?_)
        clear hK K
        try simp only [List.getElem_toArray, List.getElem_cons_zero, List.getElem_cons_succ, Act.put, List.setIfInBounds_toArray, List.set_cons_zero, List.set_cons_succ]
        refine wpAnyH_take (i := 9) (oi := _) (v := ?va9) rfl (by kernel_rfl) (by kernel_rfl) (by kernel_rfl) (fun _ _ _ h => h) (Or.inl ⟨by rfl, ?hya9⟩) (by assumption) ?resta9
        case hya9 => (intro w hSw; (try dsimp only at hSw); go_split_ands; go_simp; try (with_reducible rfl))
        try simp only [List.getElem_toArray, List.getElem_cons_zero, List.getElem_cons_succ, Act.put, List.setIfInBounds_toArray, List.set_cons_zero, List.set_cons_succ]
        refine wpAnyH_done (by kernel_rfl) ?_ _
        cases hc : o.p.eqB p.p
        · rw [hc] at HN
          go_wp2_with fail
          go_ret
          exact ⟨ret_bool (by rw [HF.out]; exact (HN.out (by simp)).symm), B5.out⟩
        · rw [hc] at HS
          go_wp2_with fail
          go_roundw
          case rel => exact ⟨j + 1, by omega, by go_num, by rw [Hid, HS.out, hall.out]; rfl, B5.out⟩
          case measure => simp [intOf]; omega
      · obtain rfl : j = n := by omega
        go_wp2_with fail
        go_ret
        exact ⟨ret_bool (by rw [HF.out]; exact hall.out.symm), hb.out⟩
  · have hne : ((n : Int) != (m : Int)) = true := by rw [bne_iff_ne]; omega
    have HF : Hid (fb = false) := by rw [Hid, HF.out]; simp [hnm]
    clear hnm
    go_enter Tryd.func20, Tryd.ntmps20
    go_wp2_with fail
    go_ret
    exact ⟨ret_bool HF.out.symm, Below.refl _ _⟩
end Go.Proofs.YtbgogeojdibmkaaDoor

namespace Go.Proofs.YtbgogeojdibmkaaDoor
open Go.ChangeShapes Go.WideShapes Go.ChangeAt Go.RowKit Go.Deep
set_option linter.unusedVariables false
set_option linter.unusedSimpArgs false

theorem of_law (a : Option Addr) (n cap : Nat) (L : List Ov) (w : World) (hL : Opts w a n cap L) (hn : n ≤ 1000) :
    Calls Tryd.prog 8 #[.slice a n cap] w fun e w' => (∃ a' cap', e = .returned (.slice a' n cap') ∧ Hid (Opts w' a' n cap' L)) ∧ Below w.heap.size w w' := by
  refine (of_any a n cap L w hL hn).mono ?_
  rintro e w' ⟨a', cap', rfl, hO, hb⟩
  exact ⟨⟨a', cap', rfl, hO⟩, hb⟩
theorem encE_bd (L : List Po) (h : L.length ≤ 1000) (hA : ∀ o ∈ L, o.ad.length = 16) : (encL L).length ≤ 1280 := by
  unfold encL
  split
  · rename_i h2; exact (encE_0 h2).2.2
  · simp
theorem partsB_oct (P : List (Int × Int)) (ad : List Int) (h : Oct ad) : ∀ n, Oct (partsB P n ad) := by
  induction P with
  | nil => intro n x hx; cases hx
  | cons q P ih =>
    intro n x hx
    rw [partsB] at hx
    split at hx
    · rcases List.mem_append.1 hx with e | e
      · exact h x e
      · exact ih _ x e
    · rcases List.mem_append.1 hx with e | e
      · exact digs_oct _ _ x e
      · exact ih _ x e
theorem encP_oct {o : Po} (h : chkP o = 0) (ha : Adr o.ad) (ht : Oct o.t) : Oct (encP o) := by
  obtain ⟨k, hk, hk10⟩ := knd_nat (chk0 h).1
  have hl := conP_le hk10 hk h ha.1
  have hc : Oct (conP k o) := by
    unfold conP
    split
    · intro x hx; have := (List.mem_replicate.1 hx).2; omega
    · intro x hx
      rcases List.mem_append.1 hx with e | e
      · exact partsB_oct _ _ ha.2 _ x e
      · exact ht x e
  unfold encP
  split
  · intro x hx; simp at hx; omega
  · rw [hk, Int.toNat_natCast]
    intro x hx
    rcases List.mem_cons.1 hx with e | e
    · omega
    · rcases List.mem_cons.1 e with e | e
      · omega
      · exact hc x e
theorem encL_oct {L : List Ov} (h : ∀ o ∈ L, Adr o.ad ∧ Oct o.t.l) : Oct (encL (pos L)) := by
  unfold encL
  split
  · rename_i h0
    have h1 := (encE_0 h0).2.1
    intro x hx
    obtain ⟨p, hp, hx⟩ := List.mem_flatMap.1 hx
    obtain ⟨o, ho, rfl⟩ := List.mem_map.1 hp
    exact encP_oct (h1 _ hp) (h o ho).1 (h o ho).2 x hx
  · intro x hx; cases hx
theorem decode_law {B : Nat} (a : Option Addr) (len cap : Nat) (X : List Ov) (w : World) (h : Lies .u8 w a len cap (encL (pos X))) (ho : Oct (encL (pos X))) (hl : len ≤ 100000) (hV : Vars B w) (hE : encE (pos X) = 0) (hA : ∀ o ∈ X, Adr o.ad) :
    Calls Tryd.prog 19 #[.slice a len cap] w fun e w' => (∃ a' m cap' L', e = .returned (.tuple #[.slice a' m cap', .int .i64 0]) ∧ m ≤ 16 ∧ Hid (Opts w' a' m cap' L') ∧ Hid (pos L' = pos X)) ∧ Below w.heap.size w w' := by
  have hd := dec_of hE (fun p hp => by obtain ⟨o, ho, rfl⟩ := List.mem_map.1 hp; exact (hA o ho).1)
  refine (decode_any a len cap (encL (pos X)) w h ho hl hV).mono ?_
  rintro e w' ⟨v, L, rfl, hb, hown, hO, hp, h16⟩
  obtain ⟨a', cap', rfl, hOp⟩ := owns_opts hown (fun o ho => (hO o ho).ok)
  rw [hd] at hp ⊢
  exact ⟨⟨a', L.length, cap', L, rfl, h16, hOp, hid (by simpa using hp)⟩, hb⟩
set_option maxRecDepth 1000000 in
set_option maxHeartbeats 6400000 in
theorem bytes_walk (a1 : Option Addr) (n1 c1 : Nat) (L1 : List Ov) (kind : Int) (w : World) (h1 : OptsW w a1 n1 c1 L1) (hkd : (Lit.int .i64 kind).wf = true) (hV : Vars w.heap.size w) :
    Calls Tryd.prog 3 #[.slice a1 n1 c1, .int .i64 kind] w fun e w' => e = .returned (.bool true) ∧ Below w.heap.size w w' := by
  have I1 := hid h1
  have HV := hid hV
  clear h1 hV hkd
  go_enter Tryd.func3, Tryd.ntmps3
  go_wp2_with fail
  refine (to_w a1 n1 c1 L1 _ I1.out).mono ?_
  rintro e w1 ⟨⟨xa, xn, xc, X, rfl, hx20, hX, hW⟩, hb1⟩
  have X1 := hid hX.out
  have XW := hid hW.out
  have XA : Hid (∀ o ∈ X, Adr o.ad) := fun o ho => (hX.out.ok o ho).ad
  have B1 := hid hb1
  have V1 := hid (HV.out.below hb1)
  clear hX hW hb1 I1 HV
  go_wp2_with fail
  refine (of_law xa xn xc X _ X1.out (by omega)).mono ?_
  rintro e w2 ⟨⟨ya, yc, rfl, hY⟩, hb2⟩
  have Y2 := hid hY.out
  have X2 := hid (X1.out.below hb2)
  have V2 := hid (V1.out.below hb2)
  have B2 := hid (bthen B1.out hb2)
  clear hY hb2 X1 V1 B1
  go_wp2_with fail
  refine (encode_any xa xn xc X _ X2.out V2.out (by omega)).mono ?_
  rintro e w3 ⟨v3, rfl, hown3, hb3⟩
  have HXL : Hid ((pos X).length ≤ 1000) := by rw [Hid, pos_len, X2.out.len]; omega
  have hl3 := encE_bd (pos X) HXL.out (fun p hp => by obtain ⟨o, ho, rfl⟩ := List.mem_map.1 hp; exact (XA.out o ho).1)
  obtain ⟨ba, bc, rfl, hb8, ho8⟩ := owns_lies hown3
  have Y3 := hid (Y2.out.below hb3)
  have X3 := hid (X2.out.below hb3)
  have V3 := hid (V2.out.below hb3)
  have B3 := hid (bthen B2.out hb3)
  have LB3 := hid hb8
  clear hown3 hb3 X2 Y2 V2 B2 hb8
  go_wp2_with fail
  refine (refEncodeAll_any ya xn yc X _ Y3.out XW.out (by omega)).mono ?_
  rintro e w4 ⟨v4, rfl, hown4, hb4⟩
  obtain ⟨ca, cc, rfl, hc8, _⟩ := owns_lies hown4
  have Y4 := hid (Y3.out.below hb4)
  have X4 := hid (X3.out.below hb4)
  have V4 := hid (V3.out.below hb4)
  have B4 := hid (bthen B3.out hb4)
  have LB4 := hid (LB3.out.below hb4)
  have LC4 := hid hc8
  have OO := hid ho8
  clear hown4 hb4 X3 Y3 V3 B3 hc8 LB3 ho8
  generalize hbl : (encL (pos X)).length = bl at *
  have HBL := hid hbl
  clear hbl
  generalize hee : encE (pos X) = ee at *
  have HEE := hid hee
  clear hee
  go_wp2_with fail
  refine (same_any ba ca bl bc bl cc _ _ _ LB4.out LC4.out).mono ?_
  rintro e w5 ⟨rfl, q, rfl⟩
  have hsm : (encL (pos X) == encL (pos X)) = true := by simp
  rw [hsm]
  have Y5 := hid (Y4.out.below (bdrew (Below.refl _ _) q))
  have X5 := hid (X4.out.below (bdrew (Below.refl _ _) q))
  have V5 := hid (V4.out.below (bdrew (Below.refl _ _) q))
  have LB5 := hid (LB4.out.below (bdrew (Below.refl _ _) q))
  have B5 := hid (bdrew B4.out q)
  generalize w4.drewN q = wq at *
  clear LB4 LC4 X4 Y4 V4 B4 hsm
  go_wp2_with fail
  refine (word_any kind _ V5.out).mono ?_
  rintro e w6 ⟨rfl, rfl⟩
  go_wp2_with fail
  refine (refWord_any kind _).mono ?_
  rintro e w7 ⟨rfl, hb7⟩
  have Y7 := hid (Y5.out.below hb7)
  have X7 := hid (X5.out.below hb7)
  have V7 := hid (V5.out.below hb7)
  have LB7 := hid (LB5.out.below hb7)
  have B7 := hid (bthen B5.out hb7)
  clear hb7 X5 Y5 V5 LB5 B5
  generalize wordOf kind = wk at *
  go_wp2_with fail
  go_loopw [11] (fun i wr => ∃ j : Nat, j ≤ xn ∧ i = .int .i64 j ∧ Hid (Below w7.heap.size w7 wr)) (fun i _ => xn - (intOf i).toNat)
  case atStart => exact ⟨0, Nat.zero_le _, rfl, Below.refl _ _⟩
  case round =>
    obtain ⟨j, hj, rfl, hbo⟩ := hrel
    by_cases hlt : j < xn
    · have hlt' : (j : Int) < (xn : Int) := by omega
      have hX1 := X7.out.below hbo.out
      have hY1 := Y7.out.below hbo.out
      have V1 := hid (V7.out.below hbo.out)
      obtain ⟨xb, xoff, rfl, hxp⟩ := hX1.cell j hlt
      obtain ⟨yb, yoff, rfl, hyp⟩ := hY1.cell j hlt
      have hjl : j < X.length := by rw [X7.out.len]; exact hlt
      have hok := hX1.at j hlt
      have hmem : X.getD j Ov.zero ∈ X := by simp [hjl]
      have HW1 := hid (XW.out _ hmem)
      generalize hoo : X.getD j Ov.zero = o at *
      have PX1 := hid hxp
      have PY1 := hid hyp
      have OK1 := hid hok
      have HA := hid hok.ad
      have B1 := hbo
      clear hX1 hY1 hxp hyp hok hoo hmem hjl
      go_wp2_with (with_reducible refine wpl_id ?_; refine ldO o38 _ rfl rfl _ _ rfl o HA.out PY1.out ?_)
      refine (refCheck_any o _ OK1.out HW1.out).mono ?_
      rintro e w2 ⟨rfl, hb2⟩
      have PX2 := hid (PX1.out.below hb2)
      have PY2 := hid (PY1.out.below hb2)
      have OK2 := hid (OK1.out.below hb2)
      have V2 := hid (V1.out.below hb2)
      have B2 := hid (bthen B1.out hb2)
      clear hb2 PX1 PY1 OK1 V1 B1
      by_cases hc : chkP o.p = 0
      · have HC := hid hc
        have HSz : Hid (sizP o.p = ((encP o.p).length : Int)) := by rw [Hid, sizP, if_pos hc]
        rw [hc]
        clear hc
        go_wp2_with (with_reducible refine wpl_id ?_; refine ldO o38 _ rfl rfl _ _ rfl o HA.out PY2.out ?_)
        refine (refEncode_any o _ OK2.out HC.out).mono ?_
        rintro e w3 ⟨v3, rfl, hown3, hb3⟩
        obtain ⟨a3, c3, rfl⟩ := owns_len hown3
        have PX4 := hid (PX2.out.below hb3)
        have OK4 := hid (OK2.out.below hb3)
        have V4 := hid (V2.out.below hb3)
        have B4 := hid (bthen B2.out hb3)
        clear hb3 hown3 PX2 PY2 OK2 V2 B2
        generalize (encP o.p).length = el at *
        go_wp2_with (with_reducible refine wpl_id ?_; refine ldO o43 _ rfl rfl _ _ rfl o HA.out PX4.out ?_)
        refine (check_any o _ OK4.out V4.out).mono ?_
        rintro e w5 ⟨rfl, hb5⟩
        have PX5 := hid (PX4.out.below hb5)
        have OK5 := hid (OK4.out.below hb5)
        have V5 := hid (V4.out.below hb5)
        have B5 := hid (bthen B4.out hb5)
        clear hb5 PX4 OK4 V4 B4
        rw [HC.out]
        go_wp2_with (with_reducible refine wpl_id ?_; refine ldO o43 _ rfl rfl _ _ rfl o HA.out PX5.out ?_)
        refine (size_any o _ OK5.out V5.out).mono ?_
        rintro e w6 ⟨rfl, hb6⟩
        rw [HSz.out]
        have B6 := hid (bthen B5.out hb6)
        clear hb6 PX5 OK5 V5 B5
        go_wp2_with fail
        go_roundw
        case rel => exact ⟨j + 1, by omega, by go_num, B6.out⟩
        case measure => simp [intOf]; omega
      · generalize hck : chkP o.p = ck at *
        have hc1 : (ck == 0) = false := by simp [hc]
        have HSz : Hid (sizP o.p = 0) := by rw [Hid, sizP, if_neg (by rw [hck]; exact hc)]
        have HCK := hid hck
        clear hck hc
        have PX4 := PX2
        have OK4 := OK2
        have V4 := V2
        have B4 := B2
        clear PX2 PY2 OK2 V2 B2
        go_wp2_with (with_reducible refine wpl_id ?_; refine ldO o43 _ rfl rfl _ _ rfl o HA.out PX4.out ?_)
        refine (check_any o _ OK4.out V4.out).mono ?_
        rintro e w5 ⟨rfl, hb5⟩
        have PX5 := hid (PX4.out.below hb5)
        have OK5 := hid (OK4.out.below hb5)
        have V5 := hid (V4.out.below hb5)
        have B5 := hid (bthen B4.out hb5)
        clear hb5 PX4 OK4 V4 B4
        rw [HCK.out]
        go_wp2_with (with_reducible refine wpl_id ?_; refine ldO o43 _ rfl rfl _ _ rfl o HA.out PX5.out ?_)
        refine (size_any o _ OK5.out V5.out).mono ?_
        rintro e w6 ⟨rfl, hb6⟩
        rw [HSz.out]
        have B6 := hid (bthen B5.out hb6)
        clear hb6 PX5 OK5 V5 B5
        go_wp2_with fail
        go_roundw
        case rel => exact ⟨j + 1, by omega, by go_num, B6.out⟩
        case measure => simp [intOf]; omega
    · obtain rfl : j = xn := by omega
      have X8 := hid (X7.out.below hbo.out)
      have Y8 := hid (Y7.out.below hbo.out)
      have V8 := hid (V7.out.below hbo.out)
      have LB8 := hid (LB7.out.below hbo.out)
      have B8 := hid (bthen B7.out hbo.out)
      clear X7 Y7 V7 LB7 B7 hbo
      by_cases he : ee = 0
      · subst he
        go_wp2_with fail
        refine (decode_law ba bl bc X _ LB8.out (encL_oct (fun o ho => ⟨XA.out o ho, (X8.out.ok o ho).oct⟩)) (by omega) V8.out HEE.out XA.out).mono ?_
        rintro e w9 ⟨⟨za, zn, zc, Z, rfl, hz16, hZ, hZp⟩, hb9⟩
        have X9 := hid (X8.out.below hb9)
        have Y9 := hid (Y8.out.below hb9)
        have V9 := hid (V8.out.below hb9)
        have B9 := hid (bthen B8.out hb9)
        have Z9 := hid hZ.out
        have HZP := hid hZp.out
        clear hb9 hZ hZp X8 Y8 V8 B8 LB8
        go_wp2_with fail
        refine (known_any _ V9.out).mono ?_
        rintro e w10 ⟨rfl, hb10⟩
        have X10 := hid (X9.out.below hb10)
        have Y10 := hid (Y9.out.below hb10)
        have Z10 := hid (Z9.out.below hb10)
        have B10 := hid (bthen B9.out hb10)
        clear hb10 X9 Y9 V9 B9 Z9
        go_wp2_with fail
        refine (of_law za zn zc Z _ Z10.out (by omega)).mono ?_
        rintro e w11 ⟨⟨oa, oc, rfl, hO⟩, hb11⟩
        have X11 := hid (X10.out.below hb11)
        have Y11 := hid (Y10.out.below hb11)
        have Z11 := hid (Z10.out.below hb11)
        have B11 := hid (bthen B10.out hb11)
        have O11 := hid hO.out
        clear hb11 X10 Y10 B10 Z10 hO
        go_wp2_with fail
        refine (refAll_any oa ya zn oc j yc Z X _ O11.out Y11.out).mono ?_
        rintro e w12 ⟨rfl, hb12⟩
        have X12 := hid (X11.out.below hb12)
        have Z12 := hid (Z11.out.below hb12)
        have B12 := hid (bthen B11.out hb12)
        clear hb12 X11 Y11 B11 Z11 O11
        rw [HZP.out, allB_self]
        go_wp2_with fail
        refine (oSame_any za xa zn zc j xc Z X _ Z12.out X12.out).mono ?_
        rintro e w13 ⟨rfl, hb13⟩
        have B13 := hid (bthen B12.out hb13)
        clear hb13 X12 B12 Z12
        rw [HZP.out, allB_self]
        go_wp2_with fail
        go_ret
        exact ⟨rfl, B13.out⟩
      · have he1 : (ee != 0) = true := by rw [bne_iff_ne]; exact he
        go_wp2_with fail
        refine (known_any _ V8.out).mono ?_
        rintro e w10 ⟨rfl, hb10⟩
        have B10 := hid (bthen B8.out hb10)
        clear hb10
        go_wp2_with fail
        go_ret
        exact ⟨rfl, B10.out⟩
end Go.Proofs.YtbgogeojdibmkaaDoor
