/- Are lists of options the same? -/
import Derived.Test.YtbgogeojdibmkaaDoorSam
import Derived.Deep.QuietTactic
namespace Go.Proofs.YtbgogeojdibmkaaDoor
open Go.ChangeShapes Go.WideShapes Go.ChangeAt Go.RowKit Go.Deep
set_option linter.unusedVariables false
set_option linter.unusedSimpArgs false

/-- Are the first ones the same? -/
def allTo (L M : List Po) (j : Nat) : Bool := (List.range j).all fun i => (L.getD i Po.none).eqB (M.getD i Po.none)
def allB (L M : List Po) : Bool := (L.length == M.length) && allTo L M L.length
theorem allTo_succ (L M : List Po) (j : Nat) : allTo L M (j + 1) = (allTo L M j && (L.getD j Po.none).eqB (M.getD j Po.none)) := by
  unfold allTo; rw [List.range_succ, List.all_append]; simp
theorem allTo_no (L M : List Po) (j n : Nat) (hj : j < n) (h : (L.getD j Po.none).eqB (M.getD j Po.none) = false) : allTo L M n = false := by
  unfold allTo; rw [List.all_eq_false]; exact ⟨j, by simpa using hj, by simpa using h⟩
theorem allB_self (L : List Po) : allB L L = true := by
  simp [allB, allTo, Po.eqB_self]
theorem allB_one (p q : Po) : allB [p] [q] = p.eqB q := by simp [allB, allTo, List.range_succ]
set_option maxRecDepth 100000 in
set_option maxHeartbeats 1600000 in
theorem equalFunc_any (a b : Option Addr) (n ca m cb : Nat) (L M : List Ov) (w : World) (hL : Opts w a n ca L) (hM : Opts w b m cb M) :
    Calls Tryd.prog 37 #[.slice a n ca, .slice b m cb, .func (.func 38) #[] #[]] w fun e w' => e = .returned (.bool (allB (pos L) (pos M))) ∧ Below w.heap.size w w' := by
  have hz := zov
  have k1 := Nat.le_trans hL.le hL.max
  have k2 := Nat.le_trans hM.le hM.max
  unfold maxLen at k1 k2
  have HL := hid hL
  have HM := hid hM
  have HF : Hid (allB (pos L) (pos M) = ((n == m) && allTo (pos L) (pos M) n)) := by rw [Hid, allB, pos_len, pos_len, hL.len, hM.len]
  have ll := hid hL.len
  have lm := hid hM.len
  clear hL hM
  generalize allB (pos L) (pos M) = fb at *
  by_cases hnm : n = m
  · subst hnm
    have HF : Hid (fb = allTo (pos L) (pos M) n) := by rw [Hid, HF.out]; simp
    go_enter Tryd.func37, Tryd.ntmps37
    go_wp2_with fail
    go_loopw [17] (fun i wr => ∃ j : Nat, j ≤ n ∧ i = .int .i64 j ∧ Hid (allTo (pos L) (pos M) j = true) ∧ Hid (Below w.heap.size w wr)) (fun i _ => n - (intOf i).toNat)
    case atStart => exact ⟨0, Nat.zero_le _, rfl, rfl, Below.refl _ _⟩
    case round =>
      obtain ⟨j, hj, rfl, hall, hb⟩ := hrel
      by_cases hlt : j < n
      · have hlt' : (j : Int) < (n : Int) := by omega
        obtain ⟨b1, off1, rfl, hp1⟩ := (HL.out.below hb.out).cell j hlt
        obtain ⟨b2, off2, rfl, hp2⟩ := (HM.out.below hb.out).cell j hlt
        have ok1 := (HL.out.below hb.out).at j hlt
        have ok2 := (HM.out.below hb.out).at j hlt
        have HS := hid (allTo_succ (pos L) (pos M) j)
        have HN := hid (allTo_no (pos L) (pos M) j n hlt)
        rw [pos_at L j (by rw [ll.out]; exact hlt), pos_at M j (by rw [lm.out]; exact hlt)] at HS HN
        generalize L.getD j Ov.zero = o at *
        generalize M.getD j Ov.zero = p at *
        have P1 := hid hp1
        have P2 := hid hp2
        have O1 := hid ok1
        have O2 := hid ok2
        have A1 := hid ok1.ad
        have A2 := hid ok2.ad
        clear hp1 hp2 ok1 ok2
        have Ra := hid (layO_new wr 43 o)
        have Ba := hid (layO_below wr 43 o)
        go_upto_region 6 with (first | (refine ldO o43 _ rfl rfl _ _ rfl o A1.out P1.out ?_) | (refine stO o43 _ _ rfl rfl wr.heap.size o A1.out rfl rfl 43 Ov.zero adr_zeros (Row.new wr 43 _) ?_))
        generalize hw2 : (wr.alloc (.cells Ov.zero.cs 43)).setRow wr.heap.size o.cs = w2 at *
        generalize hg1 : wr.heap.size = g1 at *
        have P3 := hid (Part.below P2.out (by rw [hg1]; exact Ba.out))
        have O3 := hid (O1.out.below (by rw [hg1]; exact Ba.out))
        have O4 := hid (O2.out.below (by rw [hg1]; exact Ba.out))
        have B3 := hid (bthen hb.out (by rw [hg1]; exact Ba.out))
        clear hw2 P1 P2 O1 O2
        have Rb := hid (layO_new w2 43 p)
        have Bb := hid (layO_below w2 43 p)
        have Rc := hid (Ra.out.below Bb.out)
        go_upto_region 7 with (first | (refine ldO o43 _ rfl rfl _ _ rfl p A2.out P3.out ?_) | (refine stO o43 _ _ rfl rfl w2.heap.size p A2.out rfl rfl 43 Ov.zero adr_zeros (Row.new w2 43 _) ?_))
        generalize hw3 : (w2.alloc (.cells Ov.zero.cs 43)).setRow w2.heap.size p.cs = w3 at *
        have O5 := hid (O3.out.below Bb.out)
        have O6 := hid (O4.out.below Bb.out)
        have B4 := hid (bthen B3.out Bb.out)
        generalize hg2 : w2.heap.size = g2 at *
        clear hw3 O3 O4 P3 hg1 hg2
        go_wp2_with (first | (refine ldO o43 _ rfl rfl _ _ rfl o A1.out Rc.out.part ?_) | (refine ldO o43 _ rfl rfl _ _ rfl p A2.out Rb.out.part ?_))
        refine (same1_any o p _ O5.out O6.out).mono ?_
        rintro e w4 ⟨rfl, hb4⟩
        have B5 := hid (bthen B4.out hb4)
        clear hb4
        cases hc : o.p.eqB p.p
        · rw [hc] at HN
          go_wp2_with fail
          go_ret
          exact ⟨ret_bool (by rw [HF.out]; exact (HN.out (by simp)).symm), B5.out⟩
        · rw [hc] at HS
          go_wp2_with fail
          go_roundw
          case rel => exact ⟨j + 1, by omega, by go_num, by rw [Hid, HS.out, hall.out]; rfl, B5.out⟩
          case measure => simp [intOf]; omega
      · obtain rfl : j = n := by omega
        go_wp2_with fail
        go_ret
        exact ⟨ret_bool (by rw [HF.out]; exact hall.out.symm), hb.out⟩
  · have hne : ((n : Int) != (m : Int)) = true := by rw [bne_iff_ne]; omega
    have HF : Hid (fb = false) := by rw [Hid, HF.out]; simp [hnm]
    clear hnm
    go_enter Tryd.func37, Tryd.ntmps37
    go_wp2_with fail
    go_ret
    exact ⟨ret_bool HF.out.symm, Below.refl _ _⟩
theorem oSame_any (a b : Option Addr) (n ca m cb : Nat) (L M : List Ov) (w : World) (hL : Opts w a n ca L) (hM : Opts w b m cb M) :
    Calls Tryd.prog 21 #[.slice a n ca, .slice b m cb] w fun e w' => e = .returned (.bool (allB (pos L) (pos M))) ∧ Below w.heap.size w w' := by
  have HL := hid hL
  have HM := hid hM
  clear hL hM
  go_enter Tryd.func21, Tryd.ntmps21
  go_wp2_with fail
  refine (equalFunc_any a b n ca m cb L M _ HL.out HM.out).mono ?_
  rintro e w' ⟨rfl, hb⟩
  go_wp2_with fail
  go_ret
  exact ⟨rfl, hb⟩
end Go.Proofs.YtbgogeojdibmkaaDoor
