/- The walk of HeaderHops. -/
import Derived.Test.YtmpkemlnpmephaaEnc
import Derived.Test.YtmpkemlnpmephaaOpn
namespace Go.Proofs.Ytmpkemlnpmephaa
open Go.ChangeShapes Go.WideShapes Go.ChangeAt Go.RowKit
set_option linter.unusedVariables false
set_option linter.unusedSimpArgs false

/-- A header is laid into a block that was just made. -/
theorem lay_new (w : World) (h : Hd) : Row ((w.alloc (.cells Hd.zero.cs 28)).setRow w.heap.size h.cs) w.heap.size 28 h.cs := (Row.new w 28 _).setRow _
theorem lay_below (w : World) (t : TypeId) (h : Hd) : Below w.heap.size w ((w.alloc (.cells Hd.zero.cs t)).setRow w.heap.size h.cs) := below_setRow' (balloc (Below.refl _ _) _) (Nat.le_refl _) _
theorem lay_size (w : World) (t : TypeId) (h : Hd) : ((w.alloc (.cells Hd.zero.cs t)).setRow w.heap.size h.cs).heap.size = w.heap.size + 1 := by rw [setRow_size]; simp

theorem okH_hp {h : Hd} (k : okH h = true) {x : Int} (h0 : 0 ≤ x) (h1 : x ≤ 255) : okH (h.setHp x) = true := by
  obtain ⟨a, b, c, d, _⟩ := okH_yes k
  exact decide_eq_true ⟨a, b, c, d, h0, h1⟩

set_option maxHeartbeats 1600000 in
theorem hops_walk (h : Hd) (w : World) (k : h.ok) :
    Calls Try.prog 5 #[.agg h.cs] w fun e w' => e = .returned (.bool true) ∧ Below w.heap.size w w' := by
  have hz := zhd
  have R1 := hid (Row.new w 24 h.cs)
  have B1 := hid (balloc (Below.refl w.heap.size w) (.cells h.cs 24))
  go_enter Try.func5, Try.ntmps5
  go_upto_region 1 with fail
  generalize w.alloc (.cells h.cs 24) = w1 at *
  go_wp2_with (refine ld24 _ rfl rfl w.heap.size rfl h k 24 R1.out ?_)
  refine (to_any h k _).mono ?_
  rintro e w2 ⟨rfl, hb2⟩
  have R2 := hid (R1.out.below hb2)
  have B2 := hid (bthen B1.out hb2)
  have X3 := hid (lay_new w2 h)
  have R3 := hid (R2.out.below (lay_below w2 28 h))
  have B3 := hid (bthen B2.out (lay_below w2 28 h))
  have hg : w.heap.size < w2.heap.size := R2.out.lt
  clear hb2 R1 B1 B2
  go_wp2_with (first
    | (refine st28 _ _ rfl rfl w2.heap.size h k rfl rfl 28 Hd.zero Hd.zero_ok (Row.new w2 28 _) ?_; generalize (w2.alloc (.cells Hd.zero.cs 28)).setRow w2.heap.size h.cs = w3 at *)
    | (refine ld28 _ rfl rfl w2.heap.size rfl h k 28 X3.out ?_))
  refine (check_any h k _).mono ?_
  rintro e w4 ⟨rfl, hb4⟩
  have X4 := hid (X3.out.below hb4)
  have R4 := hid (R3.out.below hb4)
  have B4 := hid (bthen B3.out hb4)
  clear hb4 X3 R3 B3 R2
  cases ho : okH h
  · have hV : chkV h = 1 := by simp [chkV, ho]
    rw [hV]
    clear hV ho
    go_wp2_with fail
    refine (known_any _).mono ?_
    rintro e w5 ⟨rfl, hb5⟩
    go_wp2_with fail
    go_ret
    exact ⟨rfl, bthen B4.out hb5⟩
  · have hV : chkV h = 0 := by simp [chkV, ho]
    have HO := hid ho
    have hp := (okH_yes ho).2.2.2.2
    rw [hV]
    clear hV ho
    generalize hG : w2.heap.size = G at *
    clear hG
    go_wp2_with fail
    go_loopw [4, 5] (fun n i wr => ∃ j : Nat, (j : Int) ≤ max (h.hp - 1) 0 ∧ n = .int .i64 j ∧ i = .int .i64 j ∧ Hid (Row wr G 28 (h.setHp (h.hp - j)).cs) ∧ Hid (Row wr w.heap.size 24 h.cs) ∧ Hid (Below w.heap.size w wr)) (fun _ i _ => 300 - (intOf i).toNat)
    case atStart => exact ⟨0, by omega, rfl, rfl, by simpa [Hd.setHp] using X4, R4, B4⟩
    case round =>
      obtain ⟨j, hj, rfl, rfl, hX, hR, hB⟩ := hrel
      have hj3 : j < 300 := by omega
      have hj3' : (j : Int) < 300 := by omega
      have hk := Hd.setHp_ok k (h.hp - j)
      have HOk := hid (okH_hp HO.out (x := h.hp - j) (by omega) (by omega))
      have HPE : Hid (pasE (h.setHp (h.hp - j)) = if h.hp - j ≤ 1 then 12 else 0) := by rw [Hid, pasE, HOk.out]; rfl
      have HPH : Hid (pasE (h.setHp (h.hp - j)) = 0 → pasH (h.setHp (h.hp - j)) = h.setHp (h.hp - j - 1)) := by
        intro e; rw [pasH, if_pos e]; rfl
      have hkp := pasH_ok hk
      have hpass := hid (fun w' => passed_any (h.setHp (h.hp - j)) hk w')
      generalize pasH (h.setHp (h.hp - j)) = P at *
      generalize pasE (h.setHp (h.hp - j)) = E at *
      generalize h.setHp (h.hp - j) = hj0 at *
      go_wp2_with (refine ld28 _ rfl rfl G rfl hj0 hk 28 hX.out ?_)
      refine (hpass.out _).mono ?_
      rintro e w5 ⟨rfl, hb5⟩
      have X5 := hid (hX.out.below hb5)
      have R5 := hid (hR.out.below hb5)
      have B5 := hid (bthen hB.out hb5)
      have Y6 := hid (lay_new w5 P)
      have X6 := hid (X5.out.below (lay_below w5 28 P))
      have R6 := hid (R5.out.below (lay_below w5 28 P))
      have B6 := hid (bthen B5.out (lay_below w5 28 P))
      have hG5 : G < w5.heap.size := X5.out.lt
      clear hb5 hX hR hB B5 hpass
      by_cases hle : h.hp - j ≤ 1
      · have hE : E = 12 := by rw [HPE.out, if_pos hle]
        subst hE
        go_wp2_with (refine st28 _ _ rfl rfl w5.heap.size P hkp rfl rfl 28 Hd.zero Hd.zero_ok (Row.new w5 28 _) ?_; generalize (w5.alloc (.cells Hd.zero.cs 28)).setRow w5.heap.size P.cs = w6 at *)
        refine (known_any _).mono ?_
        rintro e w7 ⟨rfl, hb7⟩
        have R7 := hid (R6.out.below hb7)
        have B7 := hid (bthen B6.out hb7)
        have c4 := (R7.out.cell 4).trans h.at4
        clear hb7
        by_cases h1 : h.hp - 1 < 0
        · have hd : decide (h.hp - 1 < 0) = true := by simp; omega
          obtain rfl : j = 0 := by omega
          go_wp2_with fail
          all_goals
            go_ret
            refine ⟨ret_bool ?_, B7.out⟩
            simp
            try omega
        · have hd : decide (h.hp - 1 < 0) = false := by simp; omega
          have hj4 : (j : Int) = h.hp - 1 := by omega
          have HJ := hid hj4
          clear hj4
          go_wp2_with fail
          all_goals
            go_ret
            refine ⟨ret_bool ?_, B7.out⟩
            rw [HJ.out]
            simp
      · have hE : E = 0 := by rw [HPE.out, if_neg hle]
        have hP := hid (HPH.out hE)
        subst hE
        have X7 := hid (X6.out.setRow P.cs)
        have R7 := hid (R6.out.rowOther G P.cs (by have := R6.out.lt; omega))
        have B7 := hid (below_setRow' B6.out (g := G) (by omega) P.cs)
        go_wp2_with (first
          | (refine st28 _ _ rfl rfl w5.heap.size P hkp rfl rfl 28 Hd.zero Hd.zero_ok (Row.new w5 28 _) ?_; generalize (w5.alloc (.cells Hd.zero.cs 28)).setRow w5.heap.size P.cs = w6 at *)
          | (refine ld28 _ rfl rfl w5.heap.size rfl P hkp 28 Y6.out ?_)
          | (refine st28 _ _ rfl rfl G P hkp rfl rfl 28 hj0 hk X6.out ?_))
        go_roundw
        case rel =>
          refine ⟨j + 1, by omega, by go_num, by go_num, ?_, R7.out, B7.out⟩
          rw [Hid, Int.natCast_add, show h.hp - ((j : Int) + ((1 : Nat) : Int)) = h.hp - j - 1 by omega, ← hP.out]
          exact X7.out
        case measure => simp [intOf]; omega
end Go.Proofs.Ytmpkemlnpmephaa
