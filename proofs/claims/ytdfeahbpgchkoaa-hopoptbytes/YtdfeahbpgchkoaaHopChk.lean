/- rivuletlaw06's To and Of; hopopt's isRank, Check, checkOwn; ref's Right. -/
import Derived.Test.YtdfeahbpgchkoaaHopHo
namespace Go.Proofs.Ytdfeahbpgchkoaa
open Go.ChangeShapes Go.WideShapes Go.ChangeAt Go.RowKit
set_option linter.unusedVariables false
set_option linter.unusedSimpArgs false

set_option maxHeartbeats 400000 in
theorem hopTo_any (h : Ho) (w : World) :
    Calls Try.prog 7 #[.agg h.cs] w fun e w' => e = .returned (.agg h.cs) ∧ Below w.heap.size w w' := by
  have hz := zho
  have R0 : Row ((w.alloc (.cells h.cs 23)).alloc (.cells Ho.zero.cs 28)) w.heap.size 23 h.cs := (Row.new w 23 _).alloc _
  have R1 : Row ((w.alloc (.cells h.cs 23)).alloc (.cells Ho.zero.cs 28)) (w.heap.size + 1) 28 Ho.zero.cs := by simpa using Row.new (w.alloc (.cells h.cs 23)) 28 Ho.zero.cs
  have B1 := hid (balloc (balloc (Below.refl w.heap.size w) (.cells h.cs 23)) (.cells Ho.zero.cs 28))
  have c0 := (R0.cell 0).trans h.at0
  have c1 := (R0.cell 1).trans h.at1
  have c2 := (R0.cell 2).trans h.at2
  have c3 := (R0.cell 3).trans h.at3
  have c4 := (R0.cell 4).trans h.at4
  have HR1 := hid R1
  clear R0 R1
  go_enter Try.func7, Try.ntmps7
  go_upto_region 1 with fail
  clear hz
  generalize (w.alloc (.cells h.cs 23)).alloc (.cells Ho.zero.cs 28) = w1 at *
  go_wp2_with (first
    | (refine bdO oh _ _ _ _ _ rfl rfl h rfl rfl rfl rfl rfl ?_)
    | (refine stO oh _ _ rfl rfl (w.heap.size + 1) h rfl rfl 28 Ho.zero HR1.out ?_))
  exact bodyPost_ret (resO oh rfl _ _ (w.heap.size + 1) 28 h rfl (HR1.out.setRow _)) rfl ⟨rfl, below_setRow' B1.out (by omega) _⟩
set_option maxHeartbeats 400000 in
theorem hopOf_any (h : Ho) (w : World) :
    Calls Try.prog 10 #[.agg h.cs] w fun e w' => e = .returned (.agg h.cs) ∧ Below w.heap.size w w' := by
  have hz := zho
  have R0 : Row ((w.alloc (.cells h.cs 28)).alloc (.cells Ho.zero.cs 23)) w.heap.size 28 h.cs := (Row.new w 28 _).alloc _
  have R1 : Row ((w.alloc (.cells h.cs 28)).alloc (.cells Ho.zero.cs 23)) (w.heap.size + 1) 23 Ho.zero.cs := by simpa using Row.new (w.alloc (.cells h.cs 28)) 23 Ho.zero.cs
  have B1 := hid (balloc (balloc (Below.refl w.heap.size w) (.cells h.cs 28)) (.cells Ho.zero.cs 23))
  have c0 := (R0.cell 0).trans h.at0
  have c1 := (R0.cell 1).trans h.at1
  have c2 := (R0.cell 2).trans h.at2
  have c3 := (R0.cell 3).trans h.at3
  have c4 := (R0.cell 4).trans h.at4
  have HR1 := hid R1
  clear R0 R1
  go_enter Try.func10, Try.ntmps10
  go_upto_region 1 with fail
  clear hz
  generalize (w.alloc (.cells h.cs 28)).alloc (.cells Ho.zero.cs 23) = w1 at *
  go_wp2_with (first
    | (refine bdO or_ _ _ _ _ _ rfl rfl h rfl rfl rfl rfl rfl ?_)
    | (refine stO or_ _ _ rfl rfl (w.heap.size + 1) h rfl rfl 23 Ho.zero HR1.out ?_))
  exact bodyPost_ret (resO or_ rfl _ _ (w.heap.size + 1) 23 h rfl (HR1.out.setRow _)) rfl ⟨rfl, below_setRow' B1.out (by omega) _⟩

/-- Is a number a rank? -/
def rkB (n : Int) : Bool := decide (0 ≤ n ∧ n ≤ 65535)
def byB (n : Int) : Bool := decide (0 ≤ n ∧ n ≤ 255)
theorem fits_rk (a : Int) : fitsB 2 [a] = rkB a := by
  rw [Bool.eq_iff_iff]; simp [fitsB, okB, top, sizeB, rkB]; omega
theorem fits_by (a : Int) : fitsB 1 [a] = byB a := by
  rw [Bool.eq_iff_iff]; simp [fitsB, okB, top, sizeB, byB]; omega
/-- Are the numbers of an option as they must be? -/
def okO (o : Ho) : Bool := byB o.i && rkB o.r
def chkO (o : Ho) : Int := if okO o = true then 0 else 1
theorem okO_yes {o : Ho} (k : okO o = true) : (0 ≤ o.i ∧ o.i ≤ 255) ∧ (0 ≤ o.r ∧ o.r ≤ 65535) := by simpa [okO, byB, rkB] using k
set_option maxHeartbeats 400000 in
theorem isRank_any (n : Int) (w : World) :
    Calls Try.prog 29 #[.int .i64 n] w fun e w' => e = .returned (.bool (rkB n)) ∧ Below w.heap.size w w' := by
  have L1 := hid (lies_new .i64 w #[.int .i64 n] 3 [n] rfl (by simp))
  have B1 := hid (balloc (Below.refl w.heap.size w) (.cells #[.int .i64 n] 3))
  go_enter Try.func29, Try.ntmps29
  go_wp2_with fail
  generalize w.alloc (.cells #[.int .i64 n] 3) = w2 at *
  refine (fits_any 2 _ 1 1 [n] _ L1.out).mono ?_
  rintro e w2 ⟨rfl, rfl⟩
  rw [fits_rk]
  go_wp2_with fail
  go_ret
  exact ⟨rfl, B1.out⟩
set_option maxHeartbeats 800000 in
theorem hopCheck_any (h : Ho) (w : World) :
    Calls Try.prog 12 #[.agg h.cs] w fun e w' => e = .returned (.int .i64 (chkO h)) ∧ Below w.heap.size w w' := by
  have HR0 := hid (Row.new w 28 h.cs)
  have B0 := hid (balloc (Below.refl w.heap.size w) (.cells h.cs 28))
  have HV : Hid (chkO h = if (byB h.i && rkB h.r) = true then 0 else 1) := rfl
  generalize chkO h = cv at *
  go_enter Try.func12, Try.ntmps12
  go_upto_region 1 with fail
  generalize hw1 : w.alloc (.cells h.cs 28) = w1 at *
  have c3 := (HR0.out.cell 3).trans h.at3
  clear hw1
  have L1 := hid (lies_new .i64 w1 #[.int .i64 h.i] 3 [h.i] rfl (by simp))
  have HR1 := hid (HR0.out.alloc (.cells #[.int .i64 h.i] 3))
  have B1 := hid (balloc B0.out (.cells #[.int .i64 h.i] 3))
  go_wp2_with fail
  generalize w1.alloc (.cells #[.int .i64 h.i] 3) = w2 at *
  refine (fits_any 1 _ 1 1 [h.i] _ L1.out).mono ?_
  rintro e w2 ⟨rfl, rfl⟩
  rw [fits_by]
  generalize byB h.i = b1 at *
  have d4 := (HR1.out.cell 4).trans h.at4
  clear c3
  cases b1
  · go_wp2_with fail
    go_ret
    exact ⟨ret_int (by rw [HV.out]; rfl), B1.out⟩
  · go_wp2_with fail
    refine (isRank_any h.r _).mono ?_
    rintro e w3 ⟨rfl, hb⟩
    have B2 := hid (bthen B1.out hb)
    clear hb
    generalize rkB h.r = b2 at *
    cases b2
    · go_wp2_with fail
      go_ret
      exact ⟨ret_int (by rw [HV.out]; rfl), B2.out⟩
    · go_wp2_with fail
      go_ret
      exact ⟨ret_int (by rw [HV.out]; rfl), B2.out⟩
/-- What is wrong with an option and an own rank. -/
def owE (o : Ho) (own : Int) : Int := if (okO o && rkB own) = true then 0 else 1
set_option maxHeartbeats 800000 in
theorem checkOwn_any (h : Ho) (own : Int) (w : World) :
    Calls Try.prog 30 #[.agg h.cs, .int .i64 own] w fun e w' => e = .returned (.int .i64 (owE h own)) ∧ Below w.heap.size w w' := by
  have HR0 := hid (Row.new w 28 h.cs)
  have B0 := hid (balloc (Below.refl w.heap.size w) (.cells h.cs 28))
  have HV : Hid (owE h own = if (okO h && rkB own) = true then 0 else 1) := rfl
  have HC : Hid (chkO h = if okO h = true then 0 else 1) := rfl
  generalize owE h own = cv at *
  go_enter Try.func30, Try.ntmps30
  go_upto_region 1 with fail
  generalize hw1 : w.alloc (.cells h.cs 28) = w1 at *
  clear hw1
  go_wp2_with (refine ldO oh _ rfl rfl w.heap.size rfl h 28 HR0.out ?_)
  refine (hopCheck_any h _).mono ?_
  rintro e w2 ⟨rfl, hb2⟩
  have B2 := hid (bthen B0.out hb2)
  clear hb2 HR0 B0
  rw [HC.out]
  generalize okO h = ob at *
  cases ob
  · go_wp2_with fail
    go_ret
    exact ⟨ret_int (by rw [HV.out]; rfl), B2.out⟩
  · go_wp2_with fail
    refine (isRank_any own _).mono ?_
    rintro e w3 ⟨rfl, hb⟩
    have B3 := hid (bthen B2.out hb)
    clear hb
    generalize rkB own = b2 at *
    cases b2
    · go_wp2_with fail
      go_ret
      exact ⟨ret_int (by rw [HV.out]; rfl), B3.out⟩
    · go_wp2_with fail
      go_ret
      exact ⟨ret_int (by rw [HV.out]; rfl), B3.out⟩
set_option maxHeartbeats 800000 in
theorem refRight_any (h : Ho) (w : World) :
    Calls Try.prog 13 #[.agg h.cs] w fun e w' => e = .returned (.bool (okO h)) ∧ Below w.heap.size w w' := by
  have HR0 := hid (Row.new w 23 h.cs)
  have B0 := hid (balloc (Below.refl w.heap.size w) (.cells h.cs 23))
  have HV : Hid (okO h = decide ((0 ≤ h.i ∧ h.i ≤ 255) ∧ (0 ≤ h.r ∧ h.r ≤ 65535))) := by rw [Hid, Bool.eq_iff_iff]; simp [okO, byB, rkB]
  generalize okO h = cv at *
  go_enter Try.func13, Try.ntmps13
  go_upto_region 1 with fail
  generalize hw1 : w.alloc (.cells h.cs 23) = w1 at *
  have c3 := (HR0.out.cell 3).trans h.at3
  have c4 := (HR0.out.cell 4).trans h.at4
  clear hw1 HR0
  generalize h.i = i at *
  generalize h.r = r at *
  by_cases h0 : 0 ≤ i
  · have e0 : decide (0 ≤ i) = true := decide_eq_true h0
    by_cases h1 : i ≤ 255
    · have e1 : decide (i ≤ 255) = true := decide_eq_true h1
      by_cases h2 : 0 ≤ r
      · have e2 : decide (0 ≤ r) = true := decide_eq_true h2
        by_cases h3 : r ≤ 65535
        · have e3 : decide (r ≤ 65535) = true := decide_eq_true h3
          go_wp2_with fail
          go_ret
          exact ⟨ret_bool (by rw [HV.out]; simp; omega), B0.out⟩
        · have e3 : decide (r ≤ 65535) = false := decide_eq_false h3
          go_wp2_with fail
          go_ret
          exact ⟨ret_bool (by rw [HV.out]; simp; omega), B0.out⟩
      · have e2 : decide (0 ≤ r) = false := decide_eq_false h2
        go_wp2_with fail
        go_ret
        exact ⟨ret_bool (by rw [HV.out]; simp; omega), B0.out⟩
    · have e1 : decide (i ≤ 255) = false := decide_eq_false h1
      go_wp2_with fail
      go_ret
      exact ⟨ret_bool (by rw [HV.out]; simp; omega), B0.out⟩
  · have e0 : decide (0 ≤ i) = false := decide_eq_false h0
    go_wp2_with fail
    go_ret
    exact ⟨ret_bool (by rw [HV.out]; simp; omega), B0.out⟩
end Go.Proofs.Ytdfeahbpgchkoaa
