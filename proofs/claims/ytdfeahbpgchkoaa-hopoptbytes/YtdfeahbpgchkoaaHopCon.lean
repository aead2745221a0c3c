/- hopopt's Consistent; ref's Step and Consistent. -/
import Derived.Test.YtdfeahbpgchkoaaHopChk
namespace Go.Proofs.Ytdfeahbpgchkoaa
open Go.ChangeShapes Go.WideShapes Go.ChangeAt Go.RowKit
set_option linter.unusedVariables false
set_option linter.unusedSimpArgs false

/-- Are an option, an own rank and a least increase as they must be? -/
def hpB (o : Ho) (own least : Int) : Bool := okO o && rkB own && (decide (1 ≤ least) && rkB least)
def hpE (o : Ho) (own least : Int) : Int := if hpB o own least = true then 0 else 1
/-- Is a hop consistent? -/
def csB (o : Ho) (own least : Int) : Bool := if o.d = true then decide (o.r / least < own / least) else decide (own / least < o.r / least)
def conV (o : Ho) (own least : Int) : Bool := hpB o own least && csB o own least
theorem rkB_yes {n : Int} (h : rkB n = true) : 0 ≤ n ∧ n ≤ 65535 := by simpa [rkB] using h
set_option maxHeartbeats 1600000 in
theorem consistent_any (h : Ho) (own least : Int) (w : World) :
    Calls Try.prog 18 #[.agg h.cs, .int .i64 own, .int .i64 least] w fun e w' => e = .returned (.tuple #[.bool (conV h own least), .int .i64 (hpE h own least)]) ∧ Below w.heap.size w w' := by
  have HR0 := hid (Row.new w 28 h.cs)
  have B0 := hid (balloc (Below.refl w.heap.size w) (.cells h.cs 28))
  have HB : Hid (hpB h own least = (okO h && rkB own && (decide (1 ≤ least) && rkB least))) := rfl
  have HV : Hid (conV h own least = (hpB h own least && if h.d = true then decide (h.r / least < own / least) else decide (own / least < h.r / least))) := rfl
  have HE : Hid (hpE h own least = if hpB h own least = true then 0 else 1) := rfl
  have HO : Hid (owE h own = if (okO h && rkB own) = true then 0 else 1) := rfl
  have HY := hid (fun k : okO h = true => okO_yes k)
  have HN := hid (fun k : rkB own = true => rkB_yes k)
  have HL := hid (fun k : rkB least = true => rkB_yes k)
  generalize conV h own least = cv at *
  generalize hpE h own least = ev at *
  generalize hpB h own least = bv at *
  go_enter Try.func18, Try.ntmps18
  go_upto_region 1 with fail
  generalize hw1 : w.alloc (.cells h.cs 28) = w1 at *
  clear hw1
  go_wp2_with (refine ldO oh _ rfl rfl w.heap.size rfl h 28 HR0.out ?_)
  refine (checkOwn_any h own _).mono ?_
  rintro e w2 ⟨rfl, hb2⟩
  have B2 := hid (bthen B0.out hb2)
  have R2 := hid (HR0.out.below hb2)
  clear hb2 HR0 B0
  rw [HO.out]
  have hok : Hid ((okO h && rkB own) = true → (0 ≤ h.r ∧ h.r ≤ 65535) ∧ (0 ≤ own ∧ own ≤ 65535)) := by
    intro k
    simp only [Bool.and_eq_true] at k
    exact ⟨(HY.out k.1).2, HN.out k.2⟩
  clear HY HN
  generalize (okO h && rkB own) = ob at *
  cases ob
  · go_wp2_with fail
    go_ret2
    exact ⟨by rw [HV.out, HE.out, HB.out]; rfl, B2.out⟩
  · obtain ⟨⟨r0, r1⟩, o0, o1⟩ := hok.out rfl
    by_cases hl : 1 ≤ least
    · have e1 : decide (least < 1) = false := by simp; omega
      have e2 : Hid (decide (1 ≤ least) = true) := decide_eq_true hl
      go_wp2_with fail
      refine (isRank_any least _).mono ?_
      rintro e w3 ⟨rfl, hb⟩
      have B3 := hid (bthen B2.out hb)
      have R3 := hid (R2.out.below hb)
      clear hb R2 B2
      generalize rkB least = b2 at *
      cases b2
      · go_wp2_with fail
        go_ret2
        exact ⟨by rw [HV.out, HE.out, HB.out, e2.out]; rfl, B3.out⟩
      · have l1 := (HL.out rfl).2
        have c0 := (R3.out.cell 0).trans h.at0
        have c4 := (R3.out.cell 4).trans h.at4
        have hne : ¬ least = 0 := by omega
        generalize h.d = d at *
        generalize h.r = r at *
        cases d
        · go_wp2_with fail
          go_quiet (fail)
          go_wp2_with fail
          go_ret2
          exact ⟨by rw [HV.out, HE.out, HB.out, e2.out]; rfl, bdrew B3.out _⟩
        · go_wp2_with fail
          go_quiet (fail)
          go_wp2_with fail
          go_ret2
          exact ⟨by rw [HV.out, HE.out, HB.out, e2.out]; rfl, bdrew B3.out _⟩
    · have e1 : decide (least < 1) = true := by simp; omega
      have e2 : Hid (decide (1 ≤ least) = false) := decide_eq_false hl
      go_wp2_with fail
      go_ret2
      exact ⟨by rw [HV.out, HE.out, HB.out, e2.out]; rfl, B2.out⟩
/-- A rank's step. -/
theorem step_any (r least : Int) (w : World) (h0 : 0 ≤ r) (h1 : 1 ≤ least) (h2 : r ≤ 65535) (h3 : least ≤ 65535) :
    Calls Try.prog 31 #[.int .i64 r, .int .i64 least] w fun e w' => e = .returned (.int .i64 (r / least)) ∧ w' = w := by
  have hne : ¬ least = 0 := by omega
  go_enter Try.func31, Try.ntmps31
  go_wp2_with fail
  go_ret
  exact ⟨rfl, rfl⟩
set_option maxHeartbeats 1600000 in
theorem refConsistent_any (h : Ho) (own least : Int) (w : World) (hb : hpB h own least = true) :
    Calls Try.prog 20 #[.agg h.cs, .int .i64 own, .int .i64 least] w fun e w' => e = .returned (.bool (csB h own least)) ∧ Below w.heap.size w w' := by
  have hy : (0 ≤ h.r ∧ h.r ≤ 65535) ∧ (0 ≤ own ∧ own ≤ 65535) ∧ (1 ≤ least ∧ least ≤ 65535) := by
    simp only [hpB, okO, byB, rkB, Bool.and_eq_true, decide_eq_true_eq] at hb
    omega
  obtain ⟨⟨r0, r1⟩, ⟨o0, o1⟩, l0, l1⟩ := hy
  have HR0 := hid (Row.new w 23 h.cs)
  have B0 := hid (balloc (Below.refl w.heap.size w) (.cells h.cs 23))
  have HV : Hid (csB h own least = if h.d = true then decide (h.r / least < own / least) else decide (own / least < h.r / least)) := rfl
  generalize csB h own least = cv at *
  go_enter Try.func20, Try.ntmps20
  go_upto_region 1 with fail
  generalize hw1 : w.alloc (.cells h.cs 23) = w1 at *
  clear hw1
  have c0 := (HR0.out.cell 0).trans h.at0
  have c4 := (HR0.out.cell 4).trans h.at4
  clear HR0 hb
  generalize h.d = d at *
  generalize h.r = r at *
  go_wp2_with fail
  refine (step_any r least _ r0 l0 r1 l1).mono ?_
  rintro e w1 ⟨rfl, rfl⟩
  go_wp2_with fail
  refine (step_any own least _ o0 l0 o1 l1).mono ?_
  rintro e w1 ⟨rfl, rfl⟩
  generalize r / least = a at *
  generalize own / least = b at *
  cases d
  · go_wp2_with fail
    go_ret
    exact ⟨ret_bool (by rw [HV.out]; simp), B0.out⟩
  · by_cases hlt : a < b
    · have e1 : decide (a < b) = true := decide_eq_true hlt
      go_wp2_with fail
      go_ret
      exact ⟨ret_bool (by rw [HV.out]; simp [e1]), B0.out⟩
    · have e1 : decide (a < b) = false := decide_eq_false hlt
      go_wp2_with fail
      go_ret
      exact ⟨ret_bool (by rw [HV.out]; simp [e1]), B0.out⟩
end Go.Proofs.Ytdfeahbpgchkoaa
