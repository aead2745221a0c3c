/- What the document's Check answers: a contract. -/
import Derived.Test.YtmpkemlnpmephaaChk
namespace Go.Proofs.Ytmpkemlnpmephaa
open Go.ChangeShapes Go.WideShapes Go.ChangeAt Go.RowKit
set_option linter.unusedVariables false
set_option linter.unusedSimpArgs false

/-- Numbers as cells. -/
def nArr (l : List Int) : Array Value := (l.map (Value.int .i64)).toArray
theorem nArr_at (l : List Int) (j : Nat) (h : j < l.length) : (nArr l)[j]? = some (.int .i64 (l.getD j 0)) := by simp [nArr, h]
def most : List Int := [255, 1048575, 65535, 255, 255]
def nums (h : Hd) : List Int := [h.c, h.fl, h.ln, h.nx, h.hp]
theorem okH_all (h : Hd) : okH h = true ↔ ∀ j, j < 5 → 0 ≤ (nums h).getD j 0 ∧ (nums h).getD j 0 ≤ most.getD j 0 := by
  constructor
  · intro hk j hj
    have := okH_yes hk
    match j, hj with
    | 0, _ => exact this.1
    | 1, _ => exact this.2.1
    | 2, _ => exact this.2.2.1
    | 3, _ => exact this.2.2.2.1
    | 4, _ => exact this.2.2.2.2
  · intro hk
    have := hk 0 (by omega); have := hk 1 (by omega); have := hk 2 (by omega); have := hk 3 (by omega); have := hk 4 (by omega)
    simp [nums, most] at *
    simp [okH]; omega

set_option maxHeartbeats 800000 in
theorem refCheck_any (h : Hd) (k : h.ok) (w : World) :
    Calls Try.prog 9 #[.agg h.cs] w fun e w' => e = .returned (.int .i64 (chkV h)) ∧ Below w.heap.size w w' := by
  have R0 : Row (w.alloc (.cells h.cs 24)) w.heap.size 24 h.cs := Row.new w 24 _
  have B0 := hid (balloc (Below.refl w.heap.size w) (.cells h.cs 24))
  have HR0 := hid R0
  clear R0
  go_enter Try.func9, Try.ntmps9
  go_upto_region 1 with fail
  generalize hw1 : w.alloc (.cells h.cs 24) = w1 at *
  have c0 := (HR0.out.cell 0).trans h.at0
  have c1 := (HR0.out.cell 1).trans h.at1
  have c2 := (HR0.out.cell 2).trans h.at2
  have c3 := (HR0.out.cell 3).trans h.at3
  have c4 := (HR0.out.cell 4).trans h.at4
  clear hw1
  go_wp2_with fail
  obtain ⟨w2, hw2⟩ : ∃ w2, w2 = (w1.alloc (.cells (nArr (nums h)) 51)).alloc (.cells (nArr most) 51) := ⟨_, rfl⟩
  have RA : Row w2 w1.heap.size 51 (nArr (nums h)) := by rw [hw2]; exact (Row.new w1 51 _).alloc _
  have RM : Row w2 (w1.heap.size + 1) 51 (nArr most) := by
    rw [hw2]
    have := Row.new (w1.alloc (.cells (nArr (nums h)) 51)) 51 (nArr most)
    rwa [World.size_alloc] at this
  have B2 : Hid (Below w.heap.size w w2) := by rw [hw2]; exact balloc (balloc B0.out _) _
  have HA := hid RA
  have HM := hid RM
  have e : (w1.alloc (.cells #[.int .i64 h.c, .int .i64 h.fl, .int .i64 h.ln, .int .i64 h.nx, .int .i64 h.hp] 51)).alloc (.cells #[.int .i64 255, .int .i64 1048575, .int .i64 65535, .int .i64 255, .int .i64 255] 51) = w2 := hw2.symm
  rw [e]
  have HO := hid (okH_all h)
  have HV : Hid (chkV h = if okH h = true then 0 else 1) := rfl

  clear e hw2 RA RM c0 c1 c2 c3 c4 B0 HR0
  go_loopw [5] (fun i wr => ∃ j : Nat, j ≤ 5 ∧ i = .int .i64 j ∧ Hid (∀ m, m < j → 0 ≤ (nums h).getD m 0 ∧ (nums h).getD m 0 ≤ most.getD m 0) ∧ ∃ q, wr = w2.drewN q) (fun i _ => 5 - (intOf i).toNat)
  case atStart => exact ⟨0, by omega, rfl, (fun m hm => by omega), 0, rfl⟩
  case round =>
    obtain ⟨j, hj, rfl, hall, q, rfl⟩ := hrel
    by_cases hlt : j < 5
    · have hx := (HA.out.cell j).trans (nArr_at (nums h) j (by simpa [nums] using hlt))
      have hm := (HM.out.cell j).trans (nArr_at most j (by simpa [most] using hlt))
      have HX : Hid (∀ x m, (nums h).getD j 0 = x → most.getD j 0 = m → (x < 0 ∨ m < x) → okH h = false) := by
        intro x m e1 e2 h3
        rw [Bool.eq_false_iff]
        intro h4
        have := (HO.out.1 h4) j hlt
        rw [e1, e2] at this
        omega
      have HY : Hid (∀ x m, (nums h).getD j 0 = x → most.getD j 0 = m → 0 ≤ x → x ≤ m → ∀ i, i < j + 1 → 0 ≤ (nums h).getD i 0 ∧ (nums h).getD i 0 ≤ most.getD i 0) := by
        intro x m e1 e2 h3 h4 i hi
        by_cases hij : i = j
        · subst hij; rw [e1, e2]; exact ⟨h3, h4⟩
        · exact hall.out i (by omega)
      generalize hx0 : (nums h).getD j 0 = x at hx
      generalize hm0 : most.getD j 0 = m at hm
      have X := hid (HX.out x m hx0 hm0)
      have Y := hid (HY.out x m hx0 hm0)
      clear HX HY hx0 hm0 HA HM HO
      have hlt' : (j : Int) < 5 := by omega
      by_cases h0 : x < 0
      · have d0 : decide (x < 0) = true := by simp; omega
        go_wp2
        go_quiet (fail)
        go_wp2
        go_ret
        exact ⟨ret_int (by rw [HV.out, X.out (.inl h0)]; rfl), bdrew (bdrew B2.out q) nq⟩
      · have d0 : decide (x < 0) = false := by simp; omega
        by_cases h1 : m < x
        · have d1 : decide (m < x) = true := by simp; omega
          go_wp2
          go_quiet (fail)
          go_wp2
          go_ret
          exact ⟨ret_int (by rw [HV.out, X.out (.inr h1)]; rfl), bdrew (bdrew B2.out q) nq⟩
        · have d1 : decide (m < x) = false := by simp; omega
          go_wp2
          go_quiet (fail)
          go_wp2
          go_roundw
          case rel => exact ⟨j + 1, by omega, by go_num, Y.out (by omega) (by omega), q + nq, rfl⟩
          case measure => simp [intOf]; omega
    · obtain rfl : j = 5 := by omega
      have HT := hid (HO.out.2 hall.out)
      go_wp2
      go_ret
      exact ⟨ret_int (by rw [HV.out, HT.out]; rfl), bdrew B2.out q⟩
end Go.Proofs.Ytmpkemlnpmephaa
