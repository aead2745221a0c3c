/- What header's Passed answers: a contract. -/
import Derived.Test.YtmpkemlnpmephaaChk
namespace Go.Proofs.Ytmpkemlnpmephaa
open Go.ChangeShapes Go.WideShapes Go.ChangeAt Go.RowKit
set_option linter.unusedVariables false
set_option linter.unusedSimpArgs false

/-- What is wrong with passing on. -/
def pasE (h : Hd) : Int := if okH h = true then (if h.hp ≤ 1 then 12 else 0) else 1
/-- The header behind that. -/
def pasH (h : Hd) : Hd := if pasE h = 0 then h.setHp (h.hp - 1) else Hd.zero
theorem pasH_ok {h : Hd} (k : h.ok) : (pasH h).ok := by unfold pasH; split; exact Hd.setHp_ok k _; exact Hd.zero_ok

set_option maxHeartbeats 800000 in
theorem passed_any (h : Hd) (k : h.ok) (w : World) :
    Calls Try.prog 8 #[.agg h.cs] w fun e w' => e = .returned (.tuple #[.agg (pasH h).cs, .int .i64 (pasE h)]) ∧ Below w.heap.size w w' := by
  have hz := zhd
  have HR0 := hid ((Row.new w 28 h.cs).alloc (.cells Hd.zero.cs 28))
  have HR1 : Hid (Row ((w.alloc (.cells h.cs 28)).alloc (.cells Hd.zero.cs 28)) (w.heap.size + 1) 28 Hd.zero.cs) := by simpa [Hid] using Row.new (w.alloc (.cells h.cs 28)) 28 Hd.zero.cs
  have B1 := hid (balloc (balloc (Below.refl w.heap.size w) (.cells h.cs 28)) (.cells Hd.zero.cs 28))
  have HE : Hid (pasE h = if okH h = true then (if h.hp ≤ 1 then 12 else 0) else 1) := rfl
  have HP : Hid (pasH h = if pasE h = 0 then h.setHp (h.hp - 1) else Hd.zero) := rfl
  have HV : Hid (chkV h = if okH h = true then 0 else 1) := rfl
  have HY := hid (fun k' : okH h = true => okH_yes k')
  generalize pasH h = P at *
  generalize pasE h = E at *
  go_enter Try.func8, Try.ntmps8
  go_upto_region 1 with fail
  clear hz
  generalize (w.alloc (.cells h.cs 28)).alloc (.cells Hd.zero.cs 28) = w1 at *
  go_wp2_with (refine ld28 _ rfl rfl w.heap.size rfl h k 28 HR0.out ?_)
  refine (check_any h k _).mono ?_
  rintro e w2 ⟨rfl, hb2⟩
  have R0 := hid (HR0.out.below hb2)
  have R1 := hid (HR1.out.below hb2)
  have B2 := hid (bthen B1.out hb2)
  clear hb2 HR0 HR1 B1
  rw [HV.out]
  have HO := hid (rfl : okH h = okH h)
  generalize okH h = ob at *
  cases ob
  · have hP : Hid (P = Hd.zero) := by rw [Hid, HP.out, HE.out]; rfl
    have hE : Hid (E = 1) := by rw [Hid, HE.out]; rfl
    go_wp2_with (first
      | (refine bd28z rfl rfl ?_)
      | (refine st28 _ _ rfl rfl (w.heap.size + 1) Hd.zero Hd.zero_ok rfl rfl 28 Hd.zero Hd.zero_ok R1.out ?_))
    exact bodyPost_ret (res28e rfl _ _ (w.heap.size + 1) 28 Hd.zero Hd.zero_ok (.int .i64 1) rfl rfl (R1.out.setRow _)) rfl ⟨by rw [hP.out, hE.out], below_setRow' B2.out (by omega) _⟩
  · obtain ⟨_, _, _, _, h0, h1⟩ := HY.out rfl
    have c4 := (R0.out.cell 4).trans h.at4
    have f4 := R0.out.frozen 4
    by_cases hle : h.hp ≤ 1
    · have hE : Hid (E = 12) := by rw [Hid, HE.out]; simp [hle]
      have hP : Hid (P = Hd.zero) := by rw [Hid, HP.out, hE.out]; rfl
      go_wp2_with (first
        | (refine bd28z rfl rfl ?_)
        | (refine st28 _ _ rfl rfl (w.heap.size + 1) Hd.zero Hd.zero_ok rfl rfl 28 Hd.zero Hd.zero_ok R1.out ?_))
      exact bodyPost_ret (res28e rfl _ _ (w.heap.size + 1) 28 Hd.zero Hd.zero_ok (.int .i64 12) rfl rfl (R1.out.setRow _)) rfl ⟨by rw [hP.out, hE.out], below_setRow' B2.out (by omega) _⟩
    · have hE : Hid (E = 0) := by rw [Hid, HE.out]; simp [hle]
      have hP : Hid (P = h.setHp (h.hp - 1)) := by rw [Hid, HP.out, hE.out]; rfl
      have R0' : Hid (Row (w2.setCell ⟨w.heap.size, 4, none⟩ (.int .i64 (h.hp - 1))) w.heap.size 28 (h.setHp (h.hp - 1)).cs) := by rw [Hid, ← Hd.set4]; exact R0.out.set 4 _
      have R1' := hid (R1.out.other ⟨w.heap.size, 4, none⟩ (.int .i64 (h.hp - 1)) (by simp))
      have hk := Hd.setHp_ok k (h.hp - 1)
      have B3 := hid (Below.setCell B2.out (p := ⟨w.heap.size, 4, none⟩) (Nat.le_refl _) (.int .i64 (h.hp - 1)))
      generalize h.setHp (h.hp - 1) = h2 at *
      go_wp2_with (first
        | (refine ld28 _ rfl rfl w.heap.size rfl h2 hk 28 R0'.out ?_)
        | (refine st28 _ _ rfl rfl (w.heap.size + 1) h2 hk rfl rfl 28 Hd.zero Hd.zero_ok R1'.out ?_))
      exact bodyPost_ret (res28e rfl _ _ (w.heap.size + 1) 28 h2 hk (.int .i64 0) rfl rfl (R1'.out.setRow _)) rfl ⟨by rw [hP.out, hE.out], below_setRow' B3.out (by omega) _⟩
end Go.Proofs.Ytmpkemlnpmephaa
