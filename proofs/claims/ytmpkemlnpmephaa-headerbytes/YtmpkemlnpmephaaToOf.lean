/- What the laws' To and Of answer: contracts. -/
import Derived.Test.YtmpkemlnpmephaaHd
namespace Go.Proofs.Ytmpkemlnpmephaa
open Go.ChangeShapes Go.WideShapes Go.ChangeAt Go.RowKit
set_option linter.unusedVariables false
set_option linter.unusedSimpArgs false

set_option maxHeartbeats 400000 in
theorem to_any (h : Hd) (k : h.ok) (w : World) :
    Calls Try.prog 6 #[.agg h.cs] w fun e w' => e = .returned (.agg h.cs) ∧ Below w.heap.size w w' := by
  have hz := zhd
  have R0 : Row ((w.alloc (.cells h.cs 24)).alloc (.cells Hd.zero.cs 28)) w.heap.size 24 h.cs := (Row.new w 24 _).alloc _
  have R1 : Row ((w.alloc (.cells h.cs 24)).alloc (.cells Hd.zero.cs 28)) (w.heap.size + 1) 28 Hd.zero.cs := by simpa using Row.new (w.alloc (.cells h.cs 24)) 28 Hd.zero.cs
  have B1 := hid (balloc (balloc (Below.refl w.heap.size w) (.cells h.cs 24)) (.cells Hd.zero.cs 28))
  have c0 := (R0.cell 0).trans h.at0
  have c1 := (R0.cell 1).trans h.at1
  have c2 := (R0.cell 2).trans h.at2
  have c3 := (R0.cell 3).trans h.at3
  have c4 := (R0.cell 4).trans h.at4
  have HR0 := hid R0
  have HR1 := hid R1
  clear R0 R1
  go_enter Try.func6, Try.ntmps6
  go_upto_region 1 with fail
  clear hz
  generalize (w.alloc (.cells h.cs 24)).alloc (.cells Hd.zero.cs 28) = w1 at *
  go_wp2_with (first
    | (refine ld22 _ rfl rfl w.heap.size 5 rfl h.f k.1.1 (HR0.out.partF k) ?_)
    | (refine ld22 _ rfl rfl w.heap.size 21 rfl h.t k.2.1 (HR0.out.partT k) ?_)
    | (refine bd28 _ _ _ _ _ _ _ rfl rfl h k rfl rfl rfl rfl rfl rfl rfl ?_)
    | (refine st28 _ _ rfl rfl (w.heap.size + 1) h k rfl rfl 28 Hd.zero Hd.zero_ok HR1.out ?_))
  exact bodyPost_ret (res28 rfl _ _ (w.heap.size + 1) 28 h k rfl (HR1.out.setRow _)) rfl ⟨rfl, below_setRow' B1.out (by omega) _⟩

set_option maxHeartbeats 400000 in
theorem of_any (h : Hd) (k : h.ok) (w : World) :
    Calls Try.prog 13 #[.agg h.cs] w fun e w' => e = .returned (.agg h.cs) ∧ Below w.heap.size w w' := by
  have hz := zhd
  have R0 : Row ((w.alloc (.cells h.cs 28)).alloc (.cells Hd.zero.cs 24)) w.heap.size 28 h.cs := (Row.new w 28 _).alloc _
  have R1 : Row ((w.alloc (.cells h.cs 28)).alloc (.cells Hd.zero.cs 24)) (w.heap.size + 1) 24 Hd.zero.cs := by simpa using Row.new (w.alloc (.cells h.cs 28)) 24 Hd.zero.cs
  have B1 := hid (balloc (balloc (Below.refl w.heap.size w) (.cells h.cs 28)) (.cells Hd.zero.cs 24))
  have c0 := (R0.cell 0).trans h.at0
  have c1 := (R0.cell 1).trans h.at1
  have c2 := (R0.cell 2).trans h.at2
  have c3 := (R0.cell 3).trans h.at3
  have c4 := (R0.cell 4).trans h.at4
  have HR0 := hid R0
  have HR1 := hid R1
  clear R0 R1
  go_enter Try.func13, Try.ntmps13
  go_upto_region 1 with fail
  clear hz
  generalize (w.alloc (.cells h.cs 28)).alloc (.cells Hd.zero.cs 24) = w1 at *
  go_wp2_with (first
    | (refine ld26 _ rfl rfl w.heap.size 5 rfl h.f k.1.1 (HR0.out.partF k) ?_)
    | (refine ld26 _ rfl rfl w.heap.size 21 rfl h.t k.2.1 (HR0.out.partT k) ?_)
    | (refine bd24 _ _ _ _ _ _ _ rfl rfl h k rfl rfl rfl rfl rfl rfl rfl ?_)
    | (refine st24 _ _ rfl rfl (w.heap.size + 1) h k rfl rfl 24 Hd.zero Hd.zero_ok HR1.out ?_))
  exact bodyPost_ret (res24 rfl _ _ (w.heap.size + 1) 24 h k rfl (HR1.out.setRow _)) rfl ⟨rfl, below_setRow' B1.out (by omega) _⟩
end Go.Proofs.Ytmpkemlnpmephaa
