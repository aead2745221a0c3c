/- rivuletlaw06's known. -/
import Derived.Test.YtdfeahbpgchkoaaHopHop
namespace Go.Proofs.Ytdfeahbpgchkoaa
open Go.ChangeShapes Go.WideShapes Go.ChangeAt Go.RowKit
set_option linter.unusedVariables false
set_option linter.unusedSimpArgs false

def hoA : Ho := ⟨true, false, false, 0, 256⟩
def hoB : Ho := ⟨false, false, false, 0, 256⟩
def hoC : Ho := ⟨false, true, false, 0, 512⟩
def hoD : Ho := ⟨false, true, false, 0, 256⟩
theorem builtA : Try.prog.built 28 [(0, .bool true), (4, .int .i64 256)] = some hoA.cs := by kernel_rfl
theorem builtB : Try.prog.built 28 [(4, .int .i64 256)] = some hoB.cs := by kernel_rfl
theorem bdA {ops : Array Oper} {rest : List Oper} {o : Oper} {a : Act} {w : World} {Q : Exit → Act → World → Prop} (ho : o.op = .build 28 #[(0, .const (.bool true)), (4, .const (.int .i64 256))]) (hg : o.guard = none)
    (hn : wpList Try.prog ops Q rest (a.put o.dst (.agg hoA.cs)) w) : wpList Try.prog ops Q (o :: rest) a w :=
  wp_bd 28 _ ho hg hoA.cs (by simp only [List.map_toArray, List.map_cons, List.map_nil, Act.eval]; exact builtA) hn
theorem bdB {ops : Array Oper} {rest : List Oper} {o : Oper} {a : Act} {w : World} {Q : Exit → Act → World → Prop} (ho : o.op = .build 28 #[(4, .const (.int .i64 256))]) (hg : o.guard = none)
    (hn : wpList Try.prog ops Q rest (a.put o.dst (.agg hoB.cs)) w) : wpList Try.prog ops Q (o :: rest) a w :=
  wp_bd 28 _ ho hg hoB.cs (by simp only [List.map_toArray, List.map_cons, List.map_nil, Act.eval]; exact builtB) hn
theorem consA (w : World) : Calls Try.prog 18 #[.agg hoA.cs, .int .i64 512, .int .i64 256] w fun e w' => e = .returned (.tuple #[.bool true, .int .i64 0]) ∧ Below w.heap.size w w' := by
  have := consistent_any hoA 512 256 w
  rw [show conV hoA 512 256 = true by decide, show hpE hoA 512 256 = 0 by decide] at this
  exact this
theorem hopK (w : World) : Calls Try.prog 16 #[.agg hoB.cs, .int .i64 512, .int .i64 256] w fun e w' => e = .returned (.tuple #[.agg hoC.cs, .bool false, .int .i64 0]) ∧ Below w.heap.size w w' := by
  have := hop_any hoB 512 256 w
  rw [show conV hoB 512 256 = false by decide, show hopE hoB 512 256 = 0 by decide, show hopO hoB 512 256 = hoC by rw [hopO, if_pos (by decide)]; simp [hoB, hoC, Ho.setW, Ho.setR, csB]] at this
  exact this
theorem hopL (w : World) : Calls Try.prog 16 #[.agg hoD.cs, .int .i64 512, .int .i64 256] w fun e w' => e = .returned (.tuple #[.agg Ho.zero.cs, .bool false, .int .i64 11]) ∧ Below w.heap.size w w' := by
  have := hop_any hoD 512 256 w
  rw [show conV hoD 512 256 = false by decide, show hopE hoD 512 256 = 11 by decide, show hopO hoD 512 256 = Ho.zero by rw [hopO, if_neg (by decide)]] at this
  exact this
set_option maxHeartbeats 1600000 in
theorem hopKnown_any (w : World) : Calls Try.prog 14 #[] w fun e w' => e = .returned (.bool true) ∧ Below w.heap.size w w' := by
  have hz := zho
  go_enter Try.func14, Try.ntmps14
  go_wp2_with (refine bdA rfl rfl ?_)
  refine (consA _).mono ?_
  rintro e w1 ⟨rfl, hb1⟩
  have B1 := hid hb1
  clear hb1
  go_wp2_with (refine bdB rfl rfl ?_)
  refine (hopK _).mono ?_
  rintro e w2 ⟨rfl, hb2⟩
  have B2 := hid (bthen (bthen B1.out hb2) (layO_below w2 28 hoC))
  have N2 := hid (layO_new w2 28 hoC)
  have hle : w.heap.size ≤ w2.heap.size := Nat.le_trans B1.out.size hb2.size
  clear hb2 B1
  go_upto_region 3 with (refine stO oh _ _ rfl rfl w2.heap.size hoC rfl rfl 28 Ho.zero (Row.new w2 28 _) ?_)
  generalize (w2.alloc (.cells Ho.zero.cs 28)).setRow w2.heap.size hoC.cs = w3 at *
  generalize w2.heap.size = g at *
  have f4 := N2.out.frozen 4
  have n4 := (N2.out.cell 4).trans hoC.at4
  have N3 : Hid (Row (w3.setCell ⟨g, 4, none⟩ (.int .i64 256)) g 28 hoD.cs) := by rw [Hid]; exact N2.out.set 4 _
  have B3 := hid (bset 4 (.int .i64 256) B2.out (g := g) hle)
  go_wp2_with (refine ldO oh _ rfl rfl g rfl hoD 28 N3.out ?_)
  generalize w3.setCell ⟨g, 4, none⟩ (.int .i64 256) = w4 at *
  refine (hopL _).mono ?_
  rintro e w5 ⟨rfl, hb5⟩
  have N5 := hid ((N3.out.below hb5).below (layO_below w5 28 Ho.zero))
  have B5 := hid (bthen (bthen B3.out hb5) (layO_below w5 28 Ho.zero))
  clear hb5 B3 N3 n4 f4
  go_upto_region 5 with (refine stO oh _ _ rfl rfl w5.heap.size Ho.zero rfl rfl 28 Ho.zero (Row.new w5 28 _) ?_)
  generalize (w5.alloc (.cells Ho.zero.cs 28)).setRow w5.heap.size Ho.zero.cs = w6 at *
  have c1 : w6.cell? ⟨g, 1, none⟩ = some (.bool true) := (N5.out.cell 1).trans hoD.at1
  go_wp2_with fail
  go_ret
  exact ⟨rfl, B5.out⟩
end Go.Proofs.Ytdfeahbpgchkoaa
