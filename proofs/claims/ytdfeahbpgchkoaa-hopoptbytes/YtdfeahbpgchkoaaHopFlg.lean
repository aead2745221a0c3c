/- hopopt's flags: the closures, eachFlag, bits, flagged. -/
import Derived.Test.YtdfeahbpgchkoaaHopHop
namespace Go.Proofs.Ytdfeahbpgchkoaa
open Go.ChangeShapes Go.WideShapes Go.ChangeAt Go.RowKit
set_option linter.unusedVariables false
set_option linter.unusedSimpArgs false

/-- A flag's bit beside others. -/
def orF (n bit : Int) (was : Bool) : Int := if was = true then bits .or .i64 n bit else n
set_option maxHeartbeats 400000 in
theorem bits1_any (n bit : Int) (was : Bool) (g : Nat) (w : World) (h : Row w g 3 #[.int .i64 n]) :
    Calls Try.prog 35 #[.int .i64 bit, .bool was, .pointer (some ⟨g, 0, none⟩)] w fun e w' => e = .returned (.bool was) ∧ Row w' g 3 #[.int .i64 (orF n bit was)] ∧ w.grownBy w' (some g) ∧ w'.heap.size = w.heap.size := by
  have c0 : w.cell? ⟨g, 0, none⟩ = some (.int .i64 n) := (h.cell 0).trans rfl
  have f0 := h.frozen 0
  have R0 := hid h
  have R1 : Hid (∀ x, Row (w.setCell ⟨g, 0, none⟩ (.int .i64 x)) g 3 #[.int .i64 x]) := fun x => h.set 0 _
  clear h
  go_enter Try.func35, Try.ntmps35
  cases was
  · go_wp2_with fail
    go_ret
    exact ⟨rfl, R0.out, World.grownBy.refl _ _, rfl⟩
  · go_wp2_with fail
    go_ret
    exact ⟨rfl, R1.out _, grownBy_setCell _ _ _ _, by simp⟩
/-- Is a bit set? -/
def anF (n bit : Int) : Bool := bits .and .i64 n bit != 0
set_option maxHeartbeats 400000 in
theorem flagged1_any (n bit : Int) (was : Bool) (g : Nat) (w : World) (h : Row w g 3 #[.int .i64 n]) :
    Calls Try.prog 39 #[.int .i64 bit, .bool was, .pointer (some ⟨g, 0, none⟩)] w fun e w' => e = .returned (.bool (anF n bit)) ∧ w' = w := by
  have c0 : w.cell? ⟨g, 0, none⟩ = some (.int .i64 n) := (h.cell 0).trans rfl
  clear h
  go_enter Try.func39, Try.ntmps39
  go_wp2_with fail
  go_ret
  exact ⟨rfl, rfl⟩
/-- What was there stays, but for one block. -/
def Since (g : Nat) (w w' : World) : Prop := w.grownBy w' (some g)
theorem grown_then' {w w1 w2 : World} {g : Nat} (h : Since g w w1) (k : w1.grownBy w2 (some g)) : Since g w w2 :=
  ⟨k.os.trans h.os, k.tape.trans h.tape, k.output.trans h.output, Nat.le_trans h.size k.size, fun j hj hne => (k.block j (Nat.lt_of_lt_of_le hj h.size) hne).trans (h.block j hj hne)⟩
theorem grown_set {w w1 : World} {c g : Nat} (h : Since c w w1) (j : Nat) (v : Value) (hg : w.heap.size ≤ g) : Since c w (w1.setCell ⟨g, j, none⟩ v) :=
  ⟨h.os, h.tape, h.output, by simpa using h.size, fun k hk hne => (Go.heap_setCell_other w1 ⟨g, j, none⟩ k v (by simp; omega)).trans (h.block k hk hne)⟩
theorem since_below {w w1 : World} {c : Nat} (h : Below w.heap.size w w1) : Since c w w1 := ⟨h.os, h.tape, h.output, h.size, fun k hk _ => h.block k hk⟩
theorem since_row {w w1 : World} {c g : Nat} (h : Since c w w1) (cs : Array Value) (hg : w.heap.size ≤ g) : Since c w (w1.setRow g cs) :=
  ⟨h.os, h.tape, h.output, by rw [setRow_size]; exact h.size, fun k hk hne => (setRow_other w1 g k cs (by omega)).trans (h.block k hk hne)⟩
/-- The byte of the flags of an option. -/
def bitsV (h : Ho) : Int := orF (orF (orF 0 128 h.d) 64 h.w) 32 h.f
theorem setFlags (h : Ho) : ((h.setD h.d).setW h.w).setF h.f = h := rfl
set_option maxHeartbeats 1600000 in
theorem eachBits_any (h : Ho) (n : Int) (g : Nat) (w : World) (hr : Row w g 3 #[.int .i64 n]) :
    Calls Try.prog 34 #[.agg h.cs, .func (.func 35) #[] #[.pointer (some ⟨g, 0, none⟩)]] w fun e w' => e = .returned (.agg h.cs) ∧ Row w' g 3 #[.int .i64 (orF (orF (orF n 128 h.d) 64 h.w) 32 h.f)] ∧ Since g w w' := by
  have hz := zho
  have hlt : g < w.heap.size := hr.lt
  have C1 := hid ((hr.alloc (.cells h.cs 28)).alloc (.cells Ho.zero.cs 28))
  have R1 := hid ((Row.new w 28 h.cs).alloc (.cells Ho.zero.cs 28))
  have Z1 : Hid (Row ((w.alloc (.cells h.cs 28)).alloc (.cells Ho.zero.cs 28)) (w.heap.size + 1) 28 Ho.zero.cs) := by simpa [Hid] using Row.new (w.alloc (.cells h.cs 28)) 28 Ho.zero.cs
  have B1 := hid (since_below (c := g) (balloc (balloc (Below.refl w.heap.size w) (.cells h.cs 28)) (.cells Ho.zero.cs 28)))
  go_enter Try.func34, Try.ntmps34
  go_upto_region 1 with fail
  generalize (w.alloc (.cells h.cs 28)).alloc (.cells Ho.zero.cs 28) = w1 at *
  have hG1 : w.heap.size < w.heap.size + 1 := by omega
  generalize w.heap.size + 1 = g1 at *
  have x0 := (R1.out.cell 0).trans h.at0
  go_wp2_with fail
  refine (bits1_any n 128 h.d g _ C1.out).mono ?_
  rintro e w2 ⟨rfl, hc, hg, hs⟩
  have C2 := hid hc
  have R2 := hid (R1.out.kept hg (by simp; omega))
  have Z2 := hid (Z1.out.kept hg (by simp; omega))
  have B2 := hid (grown_then' B1.out hg)
  clear hc hg hs C1 R1 Z1 B1 x0
  have y0 := R2.out.frozen 0
  have z0 := (R2.out.cell 0).trans h.at0
  have R3 : Hid (Row (w2.setCell ⟨w.heap.size, 0, none⟩ (.bool h.d)) w.heap.size 28 (h.setD h.d).cs) := by rw [Hid, ← Ho.set0]; exact R2.out.set 0 _
  have Z3 := hid (Z2.out.other ⟨w.heap.size, 0, none⟩ (.bool h.d) (by simp; omega))
  have C3 := hid (C2.out.other ⟨w.heap.size, 0, none⟩ (.bool h.d) (by simp; omega))
  have B3 := hid (grown_set B2.out (g := w.heap.size) 0 (.bool h.d) (Nat.le_refl _))
  clear C2 R2 Z2 B2
  go_upto_region 2 with fail
  generalize w2.setCell ⟨w.heap.size, 0, none⟩ (.bool h.d) = w3 at *
  clear y0 z0
  have x1 := (R3.out.cell 1).trans (h.setD h.d).at1
  go_wp2_with fail
  refine (bits1_any (orF n 128 h.d) 64 h.w g _ C3.out).mono ?_
  rintro e w4 ⟨rfl, hc, hg, hs⟩
  have C4 := hid hc
  have R4 := hid (R3.out.kept hg (by simp; omega))
  have Z4 := hid (Z3.out.kept hg (by simp; omega))
  have B4 := hid (grown_then' B3.out hg)
  clear hc hg hs C3 R3 Z3 B3 x1
  have y1 := R4.out.frozen 1
  have z1 := (R4.out.cell 1).trans (h.setD h.d).at1
  have R5 : Hid (Row (w4.setCell ⟨w.heap.size, 1, none⟩ (.bool h.w)) w.heap.size 28 ((h.setD h.d).setW h.w).cs) := by rw [Hid, ← Ho.set1]; exact R4.out.set 1 _
  have Z5 := hid (Z4.out.other ⟨w.heap.size, 1, none⟩ (.bool h.w) (by simp; omega))
  have C5 := hid (C4.out.other ⟨w.heap.size, 1, none⟩ (.bool h.w) (by simp; omega))
  have B5 := hid (grown_set B4.out (g := w.heap.size) 1 (.bool h.w) (Nat.le_refl _))
  clear C4 R4 Z4 B4
  go_upto_region 3 with fail
  generalize w4.setCell ⟨w.heap.size, 1, none⟩ (.bool h.w) = w5 at *
  clear y1 z1
  have x2 := (R5.out.cell 2).trans ((h.setD h.d).setW h.w).at2
  go_wp2_with fail
  refine (bits1_any (orF (orF n 128 h.d) 64 h.w) 32 h.f g _ C5.out).mono ?_
  rintro e w6 ⟨rfl, hc, hg, hs⟩
  have C6 := hid hc
  have R6 := hid (R5.out.kept hg (by simp; omega))
  have Z6 := hid (Z5.out.kept hg (by simp; omega))
  have B6 := hid (grown_then' B5.out hg)
  clear hc hg hs C5 R5 Z5 B5 x2
  have y2 := R6.out.frozen 2
  have z2 := (R6.out.cell 2).trans ((h.setD h.d).setW h.w).at2
  have R7 : Hid (Row (w6.setCell ⟨w.heap.size, 2, none⟩ (.bool h.f)) w.heap.size 28 (((h.setD h.d).setW h.w).setF h.f).cs) := by rw [Hid, ← Ho.set2]; exact R6.out.set 2 _
  have Z7 := hid (Z6.out.other ⟨w.heap.size, 2, none⟩ (.bool h.f) (by simp; omega))
  have C7 := hid (C6.out.other ⟨w.heap.size, 2, none⟩ (.bool h.f) (by simp; omega))
  have B7 := hid (grown_set B6.out (g := w.heap.size) 2 (.bool h.f) (Nat.le_refl _))
  clear C6 R6 Z6 B6
  go_upto_region 4 with fail
  generalize w6.setCell ⟨w.heap.size, 2, none⟩ (.bool h.f) = w7 at *
  clear y2 z2
  rw [setFlags] at R7
  go_wp2_with (first
    | (refine ldO oh _ rfl rfl w.heap.size rfl h 28 R7.out ?_)
    | (refine stO oh _ _ rfl rfl g1 h rfl rfl 28 Ho.zero Z7.out ?_))
  exact bodyPost_ret (resO oh rfl _ _ g1 28 h rfl (Z7.out.setRow _)) rfl ⟨rfl, C7.out.rowOther _ _ (by omega), since_row B7.out _ (by omega)⟩
/-- An option with the flags of a number. -/
def flgO (h : Ho) (n : Int) : Ho := ⟨anF n 128, anF n 64, anF n 32, h.i, h.r⟩
set_option maxHeartbeats 1600000 in
theorem eachFlagged_any (h : Ho) (n : Int) (g : Nat) (w : World) (hr : Row w g 3 #[.int .i64 n]) :
    Calls Try.prog 34 #[.agg h.cs, .func (.func 39) #[] #[.pointer (some ⟨g, 0, none⟩)]] w fun e w' => e = .returned (.agg (flgO h n).cs) ∧ Below w.heap.size w w' := by
  have hz := zho
  have hlt : g < w.heap.size := hr.lt
  have C1 := hid ((hr.alloc (.cells h.cs 28)).alloc (.cells Ho.zero.cs 28))
  have R1 := hid ((Row.new w 28 h.cs).alloc (.cells Ho.zero.cs 28))
  have Z1 : Hid (Row ((w.alloc (.cells h.cs 28)).alloc (.cells Ho.zero.cs 28)) (w.heap.size + 1) 28 Ho.zero.cs) := by simpa [Hid] using Row.new (w.alloc (.cells h.cs 28)) 28 Ho.zero.cs
  have B1 := hid (balloc (balloc (Below.refl w.heap.size w) (.cells h.cs 28)) (.cells Ho.zero.cs 28))
  go_enter Try.func34, Try.ntmps34
  go_upto_region 1 with fail
  generalize (w.alloc (.cells h.cs 28)).alloc (.cells Ho.zero.cs 28) = w1 at *
  have hG1 : w.heap.size < w.heap.size + 1 := by omega
  generalize w.heap.size + 1 = g1 at *
  have x0 := (R1.out.cell 0).trans h.at0
  go_wp2_with fail
  refine (flagged1_any n 128 _ g _ C1.out).mono ?_
  rintro e w1 ⟨rfl, rfl⟩
  have C2 := C1
  have R2 := R1
  have Z2 := Z1
  have B2 := B1
  clear C1 R1 Z1 B1 x0
  have y0 := R2.out.frozen 0
  have z0 := (R2.out.cell 0).trans h.at0
  have R3 : Hid (Row (w1.setCell ⟨w.heap.size, 0, none⟩ (.bool (anF n 128))) w.heap.size 28 (h.setD (anF n 128)).cs) := by rw [Hid, ← Ho.set0]; exact R2.out.set 0 _
  have Z3 := hid (Z2.out.other ⟨w.heap.size, 0, none⟩ (.bool (anF n 128)) (by simp; omega))
  have C3 := hid (C2.out.other ⟨w.heap.size, 0, none⟩ (.bool (anF n 128)) (by simp; omega))
  have B3 := hid (bset 0 (.bool (anF n 128)) B2.out (g := w.heap.size) (Nat.le_refl _))
  clear C2 R2 Z2 B2
  go_upto_region 2 with fail
  generalize w1.setCell ⟨w.heap.size, 0, none⟩ (.bool (anF n 128)) = w3 at *
  clear y0 z0
  have x1 := (R3.out.cell 1).trans (h.setD (anF n 128)).at1
  go_wp2_with fail
  refine (flagged1_any n 64 _ g _ C3.out).mono ?_
  rintro e w3 ⟨rfl, rfl⟩
  have C4 := C3
  have R4 := R3
  have Z4 := Z3
  have B4 := B3
  clear C3 R3 Z3 B3 x1
  have y1 := R4.out.frozen 1
  have z1 := (R4.out.cell 1).trans (h.setD (anF n 128)).at1
  have R5 : Hid (Row (w3.setCell ⟨w.heap.size, 1, none⟩ (.bool (anF n 64))) w.heap.size 28 ((h.setD (anF n 128)).setW (anF n 64)).cs) := by rw [Hid, ← Ho.set1]; exact R4.out.set 1 _
  have Z5 := hid (Z4.out.other ⟨w.heap.size, 1, none⟩ (.bool (anF n 64)) (by simp; omega))
  have C5 := hid (C4.out.other ⟨w.heap.size, 1, none⟩ (.bool (anF n 64)) (by simp; omega))
  have B5 := hid (bset 1 (.bool (anF n 64)) B4.out (g := w.heap.size) (Nat.le_refl _))
  clear C4 R4 Z4 B4
  go_upto_region 3 with fail
  generalize w3.setCell ⟨w.heap.size, 1, none⟩ (.bool (anF n 64)) = w5 at *
  clear y1 z1
  have x2 := (R5.out.cell 2).trans ((h.setD (anF n 128)).setW (anF n 64)).at2
  go_wp2_with fail
  refine (flagged1_any n 32 _ g _ C5.out).mono ?_
  rintro e w5 ⟨rfl, rfl⟩
  have C6 := C5
  have R6 := R5
  have Z6 := Z5
  have B6 := B5
  clear C5 R5 Z5 B5 x2
  have y2 := R6.out.frozen 2
  have z2 := (R6.out.cell 2).trans ((h.setD (anF n 128)).setW (anF n 64)).at2
  have R7 : Hid (Row (w5.setCell ⟨w.heap.size, 2, none⟩ (.bool (anF n 32))) w.heap.size 28 (((h.setD (anF n 128)).setW (anF n 64)).setF (anF n 32)).cs) := by rw [Hid, ← Ho.set2]; exact R6.out.set 2 _
  have Z7 := hid (Z6.out.other ⟨w.heap.size, 2, none⟩ (.bool (anF n 32)) (by simp; omega))
  have C7 := hid (C6.out.other ⟨w.heap.size, 2, none⟩ (.bool (anF n 32)) (by simp; omega))
  have B7 := hid (bset 2 (.bool (anF n 32)) B6.out (g := w.heap.size) (Nat.le_refl _))
  clear C6 R6 Z6 B6
  go_upto_region 4 with fail
  generalize w5.setCell ⟨w.heap.size, 2, none⟩ (.bool (anF n 32)) = w7 at *
  clear y2 z2
  have hP : (((h.setD (anF n 128)).setW (anF n 64)).setF (anF n 32)) = flgO h n := rfl
  rw [hP] at R7
  clear hP
  generalize hQ : flgO h n = P at *
  have HQ := hid hQ
  clear hQ
  go_wp2_with (first
    | (refine ldO oh _ rfl rfl w.heap.size rfl P 28 R7.out ?_)
    | (refine stO oh _ _ rfl rfl g1 P rfl rfl 28 Ho.zero Z7.out ?_))
  exact bodyPost_ret (resO oh rfl _ _ g1 28 P rfl (Z7.out.setRow _)) rfl ⟨by rw [HQ.out], below_setRow' B7.out (by omega) _⟩
set_option maxHeartbeats 800000 in
theorem bitsOf_any (h : Ho) (w : World) :
    Calls Try.prog 23 #[.agg h.cs] w fun e w' => e = .returned (.int .i64 (bitsV h)) ∧ Below w.heap.size w w' := by
  have hmf : ∀ (fn : Fn) (first cap : Array Value) (w : World), (Instr.makeFunc fn first cap).run Try.prog w = .ok (.func fn first cap) w := fun _ _ _ _ => rfl
  have R1 := hid (Row.new w 28 h.cs)
  have B1 := hid (balloc (Below.refl w.heap.size w) (.cells h.cs 28))
  go_enter Try.func23, Try.ntmps23
  go_upto_region 1 with fail
  have hs1 : (w.alloc (.cells h.cs 28)).heap.size = w.heap.size + 1 := by simp
  generalize w.alloc (.cells h.cs 28) = w1 at *
  have C2 : Hid (Row (w1.alloc (.cells #[.int .i64 0] 3)) (w.heap.size + 1) 3 #[.int .i64 0]) := by rw [Hid, ← hs1]; exact Row.new w1 3 #[.int .i64 0]
  have R2 := hid (R1.out.alloc (.cells #[.int .i64 0] 3))
  have B2 := hid (balloc B1.out (.cells #[.int .i64 0] 3))
  have f0 := (Row.new w1 3 #[.int .i64 0]).frozen 0
  have c0 := ((Row.new w1 3 #[.int .i64 0]).cell 0).trans rfl
  clear R1 B1
  go_upto_region 2 with fail
  generalize w1.alloc (.cells #[.int .i64 0] 3) = w2 at *
  clear hs1 f0 c0
  have hG1 : w.heap.size < w.heap.size + 1 := by omega
  generalize w.heap.size + 1 = g1 at *
  go_wp2_with (refine ldO oh _ rfl rfl w.heap.size rfl h 28 R2.out ?_)
  refine (eachBits_any h 0 g1 _ C2.out).mono ?_
  rintro e w3 ⟨rfl, hc, hs⟩
  have c0 := (hc.cell 0).trans rfl
  have B3 := hid (bgrown B2.out hs (by omega))
  clear hc hs C2 R2 B2
  have HV : Hid (orF (orF (orF 0 128 h.d) 64 h.w) 32 h.f = bitsV h) := rfl
  rw [HV.out] at c0
  go_wp2_with fail
  go_ret
  exact ⟨rfl, B3.out⟩
set_option maxHeartbeats 800000 in
theorem flaggedOf_any (n : Int) (w : World) :
    Calls Try.prog 27 #[.int .i64 n] w fun e w' => e = .returned (.agg (flgO Ho.zero n).cs) ∧ Below w.heap.size w w' := by
  have hz := zho
  have hmf : ∀ (fn : Fn) (first cap : Array Value) (w : World), (Instr.makeFunc fn first cap).run Try.prog w = .ok (.func fn first cap) w := fun _ _ _ _ => rfl
  have C1 := hid ((Row.new w 3 #[.int .i64 n]).alloc (.cells Ho.zero.cs 28))
  have Z1 : Hid (Row ((w.alloc (.cells #[.int .i64 n] 3)).alloc (.cells Ho.zero.cs 28)) (w.heap.size + 1) 28 Ho.zero.cs) := by simpa [Hid] using Row.new (w.alloc (.cells #[.int .i64 n] 3)) 28 Ho.zero.cs
  have B1 := hid (balloc (balloc (Below.refl w.heap.size w) (.cells #[.int .i64 n] 3)) (.cells Ho.zero.cs 28))
  go_enter Try.func27, Try.ntmps27
  go_upto_region 1 with fail
  generalize (w.alloc (.cells #[.int .i64 n] 3)).alloc (.cells Ho.zero.cs 28) = w1 at *
  have hG1 : w.heap.size < w.heap.size + 1 := by omega
  generalize w.heap.size + 1 = g1 at *
  go_wp2_with (refine bdOz oh rfl rfl ?_)
  refine (eachFlagged_any Ho.zero n w.heap.size _ C1.out).mono ?_
  rintro e w2 ⟨rfl, hb2⟩
  have Z2 := hid (Z1.out.below hb2)
  have B2 := hid (bthen B1.out hb2)
  clear hb2 C1 Z1 B1
  go_wp2_with (refine stO oh _ _ rfl rfl g1 (flgO Ho.zero n) rfl rfl 28 Ho.zero Z2.out ?_)
  exact bodyPost_ret (resO oh rfl _ _ g1 28 (flgO Ho.zero n) rfl (Z2.out.setRow _)) rfl ⟨rfl, below_setRow' B2.out (by omega) _⟩
end Go.Proofs.Ytdfeahbpgchkoaa
