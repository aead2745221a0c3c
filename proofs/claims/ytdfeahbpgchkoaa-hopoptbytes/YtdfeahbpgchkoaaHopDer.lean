/- hopopt's and ref's Decode where something is wrong. -/
import Derived.Test.YtdfeahbpgchkoaaHopDef
namespace Go.Proofs.Ytdfeahbpgchkoaa
open Go.ChangeShapes Go.WideShapes Go.ChangeAt Go.RowKit
set_option linter.unusedVariables false
set_option linter.unusedSimpArgs false

set_option maxHeartbeats 1600000 in
theorem dec_short (a : Option Addr) (len cap : Nat) (l : List Int) (w : World) (h : Lies .u8 w a len cap l) (ho : Oct l) (hs : len < 8) :
    Calls Try.prog 8 #[.slice a len cap] w fun r w' => r = .returned (.tuple #[.int .i64 0, .agg Ho.zero.cs, .slice none 0 0, .int .i64 4]) ∧ Below w.heap.size w w' := by
  have hz := zho
  have Z1 := hid (Row.new w 28 Ho.zero.cs)
  have B1 := hid (balloc (Below.refl w.heap.size w) (.cells Ho.zero.cs 28))
  have hs' : (len : Int) < 8 := by omega
  clear h
  go_enter Try.func8, Try.ntmps8
  go_upto_region 1 with fail
  generalize w.alloc (.cells Ho.zero.cs 28) = w1 at *
  go_wp2_with (first
    | (refine bdOz oh rfl rfl ?_)
    | (refine stO oh _ _ rfl rfl w.heap.size Ho.zero rfl rfl 28 Ho.zero Z1.out ?_))
  exact bodyPost_ret (resOd oh rfl _ _ w.heap.size 28 Ho.zero (.int .i64 0) (.slice none 0 0) (.int .i64 4) rfl rfl rfl rfl (Z1.out.setRow _)) rfl ⟨rfl, below_setRow' B1.out (Nat.le_refl _) _⟩
set_option maxHeartbeats 1600000 in
theorem dec_kind (a : Option Addr) (len cap : Nat) (l : List Int) (w : World) (h : Lies .u8 w a len cap l) (ho : Oct l) (hs : 8 ≤ len) (hk : ¬ (l.getD 1 0 = 0 ∧ l.getD 2 0 = 99 ∧ l.getD 3 0 = 4)) :
    Calls Try.prog 8 #[.slice a len cap] w fun r w' => r = .returned (.tuple #[.int .i64 0, .agg Ho.zero.cs, .slice none 0 0, .int .i64 6]) ∧ Below w.heap.size w w' := by
  have hz := zho
  have Z1 := hid (Row.new w 28 Ho.zero.cs)
  have B1 := hid (balloc (Below.refl w.heap.size w) (.cells Ho.zero.cs 28))
  obtain ⟨b, off, rfl, hcell⟩ := (h.below B1.out).at (by omega)
  have hcm : cap ≤ maxLen := h.2.2.1
  have hlc := h.2.1
  have hll := h.1
  unfold maxLen at hcm
  have q1 := hcell 1 (by omega)
  have x1b := ho.at 1 (by omega)
  have q2 := hcell 2 (by omega)
  have x2b := ho.at 2 (by omega)
  have q3 := hcell 3 (by omega)
  have x3b := ho.at 3 (by omega)
  generalize l.getD 1 0 = x1 at *
  generalize l.getD 2 0 = x2 at *
  generalize l.getD 3 0 = x3 at *
  have hs' : decide ((len : Int) < 8) = false := by simp; omega
  clear h hcell ho hll
  go_enter Try.func8, Try.ntmps8
  go_upto_region 1 with fail
  generalize w.alloc (.cells Ho.zero.cs 28) = w1 at *
  by_cases h1 : x1 = 0
  · have e1 : (x1 != 0) = false := by simp [h1]
    by_cases h2 : x2 = 99
    · have e2 : (x2 != 99) = false := by simp [h2]
      have e3 : (x3 != 4) = true := by rw [bne_iff_ne]; intro h3; exact hk ⟨h1, h2, h3⟩
      clear hk h1 h2
      go_wp2_with (first
        | (refine bdOz oh rfl rfl ?_)
        | (refine stO oh _ _ rfl rfl w.heap.size Ho.zero rfl rfl 28 Ho.zero Z1.out ?_))
      exact bodyPost_ret (resOd oh rfl _ _ w.heap.size 28 Ho.zero (.int .i64 0) (.slice none 0 0) (.int .i64 6) rfl rfl rfl rfl (Z1.out.setRow _)) rfl ⟨rfl, below_setRow' B1.out (Nat.le_refl _) _⟩
    · have e2 : (x2 != 99) = true := by rw [bne_iff_ne]; exact h2
      clear hk h1 h2
      go_wp2_with (first
        | (refine bdOz oh rfl rfl ?_)
        | (refine stO oh _ _ rfl rfl w.heap.size Ho.zero rfl rfl 28 Ho.zero Z1.out ?_))
      exact bodyPost_ret (resOd oh rfl _ _ w.heap.size 28 Ho.zero (.int .i64 0) (.slice none 0 0) (.int .i64 6) rfl rfl rfl rfl (Z1.out.setRow _)) rfl ⟨rfl, below_setRow' B1.out (Nat.le_refl _) _⟩
  · have e1 : (x1 != 0) = true := by rw [bne_iff_ne]; exact h1
    clear hk h1
    go_wp2_with (first
      | (refine bdOz oh rfl rfl ?_)
      | (refine stO oh _ _ rfl rfl w.heap.size Ho.zero rfl rfl 28 Ho.zero Z1.out ?_))
    exact bodyPost_ret (resOd oh rfl _ _ w.heap.size 28 Ho.zero (.int .i64 0) (.slice none 0 0) (.int .i64 6) rfl rfl rfl rfl (Z1.out.setRow _)) rfl ⟨rfl, below_setRow' B1.out (Nat.le_refl _) _⟩
set_option maxHeartbeats 1600000 in
theorem dec_form (a : Option Addr) (len cap : Nat) (l : List Int) (w : World) (h : Lies .u8 w a len cap l) (ho : Oct l) (hs : 8 ≤ len) (k1 : l.getD 1 0 = 0) (k2 : l.getD 2 0 = 99) (k3 : l.getD 3 0 = 4) (hk : ¬ l.getD 4 0 % 32 = 0) :
    Calls Try.prog 8 #[.slice a len cap] w fun r w' => r = .returned (.tuple #[.int .i64 0, .agg Ho.zero.cs, .slice none 0 0, .int .i64 3]) ∧ Below w.heap.size w w' := by
  have hz := zho
  have Z1 := hid (Row.new w 28 Ho.zero.cs)
  have B1 := hid (balloc (Below.refl w.heap.size w) (.cells Ho.zero.cs 28))
  obtain ⟨b, off, rfl, hcell⟩ := (h.below B1.out).at (by omega)
  have hcm : cap ≤ maxLen := h.2.2.1
  have hlc := h.2.1
  have hll := h.1
  unfold maxLen at hcm
  have q1 := hcell 1 (by omega)
  have x1b := ho.at 1 (by omega)
  have q2 := hcell 2 (by omega)
  have x2b := ho.at 2 (by omega)
  have q3 := hcell 3 (by omega)
  have x3b := ho.at 3 (by omega)
  have q4 := hcell 4 (by omega)
  have x4b := ho.at 4 (by omega)
  generalize l.getD 1 0 = x1 at *
  generalize l.getD 2 0 = x2 at *
  generalize l.getD 3 0 = x3 at *
  generalize l.getD 4 0 = x4 at *
  have hs' : decide ((len : Int) < 8) = false := by simp; omega
  clear h hcell ho hll
  subst k1
  subst k2
  subst k3
  have e4 : (bits .andNot .u8 x4 224 != 0) = true := by rw [more_of x4b.1 x4b.2]; simp [hk]
  clear hk
  go_enter Try.func8, Try.ntmps8
  go_upto_region 1 with fail
  generalize w.alloc (.cells Ho.zero.cs 28) = w1 at *
  go_wp2_with (first
    | (refine bdOz oh rfl rfl ?_)
    | (refine stO oh _ _ rfl rfl w.heap.size Ho.zero rfl rfl 28 Ho.zero Z1.out ?_))
  exact bodyPost_ret (resOd oh rfl _ _ w.heap.size 28 Ho.zero (.int .i64 0) (.slice none 0 0) (.int .i64 3) rfl rfl rfl rfl (Z1.out.setRow _)) rfl ⟨rfl, below_setRow' B1.out (Nat.le_refl _) _⟩
set_option maxHeartbeats 1600000 in
theorem rdc_short (a : Option Addr) (len cap : Nat) (l : List Int) (w : World) (h : Lies .u8 w a len cap l) (ho : Oct l) (hs : len < 8) :
    Calls Try.prog 9 #[.slice a len cap] w fun r w' => r = .returned (.tuple #[.int .i64 0, .agg Ho.zero.cs, .slice none 0 0, .int .i64 4]) ∧ Below w.heap.size w w' := by
  have hz := zho
  have Z1 := hid (Row.new w 23 Ho.zero.cs)
  have B1 := hid (balloc (Below.refl w.heap.size w) (.cells Ho.zero.cs 23))
  have hs' : (len : Int) < 8 := by omega
  clear h
  go_enter Try.func9, Try.ntmps9
  go_upto_region 1 with fail
  generalize w.alloc (.cells Ho.zero.cs 23) = w1 at *
  go_wp2_with (first
    | (refine bdOz or_ rfl rfl ?_)
    | (refine stO or_ _ _ rfl rfl w.heap.size Ho.zero rfl rfl 23 Ho.zero Z1.out ?_))
  exact bodyPost_ret (resOd or_ rfl _ _ w.heap.size 23 Ho.zero (.int .i64 0) (.slice none 0 0) (.int .i64 4) rfl rfl rfl rfl (Z1.out.setRow _)) rfl ⟨rfl, below_setRow' B1.out (Nat.le_refl _) _⟩
set_option maxHeartbeats 1600000 in
theorem rdc_kind (a : Option Addr) (len cap : Nat) (l : List Int) (w : World) (h : Lies .u8 w a len cap l) (ho : Oct l) (hs : 8 ≤ len) (hk : ¬ (l.getD 1 0 = 0 ∧ l.getD 2 0 = 99 ∧ l.getD 3 0 = 4)) :
    Calls Try.prog 9 #[.slice a len cap] w fun r w' => r = .returned (.tuple #[.int .i64 0, .agg Ho.zero.cs, .slice none 0 0, .int .i64 6]) ∧ Below w.heap.size w w' := by
  have hz := zho
  have Z1 := hid (Row.new w 23 Ho.zero.cs)
  have B1 := hid (balloc (Below.refl w.heap.size w) (.cells Ho.zero.cs 23))
  obtain ⟨b, off, rfl, hcell⟩ := (h.below B1.out).at (by omega)
  have hcm : cap ≤ maxLen := h.2.2.1
  have hlc := h.2.1
  have hll := h.1
  unfold maxLen at hcm
  have q1 := hcell 1 (by omega)
  have x1b := ho.at 1 (by omega)
  have q2 := hcell 2 (by omega)
  have x2b := ho.at 2 (by omega)
  have q3 := hcell 3 (by omega)
  have x3b := ho.at 3 (by omega)
  generalize l.getD 1 0 = x1 at *
  generalize l.getD 2 0 = x2 at *
  generalize l.getD 3 0 = x3 at *
  have hs' : decide ((len : Int) < 8) = false := by simp; omega
  clear h hcell ho hll
  go_enter Try.func9, Try.ntmps9
  go_upto_region 1 with fail
  generalize w.alloc (.cells Ho.zero.cs 23) = w1 at *
  by_cases h1 : x1 = 0
  · have e1 : (x1 != 0) = false := by simp [h1]
    by_cases h2 : x2 = 99
    · have e2 : (x2 != 99) = false := by simp [h2]
      have e3 : (x3 != 4) = true := by rw [bne_iff_ne]; intro h3; exact hk ⟨h1, h2, h3⟩
      clear hk h1 h2
      go_wp2_with (first
        | (refine bdOz or_ rfl rfl ?_)
        | (refine stO or_ _ _ rfl rfl w.heap.size Ho.zero rfl rfl 23 Ho.zero Z1.out ?_))
      exact bodyPost_ret (resOd or_ rfl _ _ w.heap.size 23 Ho.zero (.int .i64 0) (.slice none 0 0) (.int .i64 6) rfl rfl rfl rfl (Z1.out.setRow _)) rfl ⟨rfl, below_setRow' B1.out (Nat.le_refl _) _⟩
    · have e2 : (x2 != 99) = true := by rw [bne_iff_ne]; exact h2
      clear hk h1 h2
      go_wp2_with (first
        | (refine bdOz or_ rfl rfl ?_)
        | (refine stO or_ _ _ rfl rfl w.heap.size Ho.zero rfl rfl 23 Ho.zero Z1.out ?_))
      exact bodyPost_ret (resOd or_ rfl _ _ w.heap.size 23 Ho.zero (.int .i64 0) (.slice none 0 0) (.int .i64 6) rfl rfl rfl rfl (Z1.out.setRow _)) rfl ⟨rfl, below_setRow' B1.out (Nat.le_refl _) _⟩
  · have e1 : (x1 != 0) = true := by rw [bne_iff_ne]; exact h1
    clear hk h1
    go_wp2_with (first
      | (refine bdOz or_ rfl rfl ?_)
      | (refine stO or_ _ _ rfl rfl w.heap.size Ho.zero rfl rfl 23 Ho.zero Z1.out ?_))
    exact bodyPost_ret (resOd or_ rfl _ _ w.heap.size 23 Ho.zero (.int .i64 0) (.slice none 0 0) (.int .i64 6) rfl rfl rfl rfl (Z1.out.setRow _)) rfl ⟨rfl, below_setRow' B1.out (Nat.le_refl _) _⟩
set_option maxHeartbeats 1600000 in
theorem rdc_form (a : Option Addr) (len cap : Nat) (l : List Int) (w : World) (h : Lies .u8 w a len cap l) (ho : Oct l) (hs : 8 ≤ len) (k1 : l.getD 1 0 = 0) (k2 : l.getD 2 0 = 99) (k3 : l.getD 3 0 = 4) (hk : ¬ l.getD 4 0 % 32 = 0) :
    Calls Try.prog 9 #[.slice a len cap] w fun r w' => r = .returned (.tuple #[.int .i64 0, .agg Ho.zero.cs, .slice none 0 0, .int .i64 3]) ∧ Below w.heap.size w w' := by
  have hz := zho
  have Z1 := hid (Row.new w 23 Ho.zero.cs)
  have B1 := hid (balloc (Below.refl w.heap.size w) (.cells Ho.zero.cs 23))
  obtain ⟨b, off, rfl, hcell⟩ := (h.below B1.out).at (by omega)
  have hcm : cap ≤ maxLen := h.2.2.1
  have hlc := h.2.1
  have hll := h.1
  unfold maxLen at hcm
  have q1 := hcell 1 (by omega)
  have x1b := ho.at 1 (by omega)
  have q2 := hcell 2 (by omega)
  have x2b := ho.at 2 (by omega)
  have q3 := hcell 3 (by omega)
  have x3b := ho.at 3 (by omega)
  have q4 := hcell 4 (by omega)
  have x4b := ho.at 4 (by omega)
  generalize l.getD 1 0 = x1 at *
  generalize l.getD 2 0 = x2 at *
  generalize l.getD 3 0 = x3 at *
  generalize l.getD 4 0 = x4 at *
  have hs' : decide ((len : Int) < 8) = false := by simp; omega
  clear h hcell ho hll
  subst k1
  subst k2
  subst k3
  have e4 : (x4 % 32 != 0) = true := by rw [bne_iff_ne]; exact hk
  clear hk
  go_enter Try.func9, Try.ntmps9
  go_upto_region 1 with fail
  generalize w.alloc (.cells Ho.zero.cs 23) = w1 at *
  go_wp2_with (first
    | (refine bdOz or_ rfl rfl ?_)
    | (refine stO or_ _ _ rfl rfl w.heap.size Ho.zero rfl rfl 23 Ho.zero Z1.out ?_))
  exact bodyPost_ret (resOd or_ rfl _ _ w.heap.size 23 Ho.zero (.int .i64 0) (.slice none 0 0) (.int .i64 3) rfl rfl rfl rfl (Z1.out.setRow _)) rfl ⟨rfl, below_setRow' B1.out (Nat.le_refl _) _⟩
end Go.Proofs.Ytdfeahbpgchkoaa
