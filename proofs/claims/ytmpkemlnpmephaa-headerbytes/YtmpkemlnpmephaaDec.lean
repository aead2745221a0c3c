/- What header's Decode answers: a contract. -/
import Derived.Test.YtmpkemlnpmephaaRd
import Derived.Test.YtmpkemlnpmephaaEnc
namespace Go.Proofs.Ytmpkemlnpmephaa
open Go.ChangeShapes Go.WideShapes Go.ChangeAt Go.RowKit
set_option linter.unusedVariables false
set_option linter.unusedSimpArgs false

/-- What is wrong with bytes. -/
def decE (l : List Int) : Int :=
  if l.length < 40 then 4 else if l.getD 0 0 / 16 ≠ 6 then 3 else if 1280 < l.length then 2
  else if ((l.length - 40 : Nat) : Int) < (decH l).ln then 4 else if (decH l).ln < ((l.length - 40 : Nat) : Int) then 3 else 0
/-- The header of bytes, and what is behind it. -/
def decV (l : List Int) : Hd := if decE l = 0 then decH l else Hd.zero
def decR (l : List Int) : List Int := if decE l = 0 then l.drop 40 else []
theorem decE_zero {l : List Int} (h : decE l = 0) : 40 ≤ l.length ∧ l.getD 0 0 / 16 = 6 ∧ l.length ≤ 1280 ∧ (decH l).ln = ((l.length - 40 : Nat) : Int) := by
  unfold decE at h
  repeat' split at h
  all_goals (try omega)
  all_goals (refine ⟨by omega, by rename_i h1 _ _ _; simpa using h1, by omega, by omega⟩)
theorem decV_ok {l : List Int} (ho : Oct l) : (decV l).ok := by
  unfold decV
  split
  · rename_i h; exact decH_ok ho (decE_zero h).1
  · exact Hd.zero_ok
theorem decR_oct {l : List Int} (ho : Oct l) : Oct (decR l) := by
  unfold decR
  split
  · exact fun x hx => ho x (List.mem_of_mem_drop hx)
  · intro x hx; cases hx
theorem decR_le (l : List Int) : (decR l).length ≤ 1280 := by
  unfold decR
  split
  · rename_i h; have := (decE_zero h).2.2.1; simp; omega
  · simp

theorem grownBy_setRow (w : World) (g : Nat) (cs : Array Value) : w.grownBy (w.setRow g cs) (some g) :=
  ⟨rfl, rfl, rfl, by rw [setRow_size]; exact Nat.le_refl _, fun k _ hne => setRow_other w g k cs (fun e => hne (by rw [e]))⟩

theorem dec_bad (a : Option Addr) (len cap : Nat) (l : List Int) (w : World) (e : Int) (hE : decE l = e) (he : e ≠ 0)
    (hc : Calls Try.prog 16 #[.slice a len cap] w fun r w' => r = .returned (.tuple #[.agg Hd.zero.cs, .slice none 0 0, .int .i64 e]) ∧ Below w.heap.size w w') :
    Calls Try.prog 16 #[.slice a len cap] w fun r w' => ∃ v, r = .returned (.tuple #[.agg (decV l).cs, v, .int .i64 (decE l)]) ∧ w'.ownsRow w.heap.size 5 1 v (decR l).length (u8s (decR l)) ∧ Below w.heap.size w w' := by
  have h1 : decV l = Hd.zero := by rw [decV, hE, if_neg he]
  have h2 : decR l = [] := by rw [decR, hE, if_neg he]
  refine hc.mono ?_
  rintro r w' ⟨rfl, hb⟩
  rw [h1, h2, hE]
  exact ⟨_, rfl, World.ownsRow_nil _ _ _ _, hb⟩

set_option maxHeartbeats 800000 in
theorem decode_short (a : Option Addr) (len cap : Nat) (l : List Int) (w : World) (h : Lies .u8 w a len cap l) (hs : len < 40) :
    Calls Try.prog 16 #[.slice a len cap] w fun r w' => r = .returned (.tuple #[.agg Hd.zero.cs, .slice none 0 0, .int .i64 4]) ∧ Below w.heap.size w w' := by
  have hz := zhd
  have Z1 := hid (Row.new w 28 Hd.zero.cs)
  have B1 := hid (balloc (Below.refl w.heap.size w) (.cells Hd.zero.cs 28))
  have hs' : (len : Int) < 40 := by omega
  clear h
  go_enter Try.func16, Try.ntmps16
  go_upto_region 1 with fail
  generalize w.alloc (.cells Hd.zero.cs 28) = w1 at *
  go_wp2_with (first
    | (refine bd28z rfl rfl ?_)
    | (refine st28 _ _ rfl rfl w.heap.size Hd.zero Hd.zero_ok rfl rfl 28 Hd.zero Hd.zero_ok Z1.out ?_))
  exact bodyPost_ret (res28f rfl _ _ w.heap.size 28 Hd.zero Hd.zero_ok (.slice none 0 0) (.int .i64 4) rfl rfl rfl (Z1.out.setRow _)) rfl ⟨rfl, below_setRow' B1.out (Nat.le_refl _) _⟩

set_option maxHeartbeats 800000 in
theorem decode_form (a : Option Addr) (len cap : Nat) (l : List Int) (w : World) (h : Lies .u8 w a len cap l) (ho : Oct l) (hs : 40 ≤ len) (hf : l.getD 0 0 / 16 ≠ 6) :
    Calls Try.prog 16 #[.slice a len cap] w fun r w' => r = .returned (.tuple #[.agg Hd.zero.cs, .slice none 0 0, .int .i64 3]) ∧ Below w.heap.size w w' := by
  have hz := zhd
  have Z1 := hid (Row.new w 28 Hd.zero.cs)
  have b1 := balloc (Below.refl w.heap.size w) (.cells Hd.zero.cs 28)
  have B1 := hid b1
  obtain ⟨b, off, rfl, hcell⟩ := (h.below b1).2.2.2.2 0 (by omega)
  rw [Nat.add_zero] at hcell
  have hx := ho.at 0 (by rw [h.1]; omega)
  have hcm : cap ≤ maxLen := h.2.2.1
  have hlc := h.2.1
  unfold maxLen at hcm
  generalize l.getD 0 0 = x at *
  have hs' : decide ((len : Int) < 40) = false := by simp; omega
  have hf' : (x / 16 != 6) = true := by rw [bne_iff_ne]; exact hf
  clear h b1 hf
  go_enter Try.func16, Try.ntmps16
  go_upto_region 1 with fail
  generalize w.alloc (.cells Hd.zero.cs 28) = w1 at *
  go_wp2_with (first
    | (refine bd28z rfl rfl ?_)
    | (refine st28 _ _ rfl rfl w.heap.size Hd.zero Hd.zero_ok rfl rfl 28 Hd.zero Hd.zero_ok Z1.out ?_))
  exact bodyPost_ret (res28f rfl _ _ w.heap.size 28 Hd.zero Hd.zero_ok (.slice none 0 0) (.int .i64 3) rfl rfl rfl (Z1.out.setRow _)) rfl ⟨rfl, below_setRow' B1.out (Nat.le_refl _) _⟩

set_option maxHeartbeats 800000 in
theorem decode_long (a : Option Addr) (len cap : Nat) (l : List Int) (w : World) (h : Lies .u8 w a len cap l) (ho : Oct l) (hs : 1280 < len) (hf : l.getD 0 0 / 16 = 6) :
    Calls Try.prog 16 #[.slice a len cap] w fun r w' => r = .returned (.tuple #[.agg Hd.zero.cs, .slice none 0 0, .int .i64 2]) ∧ Below w.heap.size w w' := by
  have hz := zhd
  have Z1 := hid (Row.new w 28 Hd.zero.cs)
  have b1 := balloc (Below.refl w.heap.size w) (.cells Hd.zero.cs 28)
  have B1 := hid b1
  obtain ⟨b, off, rfl, hcell⟩ := (h.below b1).2.2.2.2 0 (by omega)
  rw [Nat.add_zero] at hcell
  have hx := ho.at 0 (by rw [h.1]; omega)
  have hcm : cap ≤ maxLen := h.2.2.1
  have hlc := h.2.1
  unfold maxLen at hcm
  generalize l.getD 0 0 = x at *
  have hs' : decide ((len : Int) < 40) = false := by simp; omega
  have hf' : (x / 16 != 6) = false := by simp [hf]
  have hl' : (1280 : Int) < len := by omega
  clear h b1 hf
  go_enter Try.func16, Try.ntmps16
  go_upto_region 1 with fail
  generalize w.alloc (.cells Hd.zero.cs 28) = w1 at *
  go_wp2_with (first
    | (refine bd28z rfl rfl ?_)
    | (refine st28 _ _ rfl rfl w.heap.size Hd.zero Hd.zero_ok rfl rfl 28 Hd.zero Hd.zero_ok Z1.out ?_))
  exact bodyPost_ret (res28f rfl _ _ w.heap.size 28 Hd.zero Hd.zero_ok (.slice none 0 0) (.int .i64 2) rfl rfl rfl (Z1.out.setRow _)) rfl ⟨rfl, below_setRow' B1.out (Nat.le_refl _) _⟩
end Go.Proofs.Ytmpkemlnpmephaa
