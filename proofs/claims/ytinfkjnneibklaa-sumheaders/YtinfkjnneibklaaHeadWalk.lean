/- The walk of SumHeaders. -/
import Derived.Test.YtinfkjnneibklaaPst
import Derived.Test.YtinfkjnneibklaaRps
namespace Go.Proofs.Ytinfkjnneibklaa
open Go.ChangeShapes Go.WideShapes Go.ChangeAt Go.RowKit
set_option linter.unusedVariables false
set_option linter.unusedSimpArgs false

theorem chk_no {f t : List Int} {next : Int} {l : List Int} (h : psE next l.length ≠ 0) : chkB f t next l = false := by simp [chkB, h]
theorem chk_yes {f t : List Int} {next : Int} {l : List Int} (h : psE next l.length = 0) : chkB f t next l = (psV f t next l == 0) := by simp [chkB, h]

set_option maxRecDepth 1000000 in
set_option maxHeartbeats 1600000 in
theorem headers_err (f t : List Int) (next at_ : Int) (a : Option Addr) (n0 cap : Nat) (L : List Int) (w : World) (hf : Adr f) (ht : Adr t) (h : Lies .u8 w a n0 cap L) (ho : Oct L) (hE : psE next (L.take (min n0 1300)).length ≠ 0) :
    Calls Try.prog 4 #[.agg (arr f), .agg (arr t), .int .i64 next, .slice a n0 cap, .int .i64 at_] w fun e w' => e = .returned (.bool true) ∧ Below w.heap.size w w' := by
  obtain ⟨f1, t1, b1, z1⟩ := box2 w 34 f t
  have F1 := hid f1
  have T1 := hid t1
  have B1 := hid b1
  have hcm : n0 ≤ cap ∧ cap ≤ maxLen := ⟨h.2.1, h.2.2.1⟩
  unfold maxLen at hcm
  have L1 := hid ((h.pre (min n0 1300) (Nat.min_le_left ..)).below b1)
  have HF := hid hf
  have HT := hid ht
  have HO := hid (oct_take ho (min n0 1300))
  have hmin : min n0 1300 ≤ 1300 := Nat.min_le_right ..
  have hM : (if (1300 : Int) < (n0 : Int) then (1300 : Int) else (n0 : Int)) = ((min n0 1300 : Nat) : Int) := by split <;> omega
  have hmin2 : min n0 1300 ≤ n0 := Nat.min_le_left ..
  have HLn : Hid ((L.take (min n0 1300)).length = min n0 1300) := by have := h.1; rw [Hid, List.length_take]; omega
  generalize min n0 1300 = m at *
  generalize L.take m = l at *
  have hq : (psE next l.length != 0) = true := by rw [bne_iff_ne]; exact hE
  have hq2 : (psE next l.length == 0) = false := by simpa using hE
  have HC := hid (chk_no (f := f) (t := t) hE)
  have HE := hid hE
  clear f1 t1 b1 z1 hf ht ho h hE
  go_enter Try.func4, Try.ntmps4
  go_wp2_with (first
    | (refine ld34 _ rfl rfl w.heap.size rfl 34 f HF.out F1.out ?_)
    | (refine ld34 _ rfl rfl (w.heap.size + 1) rfl 34 t HT.out T1.out ?_))
  generalize (w.alloc (.cells (arr f) 34)).alloc (.cells (arr t) 34) = w1 at *
  refine (pseudo_any f t next a m cap l _ HF.out HT.out L1.out HO.out).mono ?_
  rintro e w2 ⟨rfl, hb2⟩
  have F2 := hid (F1.out.below hb2)
  have T2 := hid (T1.out.below hb2)
  have L2 := hid (L1.out.below hb2)
  have B2 := hid (bthen B1.out hb2)
  clear hb2 F1 T1 L1 B1
  go_wp2_with (first
    | (refine ld34 _ rfl rfl w.heap.size rfl 34 f HF.out F2.out ?_)
    | (refine ld34 _ rfl rfl (w.heap.size + 1) rfl 34 t HT.out T2.out ?_))
  refine (refPseudo_any f t next a m cap l _ HF.out HT.out L2.out HO.out).mono ?_
  rintro e w3 ⟨rfl, hb3⟩
  have F3 := hid (F2.out.below hb3)
  have T3 := hid (T2.out.below hb3)
  have L3 := hid (L2.out.below hb3)
  have B3 := hid (bthen B2.out hb3)
  clear hb3 F2 T2 L2 B2
  go_wp2_with (first
    | (refine ld34 _ rfl rfl w.heap.size rfl 34 f HF.out F3.out ?_)
    | (refine ld34 _ rfl rfl (w.heap.size + 1) rfl 34 t HT.out T3.out ?_))
  refine (check_any f t next a m cap l _ HF.out HT.out L3.out HO.out).mono ?_
  rintro e w4 ⟨rfl, hb4⟩
  rw [HC.out]
  have F4 := hid (F3.out.below hb4)
  have T4 := hid (T3.out.below hb4)
  have L4 := hid (L3.out.below hb4)
  have B4 := hid (bthen B3.out hb4)
  clear hb4 F3 T3 L3 B3
  go_wp2_with (first
    | (refine ld34 _ rfl rfl w.heap.size rfl 34 f HF.out F4.out ?_)
    | (refine ld34 _ rfl rfl (w.heap.size + 1) rfl 34 t HT.out T4.out ?_))
  refine (set_err f t next at_ a m cap l _ HF.out HT.out L4.out HO.out HE.out).mono ?_
  rintro e w5 ⟨rfl, hb5⟩
  have B5 := hid (bthen B4.out hb5)
  clear hb5
  generalize psE next l.length = E at *
  generalize psV f t next l = V at *
  go_wp2_with fail
  refine (known_any _).mono ?_
  rintro e w6 ⟨rfl, hb6⟩
  have B6 := hid (bthen B5.out hb6)
  clear hb6
  go_wp2_with fail
  go_ret
  exact ⟨rfl, B6.out⟩

set_option maxRecDepth 1000000 in
set_option maxHeartbeats 1600000 in
theorem headers_arg (f t : List Int) (next at_ : Int) (a : Option Addr) (n0 cap : Nat) (L : List Int) (w : World) (hf : Adr f) (ht : Adr t) (h : Lies .u8 w a n0 cap L) (ho : Oct L) (hE : psE next (L.take (min n0 1300)).length = 0) (hp : ¬ (0 ≤ at_ ∧ at_ % 2 = 0 ∧ at_ + 2 ≤ (min n0 1300 : Nat))) (hr0 : at_ < 0 ∨ (0 ≤ at_ ∧ (at_ % 2 != 0) = true) ∨ (0 ≤ at_ ∧ (at_ % 2 != 0) = false ∧ decide (((min n0 1300 : Nat) : Int) - 2 < at_) = true)) :
    Calls Try.prog 4 #[.agg (arr f), .agg (arr t), .int .i64 next, .slice a n0 cap, .int .i64 at_] w fun e w' => e = .returned (.bool true) ∧ Below w.heap.size w w' := by
  obtain ⟨f1, t1, b1, z1⟩ := box2 w 34 f t
  have F1 := hid f1
  have T1 := hid t1
  have B1 := hid b1
  have hcm : n0 ≤ cap ∧ cap ≤ maxLen := ⟨h.2.1, h.2.2.1⟩
  unfold maxLen at hcm
  have L1 := hid ((h.pre (min n0 1300) (Nat.min_le_left ..)).below b1)
  have HF := hid hf
  have HT := hid ht
  have HO := hid (oct_take ho (min n0 1300))
  have hmin : min n0 1300 ≤ 1300 := Nat.min_le_right ..
  have hM : (if (1300 : Int) < (n0 : Int) then (1300 : Int) else (n0 : Int)) = ((min n0 1300 : Nat) : Int) := by split <;> omega
  have hmin2 : min n0 1300 ≤ n0 := Nat.min_le_left ..
  have HLn : Hid ((L.take (min n0 1300)).length = min n0 1300) := by have := h.1; rw [Hid, List.length_take]; omega
  generalize min n0 1300 = m at *
  generalize L.take m = l at *
  have HC := hid (chk_yes (f := f) (t := t) hE)
  have HE := hid hE
  have HP := hid hp
  clear f1 t1 b1 z1 hf ht ho h hE hp
  rcases hr0 with hr1 | ⟨hr1, hr2⟩ | ⟨hr1, hr2, hr3⟩
  · go_enter Try.func4, Try.ntmps4
    go_wp2_with (first
      | (refine ld34 _ rfl rfl w.heap.size rfl 34 f HF.out F1.out ?_)
      | (refine ld34 _ rfl rfl (w.heap.size + 1) rfl 34 t HT.out T1.out ?_))
    generalize (w.alloc (.cells (arr f) 34)).alloc (.cells (arr t) 34) = w1 at *
    refine (pseudo_any f t next a m cap l _ HF.out HT.out L1.out HO.out).mono ?_
    rintro e w2 ⟨rfl, hb2⟩
    rw [HE.out]
    have F2 := hid (F1.out.below hb2)
    have T2 := hid (T1.out.below hb2)
    have L2 := hid (L1.out.below hb2)
    have B2 := hid (bthen B1.out hb2)
    clear hb2 F1 T1 L1 B1
    go_wp2_with (first
      | (refine ld34 _ rfl rfl w.heap.size rfl 34 f HF.out F2.out ?_)
      | (refine ld34 _ rfl rfl (w.heap.size + 1) rfl 34 t HT.out T2.out ?_))
    refine (refPseudo_any f t next a m cap l _ HF.out HT.out L2.out HO.out).mono ?_
    rintro e w3 ⟨rfl, hb3⟩
    rw [HE.out]
    have F3 := hid (F2.out.below hb3)
    have T3 := hid (T2.out.below hb3)
    have L3 := hid (L2.out.below hb3)
    have B3 := hid (bthen B2.out hb3)
    clear hb3 F2 T2 L2 B2
    go_wp2_with (first
      | (refine ld34 _ rfl rfl w.heap.size rfl 34 f HF.out F3.out ?_)
      | (refine ld34 _ rfl rfl (w.heap.size + 1) rfl 34 t HT.out T3.out ?_))
    refine (check_any f t next a m cap l _ HF.out HT.out L3.out HO.out).mono ?_
    rintro e w4 ⟨rfl, hb4⟩
    rw [HC.out]
    have F4 := hid (F3.out.below hb4)
    have T4 := hid (T3.out.below hb4)
    have L4 := hid (L3.out.below hb4)
    have B4 := hid (bthen B3.out hb4)
    clear hb4 F3 T3 L3 B3
    go_wp2_with (first
      | (refine ld34 _ rfl rfl w.heap.size rfl 34 f HF.out F4.out ?_)
      | (refine ld34 _ rfl rfl (w.heap.size + 1) rfl 34 t HT.out T4.out ?_))
    refine (set_arg f t next at_ a m cap l _ HF.out HT.out L4.out HO.out HE.out HP.out).mono ?_
    rintro e w5 ⟨rfl, hb5⟩
    have B5 := hid (bthen B4.out hb5)
    clear hb5
    generalize psV f t next l = V at *
    go_wp2_with fail
    refine (known_any _).mono ?_
    rintro e w6 ⟨rfl, hb6⟩
    have B6 := hid (bthen B5.out hb6)
    clear hb6
    go_wp2_with fail
    go_ret
    exact ⟨rfl, B6.out⟩
  · go_enter Try.func4, Try.ntmps4
    go_wp2_with (first
      | (refine ld34 _ rfl rfl w.heap.size rfl 34 f HF.out F1.out ?_)
      | (refine ld34 _ rfl rfl (w.heap.size + 1) rfl 34 t HT.out T1.out ?_))
    generalize (w.alloc (.cells (arr f) 34)).alloc (.cells (arr t) 34) = w1 at *
    refine (pseudo_any f t next a m cap l _ HF.out HT.out L1.out HO.out).mono ?_
    rintro e w2 ⟨rfl, hb2⟩
    rw [HE.out]
    have F2 := hid (F1.out.below hb2)
    have T2 := hid (T1.out.below hb2)
    have L2 := hid (L1.out.below hb2)
    have B2 := hid (bthen B1.out hb2)
    clear hb2 F1 T1 L1 B1
    go_wp2_with (first
      | (refine ld34 _ rfl rfl w.heap.size rfl 34 f HF.out F2.out ?_)
      | (refine ld34 _ rfl rfl (w.heap.size + 1) rfl 34 t HT.out T2.out ?_))
    refine (refPseudo_any f t next a m cap l _ HF.out HT.out L2.out HO.out).mono ?_
    rintro e w3 ⟨rfl, hb3⟩
    rw [HE.out]
    have F3 := hid (F2.out.below hb3)
    have T3 := hid (T2.out.below hb3)
    have L3 := hid (L2.out.below hb3)
    have B3 := hid (bthen B2.out hb3)
    clear hb3 F2 T2 L2 B2
    go_wp2_with (first
      | (refine ld34 _ rfl rfl w.heap.size rfl 34 f HF.out F3.out ?_)
      | (refine ld34 _ rfl rfl (w.heap.size + 1) rfl 34 t HT.out T3.out ?_))
    refine (check_any f t next a m cap l _ HF.out HT.out L3.out HO.out).mono ?_
    rintro e w4 ⟨rfl, hb4⟩
    rw [HC.out]
    have F4 := hid (F3.out.below hb4)
    have T4 := hid (T3.out.below hb4)
    have L4 := hid (L3.out.below hb4)
    have B4 := hid (bthen B3.out hb4)
    clear hb4 F3 T3 L3 B3
    go_wp2_with (first
      | (refine ld34 _ rfl rfl w.heap.size rfl 34 f HF.out F4.out ?_)
      | (refine ld34 _ rfl rfl (w.heap.size + 1) rfl 34 t HT.out T4.out ?_))
    refine (set_arg f t next at_ a m cap l _ HF.out HT.out L4.out HO.out HE.out HP.out).mono ?_
    rintro e w5 ⟨rfl, hb5⟩
    have B5 := hid (bthen B4.out hb5)
    clear hb5
    generalize psV f t next l = V at *
    go_wp2_with fail
    refine (known_any _).mono ?_
    rintro e w6 ⟨rfl, hb6⟩
    have B6 := hid (bthen B5.out hb6)
    clear hb6
    go_wp2_with fail
    go_ret
    exact ⟨rfl, B6.out⟩
  · go_enter Try.func4, Try.ntmps4
    go_wp2_with (first
      | (refine ld34 _ rfl rfl w.heap.size rfl 34 f HF.out F1.out ?_)
      | (refine ld34 _ rfl rfl (w.heap.size + 1) rfl 34 t HT.out T1.out ?_))
    generalize (w.alloc (.cells (arr f) 34)).alloc (.cells (arr t) 34) = w1 at *
    refine (pseudo_any f t next a m cap l _ HF.out HT.out L1.out HO.out).mono ?_
    rintro e w2 ⟨rfl, hb2⟩
    rw [HE.out]
    have F2 := hid (F1.out.below hb2)
    have T2 := hid (T1.out.below hb2)
    have L2 := hid (L1.out.below hb2)
    have B2 := hid (bthen B1.out hb2)
    clear hb2 F1 T1 L1 B1
    go_wp2_with (first
      | (refine ld34 _ rfl rfl w.heap.size rfl 34 f HF.out F2.out ?_)
      | (refine ld34 _ rfl rfl (w.heap.size + 1) rfl 34 t HT.out T2.out ?_))
    refine (refPseudo_any f t next a m cap l _ HF.out HT.out L2.out HO.out).mono ?_
    rintro e w3 ⟨rfl, hb3⟩
    rw [HE.out]
    have F3 := hid (F2.out.below hb3)
    have T3 := hid (T2.out.below hb3)
    have L3 := hid (L2.out.below hb3)
    have B3 := hid (bthen B2.out hb3)
    clear hb3 F2 T2 L2 B2
    go_wp2_with (first
      | (refine ld34 _ rfl rfl w.heap.size rfl 34 f HF.out F3.out ?_)
      | (refine ld34 _ rfl rfl (w.heap.size + 1) rfl 34 t HT.out T3.out ?_))
    refine (check_any f t next a m cap l _ HF.out HT.out L3.out HO.out).mono ?_
    rintro e w4 ⟨rfl, hb4⟩
    rw [HC.out]
    have F4 := hid (F3.out.below hb4)
    have T4 := hid (T3.out.below hb4)
    have L4 := hid (L3.out.below hb4)
    have B4 := hid (bthen B3.out hb4)
    clear hb4 F3 T3 L3 B3
    go_wp2_with (first
      | (refine ld34 _ rfl rfl w.heap.size rfl 34 f HF.out F4.out ?_)
      | (refine ld34 _ rfl rfl (w.heap.size + 1) rfl 34 t HT.out T4.out ?_))
    refine (set_arg f t next at_ a m cap l _ HF.out HT.out L4.out HO.out HE.out HP.out).mono ?_
    rintro e w5 ⟨rfl, hb5⟩
    have B5 := hid (bthen B4.out hb5)
    clear hb5
    generalize psV f t next l = V at *
    go_wp2_with fail
    refine (known_any _).mono ?_
    rintro e w6 ⟨rfl, hb6⟩
    have B6 := hid (bthen B5.out hb6)
    clear hb6
    go_wp2_with fail
    go_ret
    exact ⟨rfl, B6.out⟩

end Go.Proofs.Ytinfkjnneibklaa
