/- AddrCuts: its walk. -/
import Derived.Test.YtoijfnkbjdekoaaDoorKnown
namespace Go.Proofs.YtoijfnkbjdekoaaDoor
open Go.ChangeShapes Go.WideShapes Go.ChangeAt Go.RowKit
set_option linter.unusedVariables false
set_option linter.unusedSimpArgs false

theorem cc_all : ((List.range 256).all fun x => (List.range 9).all fun a => (List.range 9).all fun b => decide ((x - x % 2 ^ a) - (x - x % 2 ^ a) % 2 ^ b = x - x % 2 ^ (max a b))) = true := by kernel_rfl
theorem cc_nat (x a b : Nat) (hx : x < 256) (ha : a < 9) (hb : b < 9) : (x - x % 2 ^ a) - (x - x % 2 ^ a) % 2 ^ b = x - x % 2 ^ (max a b) := by
  have := List.all_eq_true.1 (List.all_eq_true.1 (List.all_eq_true.1 cc_all x (by simp; omega)) a (by simp; omega)) b (by simp; omega)
  exact of_decide_eq_true this
theorem low_lt (n : Int) (i : Nat) : low n i < 9 := by unfold low; omega
theorem low_min (n m : Int) (i : Nat) : low (min n m) i = max (low n i) (low m i) := by unfold low; omega
theorem sub_cast (x a : Nat) : ((x - x % 2 ^ a : Nat) : Int) = (x : Int) - (x : Int) % ((2 ^ a : Nat) : Int) := by
  have := Nat.mod_le x (2 ^ a)
  rw [← Int.natCast_emod]; omega
theorem cutAt_cut (n m : Int) (i : Nat) (x : Int) (h0 : 0 ≤ x) (h1 : x < 256) : cutAt m i (cutAt n i x) = cutAt (min n m) i x := by
  obtain ⟨X, rfl⟩ := Int.eq_ofNat_of_zero_le h0
  unfold cutAt
  rw [low_min, ← sub_cast X (low n i), ← sub_cast _ (low m i), ← sub_cast X _, cc_nat X _ _ (by omega) (low_lt n i) (low_lt m i)]
theorem cutL_cut (n m : Int) (l : List Int) (h : Adr l) : cutL m (cutL n l) = cutL (min n m) l := by
  unfold cutL
  apply List.ext_getElem (by simp)
  intro i h1 h2
  simp only [List.getElem_mapIdx]
  have hi : i < l.length := by simpa using h2
  have := h.2 _ (List.getElem_mem hi)
  exact cutAt_cut n m i _ this.1 this.2
theorem cutL_same (n : Int) (l : List Int) (h : Adr l) : cutL n (cutL n l) = cutL n l := by rw [cutL_cut n n l h, show min n n = n by omega]

theorem cutP_ok (l : List Int) (bits : Int) (w : World) (ha : Adr l) (h0 : 0 ≤ bits) (h1 : bits ≤ 128) :
    Calls Tryd.prog 27 #[.agg (u8s l), .int .i64 bits] w fun e w' => e = .returned (.tuple #[.agg (pfx (cutL bits l) bits), .int .i64 0]) ∧ Below w.heap.size w w' := by
  have h := cutP_any l bits w ha
  have hb : bitsB bits = true := by simp [bitsB, h0, h1]
  have e1 : cutA bits l = cutL bits l := by simp [cutA, hb]
  have e2 : cutN bits = bits := by simp [cutN, hb]
  have e3 : cutE bits = 0 := by simp [cutE, hb]
  rw [e1, e2, e3] at h
  exact h
theorem right_ok (l : List Int) (bits : Int) (w : World) (ha : Adr l) (h0 : 0 ≤ bits) (h1 : bits ≤ 128) :
    Calls Tryd.prog 25 #[.agg (pfx (cutL bits l) bits)] w fun e w' => e = .returned (.bool true) ∧ Below w.heap.size w w' := by
  have h := right_any (cutL bits l) bits w (adr_cut ha)
  have hb : bitsB bits = true := by simp [bitsB, h0, h1]
  have e : rightB (cutL bits l) bits = true := by simp [rightB, hasB, hb, cutL_same bits l ha]
  rw [e] at h
  exact h
theorem has_ok (l : List Int) (bits : Int) (w : World) (ha : Adr l) (h0 : 0 ≤ bits) (h1 : bits ≤ 128) :
    Calls Tryd.prog 26 #[.agg (pfx (cutL bits l) bits), .agg (u8s l)] w fun e w' => e = .returned (.bool true) ∧ Below w.heap.size w w' := by
  have h := has_any (cutL bits l) bits l w (adr_cut ha) ha
  have hb : bitsB bits = true := by simp [bitsB, h0, h1]
  have e : hasB (cutL bits l) bits l = true := by simp [hasB, hb]
  rw [e] at h
  exact h
theorem rem129 (n : Int) : ∃ N, wrap64 ((IntKind.u64.wrap n).tmod 129) = N ∧ 0 ≤ N ∧ N ≤ 128 := by
  refine ⟨_, rfl, ?_⟩
  rw [IntKind.wrap_u64, Int.tmod_eq_emod_of_nonneg (by omega)]
  have h1 : 0 ≤ n % 18446744073709551616 % 129 := by omega
  have h2 : n % 18446744073709551616 % 129 ≤ 128 := by omega
  generalize n % 18446744073709551616 % 129 = x at *
  unfold wrap64
  omega

set_option maxRecDepth 100000 in
set_option maxHeartbeats 3200000 in
theorem cuts_walk (l : List Int) (n m : Int) (w : World) (ha : Adr l) (hn : (Lit.int .i64 n).wf = true) (hm : (Lit.int .i64 m).wf = true) (hV : Vars w) :
    Calls Tryd.prog 7 #[.agg (u8s l), .int .i64 n, .int .i64 m] w fun e w' => e = .returned (.bool true) ∧ Below w.heap.size w w' := by
  obtain ⟨N, hN, hN0, hN1⟩ := rem129 n
  obtain ⟨M, hM, hM0, hM1⟩ := rem129 m
  have hA : Row (w.alloc (.cells (u8s l) 22)) w.heap.size 22 (u8s l) := Row.new w 22 _
  have hzp := zpfx
  obtain ⟨K, hK, hK0, hK1, hKm⟩ : ∃ K, (if N ≤ M then N else M) = K ∧ 0 ≤ K ∧ K ≤ 128 ∧ min N M = K := by
    by_cases h : N ≤ M
    · exact ⟨N, if_pos h, hN0, hN1, by omega⟩
    · exact ⟨M, if_neg h, hM0, hM1, by omega⟩
  have q := eq25 (cutL M (cutL N l)) (cutL K l) (by rw [cutL_len, cutL_len]; exact ha.1) (by rw [cutL_len]; exact ha.1)
  rw [cutL_cut N M l ha, hKm, beq_self_eq_true] at q
  have HQA : Hid (cutL M (cutL N l) = cutL K l) := by rw [Hid, cutL_cut N M l ha, hKm]
  have hp := adr_cut (bits := N) ha
  have hq := adr_cut (bits := M) hp
  have hw := adr_cut (bits := K) ha
  have C1 : Hid (∀ w' : World, Calls Tryd.prog 27 #[.agg (u8s l), .int .i64 N] w' fun e w'' => e = .returned (.tuple #[.agg (pfx (cutL N l) N), .int .i64 0]) ∧ Below w'.heap.size w' w'') := fun w' => cutP_ok l N w' ha hN0 hN1
  have C2 : Hid (∀ w' : World, Calls Tryd.prog 27 #[.agg (u8s (cutL N l)), .int .i64 M] w' fun e w'' => e = .returned (.tuple #[.agg (pfx (cutL K l) M), .int .i64 0]) ∧ Below w'.heap.size w' w'') := fun w' => by
    have h := cutP_ok (cutL N l) M w' hp hM0 hM1
    rw [HQA.out] at h
    exact h
  have C3 : Hid (∀ w' : World, Calls Tryd.prog 27 #[.agg (u8s l), .int .i64 K] w' fun e w'' => e = .returned (.tuple #[.agg (pfx (cutL K l) K), .int .i64 0]) ∧ Below w'.heap.size w' w'') := fun w' => cutP_ok l K w' ha hK0 hK1
  have R1 : Hid (∀ w' : World, Calls Tryd.prog 25 #[.agg (pfx (cutL N l) N)] w' fun e w'' => e = .returned (.bool true) ∧ Below w'.heap.size w' w'') := fun w' => right_ok l N w' ha hN0 hN1
  have R2 : Hid (∀ w' : World, Calls Tryd.prog 25 #[.agg (pfx (cutL K l) M)] w' fun e w'' => e = .returned (.bool true) ∧ Below w'.heap.size w' w'') := fun w' => by
    have h := right_ok (cutL N l) M w' hp hM0 hM1
    rw [HQA.out] at h
    exact h
  have H1 : Hid (∀ w' : World, Calls Tryd.prog 26 #[.agg (pfx (cutL N l) N), .agg (u8s l)] w' fun e w'' => e = .returned (.bool true) ∧ Below w'.heap.size w' w'') := fun w' => has_ok l N w' ha hN0 hN1
  have H2 : Hid (∀ w' : World, Calls Tryd.prog 26 #[.agg (pfx (cutL K l) K), .agg (u8s l)] w' fun e w'' => e = .returned (.bool true) ∧ Below w'.heap.size w' w'') := fun w' => has_ok l K w' ha hK0 hK1
  generalize cutL N l = P at *
  generalize cutL K l = Z at *
  clear hK hq HQA hn hm
  go_enter Tryd.func7, Tryd.ntmps7
  go_wp2_with (first
    | (refine ld22 _ rfl rfl w.heap.size 0 rfl l ha.1 hA.part ?_))
  refine (C1.out _).mono ?_
  rintro e w1 ⟨rfl, hb1⟩
  have A1 : Row w1 w.heap.size 22 (u8s l) := hA.below hb1 (by simp)
  have B1 : Hid (Below w.heap.size w w1) := (below_new w _).trans (hb1.mono (by simp))
  clear hb1 hA
  have NP := Row.new w1 42 (pfx zeros 0)
  go_wp2_with (first
    | (refine st42 _ _ rfl rfl w1.heap.size P N hp.1 rfl rfl 42 _ (by rfl) NP ?_; have P2 : Row ((w1.alloc (.cells (pfx zeros 0) 42)).setRow w1.heap.size (pfx P N)) w1.heap.size 42 (pfx P N) := NP.setRow _; have A2 : Row ((w1.alloc (.cells (pfx zeros 0) 42)).setRow w1.heap.size (pfx P N)) w.heap.size 22 (u8s l) := (A1.alloc _).rowOther _ _ (Nat.ne_of_lt A1.lt); have B2 : Hid (Below w.heap.size w ((w1.alloc (.cells (pfx zeros 0) 42)).setRow w1.heap.size (pfx P N))) := below_setRow (B1.out.alloc B1.out.size _) B1.out.size _; generalize ((w1.alloc (.cells (pfx zeros 0) 42)).setRow w1.heap.size (pfx P N)) = w2 at *)
    | (refine ld25 _ rfl rfl w1.heap.size 0 rfl P hp.1 P2.pre ?_))
  refine (C2.out _).mono ?_
  rintro e w3 ⟨rfl, hb3⟩
  have A3 : Row w3 w.heap.size 22 (u8s l) := A2.below hb3 A2.lt
  have P3 : Row w3 w1.heap.size 42 (pfx P N) := P2.below hb3 P2.lt
  have B3 : Hid (Below w.heap.size w w3) := B2.out.trans (hb3.mono B2.out.size)
  clear hb3 A1 NP
  have NQ := Row.new w3 42 (pfx zeros 0)
  go_wp2_with (first
    | (refine st42 _ _ rfl rfl w3.heap.size Z M hw.1 rfl rfl 42 _ (by rfl) NQ ?_; have Q4 : Row ((w3.alloc (.cells (pfx zeros 0) 42)).setRow w3.heap.size (pfx Z M)) w3.heap.size 42 (pfx Z M) := NQ.setRow _; have A4 : Row ((w3.alloc (.cells (pfx zeros 0) 42)).setRow w3.heap.size (pfx Z M)) w.heap.size 22 (u8s l) := (A3.alloc _).rowOther _ _ (Nat.ne_of_lt A3.lt); have P4 : Row ((w3.alloc (.cells (pfx zeros 0) 42)).setRow w3.heap.size (pfx Z M)) w1.heap.size 42 (pfx P N) := (P3.alloc _).rowOther _ _ (Nat.ne_of_lt P3.lt); have B4 : Hid (Below w.heap.size w ((w3.alloc (.cells (pfx zeros 0) 42)).setRow w3.heap.size (pfx Z M))) := below_setRow (B3.out.alloc B3.out.size _) B3.out.size _; generalize ((w3.alloc (.cells (pfx zeros 0) 42)).setRow w3.heap.size (pfx Z M)) = w4 at *)
    | (refine ld22 _ rfl rfl w.heap.size 0 rfl l ha.1 A4.part ?_))
  refine (C3.out _).mono ?_
  rintro e w5 ⟨rfl, hb5⟩
  have A5 : Row w5 w.heap.size 22 (u8s l) := A4.below hb5 A4.lt
  have P5 : Row w5 w1.heap.size 42 (pfx P N) := P4.below hb5 P4.lt
  have Q5 : Row w5 w3.heap.size 42 (pfx Z M) := Q4.below hb5 Q4.lt
  have B5 : Hid (Below w.heap.size w w5) := B4.out.trans (hb5.mono B4.out.size)
  clear hb5 A2 A3 A4 P2 P3 P4 NQ Q4
  have NW := Row.new w5 42 (pfx zeros 0)
  go_wp2_with (first
    | (refine st42 _ _ rfl rfl w5.heap.size Z K hw.1 rfl rfl 42 _ (by rfl) NW ?_; have W6 : Row ((w5.alloc (.cells (pfx zeros 0) 42)).setRow w5.heap.size (pfx Z K)) w5.heap.size 42 (pfx Z K) := NW.setRow _; have A6 : Row ((w5.alloc (.cells (pfx zeros 0) 42)).setRow w5.heap.size (pfx Z K)) w.heap.size 22 (u8s l) := (A5.alloc _).rowOther _ _ (Nat.ne_of_lt A5.lt); have P6 : Row ((w5.alloc (.cells (pfx zeros 0) 42)).setRow w5.heap.size (pfx Z K)) w1.heap.size 42 (pfx P N) := (P5.alloc _).rowOther _ _ (Nat.ne_of_lt P5.lt); have Q6 : Row ((w5.alloc (.cells (pfx zeros 0) 42)).setRow w5.heap.size (pfx Z K)) w3.heap.size 42 (pfx Z M) := (Q5.alloc _).rowOther _ _ (Nat.ne_of_lt Q5.lt); have B6 : Hid (Below w.heap.size w ((w5.alloc (.cells (pfx zeros 0) 42)).setRow w5.heap.size (pfx Z K))) := below_setRow (B5.out.alloc B5.out.size _) B5.out.size _; generalize ((w5.alloc (.cells (pfx zeros 0) 42)).setRow w5.heap.size (pfx Z K)) = w6 at *)
    | (go_at_call 14; refine (known_any _ (hV.grow B6.out)).mono ?_; rintro e w7 ⟨rfl, hb7⟩; have A7 : Row w7 w.heap.size 22 (u8s l) := A6.below hb7 A6.lt; have P7 : Row w7 w1.heap.size 42 (pfx P N) := P6.below hb7 P6.lt; have Q7 : Row w7 w3.heap.size 42 (pfx Z M) := Q6.below hb7 Q6.lt; have W7 : Row w7 w5.heap.size 42 (pfx Z K) := W6.below hb7 W6.lt; have B7 : Hid (Below w.heap.size w w7) := B6.out.trans (hb7.mono B6.out.size); clear hb7; have hbt := Q7.bits hw.1)
    | (refine ld25 _ rfl rfl w3.heap.size 0 rfl Z hw.1 Q7.pre ?_)
    | (refine ld25 _ rfl rfl w5.heap.size 0 rfl Z hw.1 W7.pre ?_)
    | (refine ld42 _ rfl rfl w1.heap.size 0 rfl P N hp.1 P7.part ?_))
  refine (R1.out _).mono ?_
  rintro e w8 ⟨rfl, hb8⟩
  have A8 : Row w8 w.heap.size 22 (u8s l) := A7.below hb8 A7.lt
  have P8 : Row w8 w1.heap.size 42 (pfx P N) := P7.below hb8 P7.lt
  have Q8 : Row w8 w3.heap.size 42 (pfx Z M) := Q7.below hb8 Q7.lt
  have W8 : Row w8 w5.heap.size 42 (pfx Z K) := W7.below hb8 W7.lt
  have B8 : Hid (Below w.heap.size w w8) := B7.out.trans (hb8.mono B7.out.size)
  clear hb8 hbt
  go_wp2_with (first
    | (refine ld42 _ rfl rfl w3.heap.size 0 rfl Z M hw.1 Q8.part ?_))
  refine (R2.out _).mono ?_
  rintro e w9 ⟨rfl, hb9⟩
  have A9 : Row w9 w.heap.size 22 (u8s l) := A8.below hb9 A8.lt
  have P9 : Row w9 w1.heap.size 42 (pfx P N) := P8.below hb9 P8.lt
  have W9 : Row w9 w5.heap.size 42 (pfx Z K) := W8.below hb9 W8.lt
  have B9 : Hid (Below w.heap.size w w9) := B8.out.trans (hb9.mono B8.out.size)
  clear hb9
  go_wp2_with (first
    | (refine ld42 _ rfl rfl w1.heap.size 0 rfl P N hp.1 P9.part ?_)
    | (refine ld22 _ rfl rfl w.heap.size 0 rfl l ha.1 A9.part ?_))
  refine (H1.out _).mono ?_
  rintro e w10 ⟨rfl, hb10⟩
  have A10 : Row w10 w.heap.size 22 (u8s l) := A9.below hb10 A9.lt
  have W10 : Row w10 w5.heap.size 42 (pfx Z K) := W9.below hb10 W9.lt
  have B10 : Hid (Below w.heap.size w w10) := B9.out.trans (hb10.mono B9.out.size)
  clear hb10
  go_wp2_with (first
    | (refine ld42 _ rfl rfl w5.heap.size 0 rfl Z K hw.1 W10.part ?_)
    | (refine ld22 _ rfl rfl w.heap.size 0 rfl l ha.1 A10.part ?_))
  refine (H2.out _).mono ?_
  rintro e w11 ⟨rfl, hb11⟩
  have B11 : Hid (Below w.heap.size w w11) := B10.out.trans (hb11.mono B10.out.size)
  clear hb11
  go_wp2_with fail
  go_ret
  exact ⟨rfl, B11.out⟩
end Go.Proofs.YtoijfnkbjdekoaaDoor
