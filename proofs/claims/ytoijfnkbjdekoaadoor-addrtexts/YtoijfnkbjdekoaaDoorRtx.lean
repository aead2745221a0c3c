/- The reference's text. -/
import Derived.Test.YtoijfnkbjdekoaaDoorRhx
namespace Go.Proofs.YtoijfnkbjdekoaaDoor
open Go.ChangeShapes Go.WideShapes Go.ChangeAt Go.RowKit
set_option linter.unusedVariables false
set_option linter.unusedSimpArgs false

theorem under9 : Tryd.prog.underlying 9 = some .string := by kernel_rfl
theorem idx_str (S : List UInt8) (n : Nat) (c : UInt8) (hc : S[n]? = some c) (w : World) : (Instr.index 9 (.string ⟨S.toArray⟩) (.int .i64 (n : Int))).run Tryd.prog w = .ok (.int .u8 (c.toNat : Int)) w := by
  obtain ⟨hn, hcn⟩ := List.getElem?_eq_some_iff.1 hc
  have h1 : (⟨S.toArray⟩ : ByteArray)[n]? = some c := by
    rw [getElem?_pos _ _ (by show n < S.toArray.size; simpa using hn)]
    rw [← hcn]; rfl
  simp [Instr.index, asIntOf, run_underlying under9, h1]
theorem zrun_here (g : List Int) (k j : Nat) (h : k + j < 8) : zrun g (8 - k - j) (k + j) = if g.getD (k + j) 0 = 0 then zrun g (8 - k - (j + 1)) (k + (j + 1)) + 1 else 0 := by
  rw [show 8 - k - j = 8 - k - (j + 1) + 1 by omega]; rfl

/-- What holds while the text grows. -/
def TInv (g : List Int) (f t : Nat) (wr : World) (vs vi : Value) (wr2 : World) : Prop := ∃ (k : Nat) (S : List UInt8), k ≤ 8 ∧ vs = .string ⟨S.toArray⟩ ∧ vi = .int .i64 (k : Int) ∧ Hid (rs g f t k = S) ∧ S.length ≤ 6 * k ∧ wr2 = wr
theorem tinv_mk {g : List Int} {f t : Nat} {wr wr2 : World} {vs vi : Value} (k : Nat) (S : List UInt8) (hk : k ≤ 8) (hvs : vs = .string ⟨S.toArray⟩) (hvi : vi = .int .i64 (k : Int)) (h : Hid (rs g f t k = S)) (hl : S.length ≤ 6 * k) (hw : wr2 = wr) : TInv g f t wr vs vi wr2 := ⟨k, S, hk, hvs, hvi, h, hl, hw⟩

set_option maxRecDepth 100000 in
set_option maxHeartbeats 3200000 in
theorem refText_any (l : List Int) (w : World) (ha : Adr l) :
    Calls Tryd.prog 13 #[.agg (u8s l)] w fun e w' => e = .returned (.string ⟨(txt (grpL l)).toArray⟩) ∧ Below w.heap.size w w' := by
  have h8 := z8
  have RA0 : Row (w.alloc (.cells (u8s l) 22)) w.heap.size 22 (u8s l) := Row.new w 22 _
  have B0 : Hid (Below w.heap.size w (w.alloc (.cells (u8s l) 22))) := below_new w _
  have CG : Hid (∀ w' : World, Calls Tryd.prog 12 #[.agg (u8s l)] w' fun e w'' => e = .returned (.agg (i64s (grpL l))) ∧ Below w'.heap.size w' w'') := fun w' => refGroups_any l w' ha
  have hl : (grpL l).length = 8 := grpL_len l
  have HG : Hid (InG (grpL l)) := grp_ok ha
  have hlen := ha.1
  obtain ⟨T0, hT0⟩ : ∃ T0, txt (grpL l) = T0 := ⟨_, rfl⟩
  have HT0 : Hid (txt (grpL l) = T0) := hT0
  rw [hT0]
  clear hT0
  generalize grpL l = g at *
  clear ha
  go_enter Tryd.func13, Tryd.ntmps13
  go_wp2_with (first
    | (refine ld22 _ rfl rfl w.heap.size 0 rfl l hlen RA0.part ?_))
  refine (CG.out _).mono ?_
  rintro e w1 ⟨rfl, hb1⟩
  have B1 : Hid (Below w.heap.size w w1) := B0.out.trans (hb1.mono B0.out.size)
  clear hb1 RA0 B0 CG
  go_wp2_with (first
    | (refine st23 _ _ rfl rfl w1.heap.size g hl rfl rfl 23 _ (by rfl) (Row.new w1 23 (i64s z8L)) ?_; have RG2 : Hid (Row ((w1.alloc (.cells (i64s z8L) 23)).setRow w1.heap.size (i64s g)) w1.heap.size 23 (i64s g)) := (Row.new w1 23 _).setRow _; have B2 : Hid (Below w.heap.size w ((w1.alloc (.cells (i64s z8L) 23)).setRow w1.heap.size (i64s g))) := below_setRow (B1.out.alloc B1.out.size _) B1.out.size _; generalize ((w1.alloc (.cells (i64s z8L) 23)).setRow w1.heap.size (i64s g)) = w2 at *))
  go_loopw [4, 5, 6] (fun va vz vi wr => ∃ k : Nat, k ≤ 8 ∧ vi = .int .i64 (k : Int) ∧ (∃ A Z : Nat, va = .int .i64 (A : Int) ∧ vz = .int .i64 (Z : Int) ∧ Hid (rst g k = (A, Z))) ∧ wr = w2)
    (fun _ _ vi _ => 8 - (intOf vi).toNat)
  case atStart => exact ⟨0, by omega, rfl, ⟨0, 1, rfl, rfl, rfl⟩, rfl⟩
  case round =>
    obtain ⟨k, hk, rfl, ⟨A, Z, rfl, rfl, HR⟩, rfl⟩ := hrel
    by_cases hlt : k < 8
    · have i1 : (k : Int) < 8 := by omega
      obtain ⟨n, hn⟩ : ∃ n, zrun g (8 - k) k = n := ⟨_, rfl⟩
      have HR2 : Hid (rst g (k + 1) = if Z < n then (k, n) else (A, Z)) := by rw [Hid, rst, HR.out, hn]
      have HN : Hid (zrun g (8 - k) k = n) := hn
      clear hn
      go_wp2_with fail
      go_loopw [7] (fun vn wq => ∃ j : Nat, vn = .int .i64 (j : Int) ∧ k + j ≤ 8 ∧ Hid (n = j + zrun g (8 - k - j) (k + j)) ∧ wq = wr)
        (fun vn _ => 8 - (intOf vn).toNat)
      case atStart => exact ⟨0, rfl, by omega, by rw [Hid, Nat.zero_add, Nat.sub_zero, Nat.add_zero]; exact HN.out.symm, rfl⟩
      case round =>
        obtain ⟨j, rfl, hj, HJ, rfl⟩ := hrel
        by_cases hkj : k + j < 8
        · have i2 : (k : Int) + (j : Int) < 8 := by omega
          have cg : wr.cell? ⟨w1.heap.size, k + j, none⟩ = some (.int .i64 (g.getD (k + j) 0)) := by rw [RG2.out.cell, i64s_at _ _ (by rw [hl]; exact hkj)]
          have hz := zrun_here g k j hkj
          by_cases h0 : g.getD (k + j) 0 = 0
          · rw [if_pos h0] at hz
            rw [h0] at cg
            have HJ2 : Hid (n = j + 1 + zrun g (8 - k - (j + 1)) (k + (j + 1))) := by rw [Hid, HJ.out, hz]; omega
            clear hz h0
            go_wp2_with fail
            go_roundw
            case rel => exact ⟨j + 1, by go_num, by omega, HJ2, by first | rfl | trivial⟩
            case measure => simp [intOf]; omega
          · rw [if_neg h0] at hz
            have hnj : n = j := by rw [HJ.out, hz]; rfl
            subst hnj
            clear hz HJ
            generalize g.getD (k + n) 0 = x at *
            have h0' : (x == 0) = false := by simpa using h0
            by_cases hzn : Z < n
            · have j1 : (n : Int) > (Z : Int) := by omega
              have HR3 : Hid (rst g (k + 1) = (k, n)) := by rw [Hid, HR2.out, if_pos hzn]
              go_wp2_with fail
              go_roundw
              case rel => exact ⟨k + 1, by omega, by go_num, ⟨k, n, rfl, rfl, HR3⟩, by first | rfl | trivial⟩
              case measure => simp [intOf]; omega
            · have j1 : ¬ (n : Int) > (Z : Int) := by omega
              have HR3 : Hid (rst g (k + 1) = (A, Z)) := by rw [Hid, HR2.out, if_neg hzn]
              go_wp2_with fail
              go_roundw
              case rel => exact ⟨k + 1, by omega, by go_num, ⟨A, Z, rfl, rfl, HR3⟩, by first | rfl | trivial⟩
              case measure => simp [intOf]; omega
        · have i2 : ¬ (k : Int) + (j : Int) < 8 := by omega
          have hnj : n = j := by rw [HJ.out, show 8 - k - j = 0 by omega]; rfl
          subst hnj
          clear HJ
          by_cases hzn : Z < n
          · have j1 : (n : Int) > (Z : Int) := by omega
            have HR3 : Hid (rst g (k + 1) = (k, n)) := by rw [Hid, HR2.out, if_pos hzn]
            go_wp2_with fail
            go_roundw
            case rel => exact ⟨k + 1, by omega, by go_num, ⟨k, n, rfl, rfl, HR3⟩, by first | rfl | trivial⟩
            case measure => simp [intOf]; omega
          · have j1 : ¬ (n : Int) > (Z : Int) := by omega
            have HR3 : Hid (rst g (k + 1) = (A, Z)) := by rw [Hid, HR2.out, if_neg hzn]
            go_wp2_with fail
            go_roundw
            case rel => exact ⟨k + 1, by omega, by go_num, ⟨A, Z, rfl, rfl, HR3⟩, by first | rfl | trivial⟩
            case measure => simp [intOf]; omega
    · obtain rfl : k = 8 := by omega
      have i1 : ¬ ((8 : Nat) : Int) < 8 := by omega
      have hend := rs_end g hl
      obtain ⟨hfo, _⟩ := zr_zz g
      have hok := zr_ok g
      have hrz := rst_zr g hl
      rw [HR.out] at hrz
      clear HR
      generalize (zr g).1 = f at *
      generalize (zr g).2 = t at *
      rw [HT0.out] at hend
      have HE : Hid (rs g f t 8 = T0) := hend
      clear hend HT0
      have hft8 : t ≤ 8 := hok.2
      have HRZ : Hid ((A, Z) = if f = t then (0, 1) else (f, t - f)) := hrz
      clear hrz
      go_wp2_with fail
      go_loopw [8, 9] (fun vs vi wr2 => TInv g f t wr vs vi wr2)
        (fun _ vi _ => 8 - (intOf vi).toNat)
      case atStart => exact ⟨0, [], by omega, rfl, rfl, by rw [Hid, rs, if_pos (by omega)]; rfl, by simp, rfl⟩
      case round =>
        obtain ⟨k, S, hk, rfl, rfl, HS, hSl, rfl⟩ := hrel
        by_cases hlt : k < 8
        · have i1 : (k : Int) < 8 := by omega
          have cg : wr.cell? ⟨w1.heap.size, k, none⟩ = some (.int .i64 (g.getD k 0)) := by rw [RG2.out.cell, i64s_at _ _ (by rw [hl]; exact hlt)]
          have hgk : 0 ≤ g.getD k 0 ∧ g.getD k 0 < 65536 := by
            rw [List.getD_eq_getElem?_getD, List.getElem?_eq_getElem (by rw [hl]; exact hlt)]; exact HG.out _ (List.getElem_mem _)
          by_cases hft : f = t
          · have hAZ := HRZ.out
            rw [if_pos hft] at hAZ
            obtain ⟨rfl, rfl⟩ := Prod.mk.inj hAZ
            clear hAZ
            have HNx : Hid (rs g f t (k + 1) = S ++ (if wantC S then [58] else []) ++ hexT (g.getD k 0).toNat) := by rw [Hid, ← HS.out]; exact rs_out g hl HG.out f t k hfo hft8 hlt (Or.inl hft)
            obtain ⟨x, hx⟩ : ∃ x : Nat, g.getD k 0 = (x : Int) := ⟨(g.getD k 0).toNat, by omega⟩
            rw [hx] at cg hgk
            rw [hx, Int.toNat_natCast] at HNx
            clear hx
            have hx1 : x < 65536 := by omega
            have HX : Hid (∀ w' : World, Calls Tryd.prog 32 #[.int .i64 (x : Int)] w' fun e w'' => e = .returned (.string ⟨(hexT x).toArray⟩) ∧ w'' = w') := fun w' => refHex_any x x w' (Nat.le_refl _) hx1
            have hTl := (hexT_len x).2
            generalize hexT x = T at *
            clear hgk
            by_cases hS0 : S = []
            · subst hS0
              have HN1 : Hid (rs g f t (k + 1) = T) := by rw [Hid, HNx.out]; rfl
              have hc1 := cat2 [] T
              rw [List.nil_append] at hc1
              have n1 : ¬ 9223372036854775807 < T.length := by omega
              go_wp2_with (first | (go_at_call 32; refine (HX.out _).mono ?_; rintro e w3 ⟨rfl, rfl⟩; simp only []))
              go_roundw
              case rel => first | exact (tinv_mk (k + 1) (T) (by omega) (by simp) (by go_num) HN1 (by omega) rfl) | ((repeat apply Exists.intro); refine ⟨?_, rfl⟩; exact tinv_mk (k + 1) (T) (by omega) (by simp) (by go_num) HN1 (by omega) rfl)
              case measure => simp [intOf]; omega
            · obtain ⟨n, hn⟩ : ∃ n, S.length = n + 1 := ⟨S.length - 1, by have : S.length ≠ 0 := fun e => hS0 (List.eq_nil_of_length_eq_zero e); omega⟩
              obtain ⟨c, hc⟩ : ∃ c, S[n]? = some c := ⟨S[n]'(by omega), List.getElem?_eq_getElem (by omega)⟩
              have hw : wantC S = decide (c ≠ 58) := by rw [wantC, List.getLast?_eq_getElem?, hn, Nat.add_sub_cancel, hc]; simp [hS0]
              have hidx : ∀ w' : World, (Instr.index 9 (.string ⟨S.toArray⟩) (.int .i64 (n : Int))).run Tryd.prog w' = .ok (.int .u8 (c.toNat : Int)) w' := fun w' => idx_str S n c hc w'
              by_cases hc58 : c = 58
              · subst hc58
                have HN1 : Hid (rs g f t (k + 1) = S ++ T) := by rw [Hid, HNx.out, hw]; simp
                have hc1 := cat2 S T
                have n1 : ¬ 9223372036854775807 < S.length + T.length := by omega
                have n2 : ¬ 9223372036854775807 < n + 1 + T.length := by omega
                have n3 : (0 : Int) < (n : Int) + 1 := by omega
                have t58 : ((58 : UInt8).toNat : Int) = 58 := rfl
                clear hS0 hc hw
                go_wp2_with (first | (go_at_call 32; refine (HX.out _).mono ?_; rintro e w3 ⟨rfl, rfl⟩; simp only []))
                go_roundw
                case rel => first | exact (tinv_mk (k + 1) (S ++ T) (by omega) (by simp) (by go_num) HN1 (by rw [List.length_append]; omega) rfl) | ((repeat apply Exists.intro); refine ⟨?_, rfl⟩; exact tinv_mk (k + 1) (S ++ T) (by omega) (by simp) (by go_num) HN1 (by rw [List.length_append]; omega) rfl)
                case measure => simp [intOf]; omega
              · have HN1 : Hid (rs g f t (k + 1) = S ++ [58] ++ T) := by rw [Hid, HNx.out, hw, decide_eq_true hc58]; rfl
                have hc1 := cat2 S [58]
                have hc2 := cat2 (S ++ [58]) T
                have n1 : ¬ 9223372036854775807 < S.length + 1 + T.length := by omega
                have n2 : ¬ 9223372036854775807 < n + 1 + 1 + T.length := by omega
                have n3 : (0 : Int) < (n : Int) + 1 := by omega
                have n4 : ¬ 9223372036854775807 < S.length + 1 := by omega
                have n5 : ¬ 9223372036854775807 < n + 1 + 1 := by omega
                have t58 : ¬ (c.toNat : Int) = 58 := fun e => hc58 (UInt8.toNat_inj.1 (by have : c.toNat = 58 := by omega
                                                                                          exact this))
                have t59 : ((c.toNat : Int) == 58) = false := by simpa using t58
                clear hS0 hc hw
                go_wp2_with (first | (go_at_call 32; refine (HX.out _).mono ?_; rintro e w3 ⟨rfl, rfl⟩; simp only []))
                go_roundw
                case rel => first | exact (tinv_mk (k + 1) (S ++ [58] ++ T) (by omega) (by simp) (by go_num) HN1 (by rw [List.length_append, List.length_append, List.length_singleton]; omega) rfl) | ((repeat apply Exists.intro); refine ⟨?_, rfl⟩; exact tinv_mk (k + 1) (S ++ [58] ++ T) (by omega) (by simp) (by go_num) HN1 (by rw [List.length_append, List.length_append, List.length_singleton]; omega) rfl)
                case measure => simp [intOf]; omega
          · have hAZ := HRZ.out
            rw [if_neg hft] at hAZ
            obtain ⟨hA1, hZ1⟩ := Prod.mk.inj hAZ
            clear hAZ
            subst hA1
            have HZ1 : Hid (t = A + Z) := by rw [Hid]; omega
            have hf2 : A + 2 ≤ t := by omega
            have hZ2 : 2 ≤ Z := by omega
            have hAZ8 : A + Z ≤ 8 := by omega
            have hwr : wrap64 ((A : Int) + (Z : Int)) = (A : Int) + (Z : Int) := by unfold wrap64; omega
            clear hZ1
            have z1 : (Z : Int) > 1 := by omega
            by_cases hlo : k < A
            · have z2 : ¬ (k : Int) ≥ (A : Int) := by omega
              have HNx : Hid (rs g A t (k + 1) = S ++ (if wantC S then [58] else []) ++ hexT (g.getD k 0).toNat) := by rw [Hid, ← HS.out]; exact rs_out g hl HG.out A t k hfo hft8 hlt (Or.inr (Or.inl hlo))
              obtain ⟨x, hx⟩ : ∃ x : Nat, g.getD k 0 = (x : Int) := ⟨(g.getD k 0).toNat, by omega⟩
              rw [hx] at cg hgk
              rw [hx, Int.toNat_natCast] at HNx
              clear hx
              have hx1 : x < 65536 := by omega
              have HX : Hid (∀ w' : World, Calls Tryd.prog 32 #[.int .i64 (x : Int)] w' fun e w'' => e = .returned (.string ⟨(hexT x).toArray⟩) ∧ w'' = w') := fun w' => refHex_any x x w' (Nat.le_refl _) hx1
              have hTl := (hexT_len x).2
              generalize hexT x = T at *
              clear hgk
              by_cases hS0 : S = []
              · subst hS0
                have HN1 : Hid (rs g A t (k + 1) = T) := by rw [Hid, HNx.out]; rfl
                have hc1 := cat2 [] T
                rw [List.nil_append] at hc1
                have n1 : ¬ 9223372036854775807 < T.length := by omega
                go_wp2_with (first | (go_at_call 32; refine (HX.out _).mono ?_; rintro e w3 ⟨rfl, rfl⟩; simp only []))
                go_roundw
                case rel => first | exact (tinv_mk (k + 1) (T) (by omega) (by simp) (by go_num) HN1 (by omega) rfl) | ((repeat apply Exists.intro); refine ⟨?_, rfl⟩; exact tinv_mk (k + 1) (T) (by omega) (by simp) (by go_num) HN1 (by omega) rfl)
                case measure => simp [intOf]; omega
              · obtain ⟨n, hn⟩ : ∃ n, S.length = n + 1 := ⟨S.length - 1, by have : S.length ≠ 0 := fun e => hS0 (List.eq_nil_of_length_eq_zero e); omega⟩
                obtain ⟨c, hc⟩ : ∃ c, S[n]? = some c := ⟨S[n]'(by omega), List.getElem?_eq_getElem (by omega)⟩
                have hw : wantC S = decide (c ≠ 58) := by rw [wantC, List.getLast?_eq_getElem?, hn, Nat.add_sub_cancel, hc]; simp [hS0]
                have hidx : ∀ w' : World, (Instr.index 9 (.string ⟨S.toArray⟩) (.int .i64 (n : Int))).run Tryd.prog w' = .ok (.int .u8 (c.toNat : Int)) w' := fun w' => idx_str S n c hc w'
                by_cases hc58 : c = 58
                · subst hc58
                  have HN1 : Hid (rs g A t (k + 1) = S ++ T) := by rw [Hid, HNx.out, hw]; simp
                  have hc1 := cat2 S T
                  have n1 : ¬ 9223372036854775807 < S.length + T.length := by omega
                  have n2 : ¬ 9223372036854775807 < n + 1 + T.length := by omega
                  have n3 : (0 : Int) < (n : Int) + 1 := by omega
                  have t58 : ((58 : UInt8).toNat : Int) = 58 := rfl
                  clear hS0 hc hw
                  go_wp2_with (first | (go_at_call 32; refine (HX.out _).mono ?_; rintro e w3 ⟨rfl, rfl⟩; simp only []))
                  go_roundw
                  case rel => first | exact (tinv_mk (k + 1) (S ++ T) (by omega) (by simp) (by go_num) HN1 (by rw [List.length_append]; omega) rfl) | ((repeat apply Exists.intro); refine ⟨?_, rfl⟩; exact tinv_mk (k + 1) (S ++ T) (by omega) (by simp) (by go_num) HN1 (by rw [List.length_append]; omega) rfl)
                  case measure => simp [intOf]; omega
                · have HN1 : Hid (rs g A t (k + 1) = S ++ [58] ++ T) := by rw [Hid, HNx.out, hw, decide_eq_true hc58]; rfl
                  have hc1 := cat2 S [58]
                  have hc2 := cat2 (S ++ [58]) T
                  have n1 : ¬ 9223372036854775807 < S.length + 1 + T.length := by omega
                  have n2 : ¬ 9223372036854775807 < n + 1 + 1 + T.length := by omega
                  have n3 : (0 : Int) < (n : Int) + 1 := by omega
                  have n4 : ¬ 9223372036854775807 < S.length + 1 := by omega
                  have n5 : ¬ 9223372036854775807 < n + 1 + 1 := by omega
                  have t58 : ¬ (c.toNat : Int) = 58 := fun e => hc58 (UInt8.toNat_inj.1 (by have : c.toNat = 58 := by omega
                                                                                            exact this))
                  have t59 : ((c.toNat : Int) == 58) = false := by simpa using t58
                  clear hS0 hc hw
                  go_wp2_with (first | (go_at_call 32; refine (HX.out _).mono ?_; rintro e w3 ⟨rfl, rfl⟩; simp only []))
                  go_roundw
                  case rel => first | exact (tinv_mk (k + 1) (S ++ [58] ++ T) (by omega) (by simp) (by go_num) HN1 (by rw [List.length_append, List.length_append, List.length_singleton]; omega) rfl) | ((repeat apply Exists.intro); refine ⟨?_, rfl⟩; exact tinv_mk (k + 1) (S ++ [58] ++ T) (by omega) (by simp) (by go_num) HN1 (by rw [List.length_append, List.length_append, List.length_singleton]; omega) rfl)
                  case measure => simp [intOf]; omega
            · have z2 : (k : Int) ≥ (A : Int) := by omega
              by_cases hhi : k < t
              · have z3 : (k : Int) < (A : Int) + (Z : Int) := by have := HZ1.out; omega
                have z3' : k < A + Z := by have := HZ1.out; omega
                have z3'' : 0 < Z := by omega
                have z1' : 1 < Z := by omega
                have z2' : A ≤ k := by omega
                by_cases hat : k = A
                · have z4 : (k : Int) = (A : Int) := by omega
                  have HN1 : Hid (rs g A t (k + 1) = S ++ [58, 58]) := by rw [Hid, ← HS.out, hat]; exact rs_at g A t hf2
                  have hc1 := cat2 S [58, 58]
                  have n1 : ¬ 9223372036854775807 < S.length + 2 := by omega
                  clear hgk cg
                  go_wp2_with fail
                  go_roundw
                  case rel => first | exact (tinv_mk (k + 1) (S ++ [58, 58]) (by omega) (by simp) (by go_num) HN1 (by rw [List.length_append, List.length_cons, List.length_singleton]; omega) rfl) | ((repeat apply Exists.intro); refine ⟨?_, rfl⟩; exact tinv_mk (k + 1) (S ++ [58, 58]) (by omega) (by simp) (by go_num) HN1 (by rw [List.length_append, List.length_cons, List.length_singleton]; omega) rfl)
                  case measure => simp [intOf]; omega
                · have z4 : ¬ (k : Int) = (A : Int) := by omega
                  have z5 : ((k : Int) == (A : Int)) = false := by simpa using z4
                  have HN1 : Hid (rs g A t (k + 1) = S) := by rw [Hid, ← HS.out]; exact rs_in g A t k hf2 (by omega) hhi
                  clear hgk cg
                  go_wp2_with fail
                  go_roundw
                  case rel => first | exact (tinv_mk (k + 1) (S) (by omega) (by simp) (by go_num) HN1 (by omega) rfl) | ((repeat apply Exists.intro); refine ⟨?_, rfl⟩; exact tinv_mk (k + 1) (S) (by omega) (by simp) (by go_num) HN1 (by omega) rfl)
                  case measure => simp [intOf]; omega
              · have z3 : ¬ (k : Int) < (A : Int) + (Z : Int) := by have := HZ1.out; omega
                have HNx : Hid (rs g A t (k + 1) = S ++ (if wantC S then [58] else []) ++ hexT (g.getD k 0).toNat) := by rw [Hid, ← HS.out]; exact rs_out g hl HG.out A t k hfo hft8 hlt (Or.inr (Or.inr (by omega)))
                obtain ⟨x, hx⟩ : ∃ x : Nat, g.getD k 0 = (x : Int) := ⟨(g.getD k 0).toNat, by omega⟩
                rw [hx] at cg hgk
                rw [hx, Int.toNat_natCast] at HNx
                clear hx
                have hx1 : x < 65536 := by omega
                have HX : Hid (∀ w' : World, Calls Tryd.prog 32 #[.int .i64 (x : Int)] w' fun e w'' => e = .returned (.string ⟨(hexT x).toArray⟩) ∧ w'' = w') := fun w' => refHex_any x x w' (Nat.le_refl _) hx1
                have hTl := (hexT_len x).2
                generalize hexT x = T at *
                clear hgk
                by_cases hS0 : S = []
                · subst hS0
                  have HN1 : Hid (rs g A t (k + 1) = T) := by rw [Hid, HNx.out]; rfl
                  have hc1 := cat2 [] T
                  rw [List.nil_append] at hc1
                  have n1 : ¬ 9223372036854775807 < T.length := by omega
                  go_wp2_with (first | (go_at_call 32; refine (HX.out _).mono ?_; rintro e w3 ⟨rfl, rfl⟩; simp only []))
                  go_roundw
                  case rel => first | exact (tinv_mk (k + 1) (T) (by omega) (by simp) (by go_num) HN1 (by omega) rfl) | ((repeat apply Exists.intro); refine ⟨?_, rfl⟩; exact tinv_mk (k + 1) (T) (by omega) (by simp) (by go_num) HN1 (by omega) rfl)
                  case measure => simp [intOf]; omega
                · obtain ⟨n, hn⟩ : ∃ n, S.length = n + 1 := ⟨S.length - 1, by have : S.length ≠ 0 := fun e => hS0 (List.eq_nil_of_length_eq_zero e); omega⟩
                  obtain ⟨c, hc⟩ : ∃ c, S[n]? = some c := ⟨S[n]'(by omega), List.getElem?_eq_getElem (by omega)⟩
                  have hw : wantC S = decide (c ≠ 58) := by rw [wantC, List.getLast?_eq_getElem?, hn, Nat.add_sub_cancel, hc]; simp [hS0]
                  have hidx : ∀ w' : World, (Instr.index 9 (.string ⟨S.toArray⟩) (.int .i64 (n : Int))).run Tryd.prog w' = .ok (.int .u8 (c.toNat : Int)) w' := fun w' => idx_str S n c hc w'
                  by_cases hc58 : c = 58
                  · subst hc58
                    have HN1 : Hid (rs g A t (k + 1) = S ++ T) := by rw [Hid, HNx.out, hw]; simp
                    have hc1 := cat2 S T
                    have n1 : ¬ 9223372036854775807 < S.length + T.length := by omega
                    have n2 : ¬ 9223372036854775807 < n + 1 + T.length := by omega
                    have n3 : (0 : Int) < (n : Int) + 1 := by omega
                    have t58 : ((58 : UInt8).toNat : Int) = 58 := rfl
                    clear hS0 hc hw
                    go_wp2_with (first | (go_at_call 32; refine (HX.out _).mono ?_; rintro e w3 ⟨rfl, rfl⟩; simp only []))
                    go_roundw
                    case rel => first | exact (tinv_mk (k + 1) (S ++ T) (by omega) (by simp) (by go_num) HN1 (by rw [List.length_append]; omega) rfl) | ((repeat apply Exists.intro); refine ⟨?_, rfl⟩; exact tinv_mk (k + 1) (S ++ T) (by omega) (by simp) (by go_num) HN1 (by rw [List.length_append]; omega) rfl)
                    case measure => simp [intOf]; omega
                  · have HN1 : Hid (rs g A t (k + 1) = S ++ [58] ++ T) := by rw [Hid, HNx.out, hw, decide_eq_true hc58]; rfl
                    have hc1 := cat2 S [58]
                    have hc2 := cat2 (S ++ [58]) T
                    have n1 : ¬ 9223372036854775807 < S.length + 1 + T.length := by omega
                    have n2 : ¬ 9223372036854775807 < n + 1 + 1 + T.length := by omega
                    have n3 : (0 : Int) < (n : Int) + 1 := by omega
                    have n4 : ¬ 9223372036854775807 < S.length + 1 := by omega
                    have n5 : ¬ 9223372036854775807 < n + 1 + 1 := by omega
                    have t58 : ¬ (c.toNat : Int) = 58 := fun e => hc58 (UInt8.toNat_inj.1 (by have : c.toNat = 58 := by omega
                                                                                              exact this))
                    have t59 : ((c.toNat : Int) == 58) = false := by simpa using t58
                    clear hS0 hc hw
                    go_wp2_with (first | (go_at_call 32; refine (HX.out _).mono ?_; rintro e w3 ⟨rfl, rfl⟩; simp only []))
                    go_roundw
                    case rel => first | exact (tinv_mk (k + 1) (S ++ [58] ++ T) (by omega) (by simp) (by go_num) HN1 (by rw [List.length_append, List.length_append, List.length_singleton]; omega) rfl) | ((repeat apply Exists.intro); refine ⟨?_, rfl⟩; exact tinv_mk (k + 1) (S ++ [58] ++ T) (by omega) (by simp) (by go_num) HN1 (by rw [List.length_append, List.length_append, List.length_singleton]; omega) rfl)
                    case measure => simp [intOf]; omega
        · obtain rfl : k = 8 := by omega
          have hS : S = T0 := by rw [← HS.out, HE.out]
          subst hS
          go_wp2_with fail
          go_ret
          exact ⟨rfl, B2.out⟩
end Go.Proofs.YtoijfnkbjdekoaaDoor
