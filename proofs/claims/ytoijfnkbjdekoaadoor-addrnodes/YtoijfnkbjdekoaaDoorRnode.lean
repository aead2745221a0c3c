/- What the document's Link and Node answer. -/
import Derived.Test.YtoijfnkbjdekoaaDoorPure
import Derived.Test.YtoijfnkbjdekoaaDoorGrpWalk
import Derived.Deep.CutRange
namespace Go.Proofs.YtoijfnkbjdekoaaDoor
open Go.ChangeShapes Go.WideShapes Go.ChangeAt Go.RowKit
set_option linter.unusedVariables false
set_option linter.unusedSimpArgs false

/-- Node k's link-local address. -/
def lnk (k : Int) : List Int := [254, 128, 0, 0, 0, 0, 0, 0, 0, 0, 0, 0, 0, 1, 0, k + 1]
theorem lnk_glob (k : Int) : globL feL k = lnk k := rfl
theorem adr_lnk (k : Int) (h0 : 0 ≤ k) (h1 : k < 64) : Adr (lnk k) := ⟨rfl, by intro x hx; simp only [lnk, List.mem_cons, List.not_mem_nil, or_false] at hx; omega⟩

set_option maxHeartbeats 800000 in
theorem refLink_any (k : Int) (w : World) (h0 : 0 ≤ k) (h1 : k < 64) :
    Calls Tryd.prog 21 #[.int .i64 k] w fun e w' => e = .returned (.agg (u8s (lnk k))) ∧ Below w.heap.size w w' := by
  have hz := zadr
  have hR : Row ((w.alloc (.cells (u8s zeros) 22)).alloc (.cells (u8s zeros) 22)) w.heap.size 22 (u8s zeros) := (Row.new w 22 _).alloc _
  have hN : Row ((w.alloc (.cells (u8s zeros) 22)).alloc (.cells (u8s zeros) 22)) (w.heap.size + 1) 22 (u8s zeros) := by simpa using Row.new (w.alloc (.cells (u8s zeros) 22)) 22 (u8s zeros)
  have hb := below_new2 w (.cells (u8s zeros) 22) (.cells (u8s zeros) 22)
  have hk8 : (k + 1) % 256 = k + 1 := by omega
  go_enter Tryd.func21, Tryd.ntmps21
  go_upto_region 2 with fail
  generalize ((w.alloc (.cells (u8s zeros) 22)).alloc (.cells (u8s zeros) 22)) = w1 at *
  have f0 := hN.frozen 0
  have f1 := hN.frozen 1
  have f13 := hN.frozen 13
  have f15 := hN.frozen 15
  have c0 : w1.cell? ⟨w.heap.size + 1, 0, none⟩ = some (.int .u8 0) := by rw [hN.cell]; rfl
  have c1 : w1.cell? ⟨w.heap.size + 1, 1, none⟩ = some (.int .u8 0) := by rw [hN.cell]; rfl
  have c13 : w1.cell? ⟨w.heap.size + 1, 13, none⟩ = some (.int .u8 0) := by rw [hN.cell]; rfl
  have c15 : w1.cell? ⟨w.heap.size + 1, 15, none⟩ = some (.int .u8 0) := by rw [hN.cell]; rfl
  go_upto_region 4 with fail
  have N5 : Hid (Row ((((w1.setCell ⟨w.heap.size + 1, 0, none⟩ (.int .u8 254)).setCell ⟨w.heap.size + 1, 1, none⟩ (.int .u8 128)).setCell ⟨w.heap.size + 1, 13, none⟩ (.int .u8 1)).setCell ⟨w.heap.size + 1, 15, none⟩ (.int .u8 (k + 1))) (w.heap.size + 1) 22 (u8s (lnk k))) :=
    ((((hN.set 0 (.int .u8 254)).set 1 (.int .u8 128)).set 13 (.int .u8 1)).set 15 (.int .u8 (k + 1))).as (by rw [u8s_set, u8s_set, u8s_set, u8s_set]; rfl)
  have N6 : Hid (Row ((((w1.setCell ⟨w.heap.size + 1, 0, none⟩ (.int .u8 254)).setCell ⟨w.heap.size + 1, 1, none⟩ (.int .u8 128)).setCell ⟨w.heap.size + 1, 13, none⟩ (.int .u8 1)).setCell ⟨w.heap.size + 1, 15, none⟩ (.int .u8 (k + 1))) w.heap.size 22 (u8s zeros)) :=
    (((hR.other _ _ (by show w.heap.size ≠ w.heap.size + 1; omega)).other _ _ (by show w.heap.size ≠ w.heap.size + 1; omega)).other _ _ (by show w.heap.size ≠ w.heap.size + 1; omega)).other _ _ (by show w.heap.size ≠ w.heap.size + 1; omega)
  have N7 : Hid (Below w.heap.size w ((((w1.setCell ⟨w.heap.size + 1, 0, none⟩ (.int .u8 254)).setCell ⟨w.heap.size + 1, 1, none⟩ (.int .u8 128)).setCell ⟨w.heap.size + 1, 13, none⟩ (.int .u8 1)).setCell ⟨w.heap.size + 1, 15, none⟩ (.int .u8 (k + 1)))) :=
    (((hb.setCell (by show w.heap.size ≤ w.heap.size + 1; omega) _).setCell (by show w.heap.size ≤ w.heap.size + 1; omega) _).setCell (by show w.heap.size ≤ w.heap.size + 1; omega) _).setCell (by show w.heap.size ≤ w.heap.size + 1; omega) _
  obtain ⟨y, hy⟩ : ∃ y, lnk k = y := ⟨_, rfl⟩
  have hyl : y.length = 16 := by rw [← hy]; rfl
  rw [hy] at N5
  have HY : Hid (lnk k = y) := hy
  clear hy
  generalize ((((w1.setCell ⟨w.heap.size + 1, 0, none⟩ (.int .u8 254)).setCell ⟨w.heap.size + 1, 1, none⟩ (.int .u8 128)).setCell ⟨w.heap.size + 1, 13, none⟩ (.int .u8 1)).setCell ⟨w.heap.size + 1, 15, none⟩ (.int .u8 (k + 1))) = w2 at *
  clear f0 f1 f13 f15 c0 c1 c13 c15 hN hR hb
  go_wp2_with (first
    | (refine ld22 _ rfl rfl (w.heap.size + 1) 0 rfl y hyl N5.out.part ?_)
    | (refine st22 _ _ rfl rfl w.heap.size y hyl rfl rfl 22 _ (by rfl) N6.out ?_))
  refine bodyPost_ret (res22 rfl _ _ _ 22 y hyl rfl (N6.out.setRow _)) rfl ⟨by rw [HY.out], ?_⟩
  exact below_setRow N7.out (Nat.le_refl _) _

/-- The last eight bytes are node k's. -/
def sameB (l : List Int) (k : Nat) : Bool := (List.range 16).all fun i => decide (i < 8) || l.getD i 0 == (lnk (k : Int)).getD i 0
/-- The first eight bytes are not all 0. -/
def frontB (l : List Int) : Bool := (List.range 8).any fun i => l.getD i 0 != 0
/-- It is not node k's. -/
def Nope (l : List Int) (k : Nat) : Prop := (sameB l k && frontB l) = false
/-- The first so many bytes, as the loop looks at them. -/
def sameK (l : List Int) (k i : Nat) : Bool := (List.range i).all fun i => decide (i < 8) || l.getD i 0 == (lnk (k : Int)).getD i 0
def frontK (l : List Int) (i : Nat) : Bool := (List.range (min i 8)).any fun i => l.getD i 0 != 0
theorem sameK_next (l : List Int) (k i : Nat) : sameK l k (i + 1) = (sameK l k i && (decide (i < 8) || l.getD i 0 == (lnk (k : Int)).getD i 0)) := by
  unfold sameK; rw [List.range_succ, List.all_append]; simp
theorem frontK_next (l : List Int) (i : Nat) (h : i < 8) : frontK l (i + 1) = (frontK l i || l.getD i 0 != 0) := by
  unfold frontK; rw [show min (i + 1) 8 = i + 1 by omega, show min i 8 = i by omega, List.range_succ, List.any_append]; simp
theorem frontK_same (l : List Int) (i : Nat) (h : 8 ≤ i) : frontK l (i + 1) = frontK l i := by
  unfold frontK; rw [show min (i + 1) 8 = 8 by omega, show min i 8 = 8 by omega]

set_option maxHeartbeats 3200000 in
theorem refNode_any (l : List Int) (w : World) (ha : Adr l) :
    Calls Tryd.prog 19 #[.agg (u8s l)] w fun e w' => (∃ k : Nat, k < 64 ∧ e = .returned (.int .i64 (k : Int)) ∧ sameB l k = true ∧ frontB l = true ∧ Below w.heap.size w w') ∨ (e = .returned (.int .i64 (-1)) ∧ (∀ k, k < 64 → Nope l k) ∧ Below w.heap.size w w') := by
  have hA : Row (w.alloc (.cells (u8s l) 22)) w.heap.size 22 (u8s l) := Row.new w 22 _
  have HA : Hid (Adr l) := ha
  have hz := zadr
  clear ha
  go_enter Tryd.func19, Tryd.ntmps19
  go_wp2_with fail
  go_loopw [3] (fun vi wr => ∃ k : Nat, vi = .int .i64 (k : Int) ∧ k ≤ 64 ∧ Hid (∀ j, j < k → Nope l j) ∧ Hid (Row wr w.heap.size 22 (u8s l)) ∧ Hid (Below w.heap.size w wr))
    (fun vi _ => 64 - (intOf vi).toNat)
  case atStart => exact ⟨0, rfl, by omega, fun j h => by omega, hA, below_new w _⟩
  case round =>
    clear hA
    obtain ⟨k, rfl, hk, HN, RA, B4⟩ := hrel
    by_cases hlt : k < 64
    · have i1 : (k : Int) < 64 := by omega
      have hlk := fun w' => refLink_any (k : Int) w' (by omega) i1
      have HLk : Hid (∀ w' : World, Calls Tryd.prog 21 #[.int .i64 (k : Int)] w' fun e w'' => e = .returned (.agg (u8s (lnk (k : Int)))) ∧ Below w'.heap.size w' w'') := hlk
      clear hlk
      have hsl : ∀ i, i < 16 → (u8s (lnk (k : Int)))[i]? = some (.int .u8 ((lnk (k : Int)).getD i 0)) := fun i hi => u8s_at _ _ hi
      have HSL : Hid (∀ i, i < 16 → (u8s (lnk (k : Int)))[i]? = some (.int .u8 ((lnk (k : Int)).getD i 0))) := hsl
      clear hsl
      have HSB : Hid (sameB l k = sameK l k 16) := rfl
      have HSN : Hid (∀ i, sameK l k (i + 1) = (sameK l k i && (decide (i < 8) || l.getD i 0 == (lnk (k : Int)).getD i 0))) := sameK_next l k
      have hll : (lnk (k : Int)).length = 16 := rfl
      generalize lnk (k : Int) = y at *
      go_wp2_with (first
        | (go_at_call 21; refine (HLk.out _).mono ?_; rintro e w1 ⟨rfl, hb1⟩; have RA1 : Hid (Row w1 w.heap.size 22 (u8s l)) := RA.out.below hb1 RA.out.lt; have B1 : Hid (Below w.heap.size w w1) := B4.out.trans (hb1.mono B4.out.size); clear hb1)
        | (refine st22 _ _ rfl rfl w1.heap.size y hll rfl rfl 22 _ (by rfl) (Row.new w1 22 (u8s zeros)) ?_; have RL2 : Hid (Row ((w1.alloc (.cells (u8s zeros) 22)).setRow w1.heap.size (u8s y)) w1.heap.size 22 (u8s y)) := (Row.new w1 22 _).setRow _; have RA2 : Hid (Row ((w1.alloc (.cells (u8s zeros) 22)).setRow w1.heap.size (u8s y)) w.heap.size 22 (u8s l)) := (RA1.out.alloc _).rowOther _ _ (Nat.ne_of_lt RA1.out.lt); have B2 : Hid (Below w.heap.size w ((w1.alloc (.cells (u8s zeros) 22)).setRow w1.heap.size (u8s y))) := below_setRow (B1.out.alloc B1.out.size _) B1.out.size _; generalize ((w1.alloc (.cells (u8s zeros) 22)).setRow w1.heap.size (u8s y)) = w2 at *))
      go_loopw [5, 6, 7] (fun vs vf vi wq => ∃ (i : Nat) (q : Nat) (sb fb : Bool), vs = .bool sb ∧ vf = .bool fb ∧ vi = .int .i64 (i : Int) ∧ i ≤ 16 ∧ Hid (sb = sameK l k i) ∧ Hid (fb = frontK l i) ∧ wq = w2.drewN q)
        (fun _ _ vi _ => 16 - (intOf vi).toNat)
      case atStart => exact ⟨0, 0, true, false, rfl, rfl, rfl, by omega, rfl, rfl, rfl⟩
      case round =>
        obtain ⟨i, q, sb, fb, rfl, rfl, rfl, hi, HS, HF, rfl⟩ := hrel
        by_cases hil : i < 16
        · have j1 : (i : Int) < 16 := by omega
          have ca : w2.cell? ⟨w.heap.size, i, none⟩ = some (.int .u8 (l.getD i 0)) := by rw [RA2.out.cell, u8s_at _ _ (by rw [HA.out.1]; exact hil)]
          have cy : w2.cell? ⟨w1.heap.size, i, none⟩ = some (.int .u8 (y.getD i 0)) := by rw [RL2.out.cell, HSL.out i hil]
          have HSi := HSN.out i
          by_cases h8 : i < 8
          · have j2 : (i : Int) < 8 := by omega
            have HF9 : Hid (frontK l (i + 1) = (frontK l i || l.getD i 0 != 0)) := frontK_next l i h8
            have HS9 : Hid (sameK l k (i + 1) = sameK l k i) := by rw [Hid, HSi]; simp [h8]
            generalize l.getD i 0 = x at *
            clear HSi cy
            cases fb
            · cases hx : (x != 0)
              · go_wp2
                go_roundw
                case rel => exact ⟨i + 1, q, sb, false, rfl, rfl, by go_num, by omega, by rw [Hid, HS9.out]; exact HS.out, by rw [Hid, HF9.out, ← HF.out, hx]; rfl, rfl⟩
                case measure => simp [intOf]; omega
              · go_wp2
                go_roundw
                case rel => exact ⟨i + 1, q, sb, true, rfl, rfl, by go_num, by omega, by rw [Hid, HS9.out]; exact HS.out, by rw [Hid, HF9.out, ← HF.out, hx]; rfl, rfl⟩
                case measure => simp [intOf]; omega
            · go_wp2
              go_roundw
              case rel => exact ⟨i + 1, q, sb, true, rfl, rfl, by go_num, by omega, by rw [Hid, HS9.out]; exact HS.out, by rw [Hid, HF9.out, ← HF.out]; rfl, rfl⟩
              case measure => simp [intOf]; omega
          · have j2 : ¬ (i : Int) < 8 := by omega
            have HF9 : Hid (frontK l (i + 1) = frontK l i) := frontK_same l i (by omega)
            have HS9 : Hid (sameK l k (i + 1) = (sameK l k i && l.getD i 0 == y.getD i 0)) := by rw [Hid, HSi]; simp [h8]
            generalize l.getD i 0 = x at *
            generalize y.getD i 0 = z at *
            clear HSi
            cases sb
            · go_wp2
              go_quiet (fail)
              go_wp2
              go_roundw
              case rel => exact ⟨i + 1, _, false, fb, rfl, rfl, by go_num, by omega, by rw [Hid, HS9.out, ← HS.out]; rfl, by rw [Hid, HF9.out]; exact HF.out, by first | rfl | exact World.drewN_drewN _ _ _⟩
              case measure => simp [intOf]; omega
            · cases hxz : (x == z)
              · go_wp2
                go_quiet (fail)
                go_wp2
                go_roundw
                case rel => exact ⟨i + 1, _, false, fb, rfl, rfl, by go_num, by omega, by rw [Hid, HS9.out, ← HS.out, hxz]; rfl, by rw [Hid, HF9.out]; exact HF.out, by first | rfl | exact World.drewN_drewN _ _ _⟩
                case measure => simp [intOf]; omega
              · go_wp2
                go_quiet (fail)
                go_wp2
                go_roundw
                case rel => exact ⟨i + 1, _, true, fb, rfl, rfl, by go_num, by omega, by rw [Hid, HS9.out, ← HS.out, hxz]; rfl, by rw [Hid, HF9.out]; exact HF.out, by first | rfl | exact World.drewN_drewN _ _ _⟩
                case measure => simp [intOf]; omega
        · obtain rfl : i = 16 := by omega
          have hsb : sameB l k = sb := by rw [HSB.out, HS.out]
          have hfb : frontB l = fb := by rw [HF.out]; rfl
          have B9 : Hid (Below w.heap.size w (w2.drewN q)) := below_drewN B2.out q
          have R9 : Hid (Row (w2.drewN q) w.heap.size 22 (u8s l)) := RA2.out.drewN q
          have HQ : Hid (sameB l k = sb ∧ frontB l = fb) := ⟨hsb, hfb⟩
          clear hsb hfb
          cases sb
          · have HN9 : Hid (∀ j, j < k + 1 → Nope l j) := fun j h2 => by rcases Nat.lt_succ_iff_lt_or_eq.1 h2 with h | rfl; exact HN.out j h; rw [Nope, HQ.out.1]; rfl
            go_wp2
            go_roundw
            case rel => exact ⟨k + 1, by go_num, by omega, HN9, R9, B9⟩
            case measure => simp [intOf]; omega
          · cases fb
            · have HN9 : Hid (∀ j, j < k + 1 → Nope l j) := fun j h2 => by rcases Nat.lt_succ_iff_lt_or_eq.1 h2 with h | rfl; exact HN.out j h; rw [Nope, HQ.out.2, Bool.and_false]
              go_wp2
              go_roundw
              case rel => exact ⟨k + 1, by go_num, by omega, HN9, R9, B9⟩
              case measure => simp [intOf]; omega
            · go_wp2
              go_ret
              exact Or.inl ⟨k, hlt, rfl, HQ.out.1, HQ.out.2, B9.out⟩
    · have i1 : ¬ (k : Int) < 64 := by omega
      go_wp2
      go_ret
      exact Or.inr ⟨rfl, fun j hj => HN.out j (by omega), B4.out⟩
end Go.Proofs.YtoijfnkbjdekoaaDoor
