/- What addr's Node answers. -/
import Derived.Test.YtoijfnkbjdekoaaDoorParse
namespace Go.Proofs.YtoijfnkbjdekoaaDoor
open Go.ChangeShapes Go.WideShapes Go.ChangeAt Go.RowKit
set_option linter.unusedVariables false
set_option linter.unusedSimpArgs false

theorem idx7' (g0 g1 g2 g3 g4 g5 g6 g7 : Int) (w : World) : (Instr.index 23 (.agg (i64s [g0, g1, g2, g3, g4, g5, g6, g7])) (.int .i64 7)).run Tryd.prog w = .ok (.int .i64 g7) w := by kernel_rfl
theorem idx7 (g : List Int) (h : g.length = 8) (w : World) : (Instr.index 23 (.agg (i64s g)) (.int .i64 7)).run Tryd.prog w = .ok (.int .i64 (g.getD 7 0)) w := by
  match g, h with
  | [g0, g1, g2, g3, g4, g5, g6, g7], _ => exact idx7' g0 g1 g2 g3 g4 g5 g6 g7 w

def nodK (l : List Int) : Int := (grpL l).getD 7 0 - 1
def nodB (l : List Int) : Bool := globB (cutL 64 l) 64 (nodK l) && (globA (cutL 64 l) 64 (nodK l) == l && !(cutL 64 l == zeros))
def nodN (l : List Int) : Int := if nodB l then nodK l else 0
def nodE (l : List Int) : Int := if nodB l then 0 else 8

set_option maxHeartbeats 1600000 in
theorem node_any (l : List Int) (w : World) (ha : Adr l) :
    Calls Tryd.prog 18 #[.agg (u8s l)] w fun e w' => e = .returned (.tuple #[.int .i64 (nodN l), .int .i64 (nodE l)]) ∧ Below w.heap.size w w' := by
  have hA : Row (w.alloc (.cells (u8s l) 25)) w.heap.size 25 (u8s l) := Row.new w 25 _
  have hz := zadr
  have hzp := zpfx
  have hx7 := idx7 (grpL l) rfl
  have hk : 0 ≤ (grpL l).getD 7 0 ∧ (grpL l).getD 7 0 < 65536 := grp_ok ha _ (getD_mem (by rw [grpL_len]; omega))
  have HN : Hid (nodN l = if nodB l then nodK l else 0) := rfl
  have HE : Hid (nodE l = if nodB l then 0 else 8) := rfl
  have HB : Hid (nodB l = (globB (cutL 64 l) 64 (nodK l) && (globA (cutL 64 l) 64 (nodK l) == l && !(cutL 64 l == zeros)))) := rfl
  have hcut := fun w' => cut_any l 64 w' ha (by omega) (by omega)
  have hgrp := fun w' => groups_any l w' ha
  have hfr : Adr (cutL 64 l) := adr_cut ha
  have hglob := fun w' => global_any (cutL 64 l) 64 (nodK l) w' hfr
  have hga : Adr (globA (cutL 64 l) 64 (nodK l)) := adr_globA hfr
  have q1 := eq25 (globA (cutL 64 l) 64 (nodK l)) l hga.1 ha.1
  have q2 := eq25 (cutL 64 l) zeros hfr.1 zeros_len
  have HGE : Hid (globE (cutL 64 l) 64 (nodK l) = if globB (cutL 64 l) 64 (nodK l) then 0 else 1) := rfl
  have hkd : (grpL l).getD 7 0 - 1 = nodK l := rfl
  have HNK : Hid (∃ x, x = (grpL l).getD 7 0) := ⟨_, rfl⟩
  generalize nodK l = k at *
  generalize hxx : (grpL l).getD 7 0 = x at *
  clear hxx
  generalize globA (cutL 64 l) 64 k = ga at *
  generalize globE (cutL 64 l) 64 k = ge at *
  generalize globB (cutL 64 l) 64 k = gb at *
  generalize cutL 64 l = fr at *
  generalize nodN l = NN at *
  generalize nodE l = NE at *
  generalize nodB l = nb at *
  have HC : Hid (∀ w' : World, Calls Tryd.prog 34 #[.agg (u8s l), .int .i64 64] w' fun e w'' => e = .returned (.agg (u8s fr)) ∧ Below w'.heap.size w' w'') := hcut
  have HG : Hid (∀ w' : World, Calls Tryd.prog 8 #[.agg (u8s l)] w' fun e w'' => e = .returned (.agg (i64s (grpL l))) ∧ Below w'.heap.size w' w'') := hgrp
  have HGl : Hid (∀ w' : World, Calls Tryd.prog 17 #[.agg (pfx fr 64), .int .i64 k] w' fun e w'' => e = .returned (.tuple #[.agg (u8s ga), .int .i64 ge]) ∧ Below w'.heap.size w' w'') := hglob
  clear hcut hgrp hglob
  have hkd' : x - 1 = k := hkd
  clear hkd
  have key : ∀ (ge' : Int) (b1 b2 : Bool), ge = ge' → (ga == l) = b1 → (fr == zeros) = b2 → (ge' = 0 ∨ ge' = 1) → NN = (if ge' = 0 ∧ b1 = true ∧ b2 = false then k else 0) → NE = (if ge' = 0 ∧ b1 = true ∧ b2 = false then 0 else 8) →
      Calls Tryd.prog 18 #[.agg (u8s l)] w fun e w' => e = .returned (.tuple #[.int .i64 NN, .int .i64 NE]) ∧ Below w.heap.size w w' := by
    intro ge' b1 b2 hge hb1 hb2 hc hNN hNE
    rw [hge] at HGl
    rw [hb1] at q1
    rw [hb2] at q2
    have H1 : Hid _ := hNN
    have H2 : Hid _ := hNE
    clear hge hb1 hb2 HN HE HB HGE hNN hNE
    rcases hc with rfl | rfl <;> cases b1 <;> cases b2
    all_goals
      go_enter Tryd.func18, Tryd.ntmps18
      go_wp2_with (first
        | (refine ld25 _ rfl rfl w.heap.size 0 rfl l ha.1 hA.part ?_)
        | (go_at_call 34; refine (HC.out _).mono ?_; rintro e w1 ⟨rfl, hb1⟩; have A1 : Row w1 w.heap.size 25 (u8s l) := hA.below hb1 (by simp); have B1 : Hid (Below w.heap.size w w1) := (below_new w _).trans (hb1.mono (by simp)); clear hb1)
        | (refine bd42 _ _ rfl rfl fr 64 hfr.1 rfl rfl ?_)
        | (refine st42 _ _ rfl rfl w1.heap.size fr 64 hfr.1 rfl rfl 42 _ (by rfl) (Row.new w1 42 (pfx zeros 0)) ?_; have P2 : Row ((w1.alloc (.cells (pfx zeros 0) 42)).setRow w1.heap.size (pfx fr 64)) w1.heap.size 42 (pfx fr 64) := (Row.new w1 42 _).setRow _; have A2 : Row ((w1.alloc (.cells (pfx zeros 0) 42)).setRow w1.heap.size (pfx fr 64)) w.heap.size 25 (u8s l) := (A1.alloc _).rowOther _ _ (Nat.ne_of_lt A1.lt); have B2 : Hid (Below w.heap.size w ((w1.alloc (.cells (pfx zeros 0) 42)).setRow w1.heap.size (pfx fr 64))) := below_setRow (B1.out.alloc B1.out.size _) B1.out.size _; generalize ((w1.alloc (.cells (pfx zeros 0) 42)).setRow w1.heap.size (pfx fr 64)) = w2 at *)
        | (refine ld25 _ rfl rfl w.heap.size 0 rfl l ha.1 A2.part ?_)
        | (go_at_call 8; refine (HG.out _).mono ?_; rintro e w3 ⟨rfl, hb3⟩; have A3 : Row w3 w.heap.size 25 (u8s l) := A2.below hb3 A2.lt; have P3 : Row w3 w1.heap.size 42 (pfx fr 64) := P2.below hb3 P2.lt; have B3 : Hid (Below w.heap.size w w3) := B2.out.trans (hb3.mono B2.out.size); clear hb3)
        | (refine ld42 _ rfl rfl w1.heap.size 0 rfl fr 64 hfr.1 P3.part ?_)
        | (go_at_call 17; refine (HGl.out _).mono ?_; rintro e w4 ⟨rfl, hb4⟩; have A4 : Row w4 w.heap.size 25 (u8s l) := A3.below hb4 A3.lt; have P4 : Row w4 w1.heap.size 42 (pfx fr 64) := P3.below hb4 P3.lt; have B4 : Hid (Below w.heap.size w w4) := B3.out.trans (hb4.mono B3.out.size); clear hb4)
        | (refine st25 _ _ rfl rfl w4.heap.size ga hga.1 rfl rfl 25 _ (by rfl) (Row.new w4 25 (u8s zeros)) ?_; have N5 : Row ((w4.alloc (.cells (u8s zeros) 25)).setRow w4.heap.size (u8s ga)) w4.heap.size 25 (u8s ga) := (Row.new w4 25 _).setRow _; have A5 : Row ((w4.alloc (.cells (u8s zeros) 25)).setRow w4.heap.size (u8s ga)) w.heap.size 25 (u8s l) := (A4.alloc _).rowOther _ _ (Nat.ne_of_lt A4.lt); have P5 : Row ((w4.alloc (.cells (u8s zeros) 25)).setRow w4.heap.size (u8s ga)) w1.heap.size 42 (pfx fr 64) := (P4.alloc _).rowOther _ _ (Nat.ne_of_lt P4.lt); have B5 : Hid (Below w.heap.size w ((w4.alloc (.cells (u8s zeros) 25)).setRow w4.heap.size (u8s ga))) := below_setRow (B4.out.alloc B4.out.size _) B4.out.size _; generalize ((w4.alloc (.cells (u8s zeros) 25)).setRow w4.heap.size (u8s ga)) = w5 at *)
        | (refine ld25 _ rfl rfl w4.heap.size 0 rfl ga hga.1 N5.part ?_)
        | (refine ld25 _ rfl rfl w.heap.size 0 rfl l ha.1 A5.part ?_)
        | (refine ld25 _ rfl rfl w1.heap.size 0 rfl fr hfr.1 P5.pre ?_))
      go_ret2
      exact ⟨by rw [H1.out, H2.out]; rfl, B5.out⟩
  have hg : ge = 0 ∨ ge = 1 := by rw [HGE.out]; split <;> simp
  refine key ge _ _ rfl rfl rfl hg ?_ ?_
  · rw [HN.out, HB.out]
    cases gb
    · rw [HGE.out]; simp
    · rw [HGE.out]; cases (ga == l) <;> cases (fr == zeros) <;> simp
  · rw [HE.out, HB.out]
    cases gb
    · rw [HGE.out]; simp
    · rw [HGE.out]; cases (ga == l) <;> cases (fr == zeros) <;> simp
end Go.Proofs.YtoijfnkbjdekoaaDoor
