/- What addr's Global, Link, Groups and Node answer. -/
import Derived.Test.YtoijfnkbjdekoaaDoorSmall
namespace Go.Proofs.YtoijfnkbjdekoaaDoor
open Go.ChangeShapes Go.WideShapes Go.ChangeAt Go.RowKit
set_option linter.unusedVariables false
set_option linter.unusedSimpArgs false

/-- May Global answer an address? -/
def globB (p : List Int) (n : Int) (k : Int) : Bool := decide (0 ≤ k ∧ k < 64) && rightB p n && decide (n = 64)
def globL (p : List Int) (k : Int) : List Int := (p.set 13 1).set 15 (k + 1)
def globA (p : List Int) (n k : Int) : List Int := if globB p n k then globL p k else zeros
def globE (p : List Int) (n k : Int) : Int := if globB p n k then 0 else 1
theorem globL_len (p : List Int) (k : Int) : (globL p k).length = p.length := by simp [globL]
theorem adr_set {l : List Int} (h : Adr l) (j : Nat) (x : Int) (hx : 0 ≤ x ∧ x < 256) : Adr (l.set j x) :=
  ⟨by rw [List.length_set]; exact h.1, fun y hy => by rcases List.mem_or_eq_of_mem_set hy with h' | rfl; exact h.2 y h'; exact hx⟩
theorem adr_globA {p : List Int} {n k : Int} (h : Adr p) : Adr (globA p n k) := by
  unfold globA
  split
  · rename_i hb
    simp only [globB, Bool.and_eq_true, decide_eq_true_eq] at hb
    exact adr_set (adr_set h 13 1 (by omega)) 15 _ (by omega)
  · exact adr_zeros

set_option maxHeartbeats 800000 in
theorem global_any (p : List Int) (n k : Int) (w : World) (hp : Adr p) :
    Calls Tryd.prog 17 #[.agg (pfx p n), .int .i64 k] w fun e w' => e = .returned (.tuple #[.agg (u8s (globA p n k)), .int .i64 (globE p n k)]) ∧ Below w.heap.size w w' := by
  have hP : Row ((w.alloc (.cells (pfx p n) 42)).alloc (.cells (u8s zeros) 25)) w.heap.size 42 (pfx p n) := (Row.new w 42 _).alloc _
  have hR : Row ((w.alloc (.cells (pfx p n) 42)).alloc (.cells (u8s zeros) 25)) (w.heap.size + 1) 25 (u8s zeros) := by simpa using Row.new (w.alloc (.cells (pfx p n) 42)) 25 (u8s zeros)
  have hz := zadr
  by_cases h0 : 0 ≤ k ∧ k < 64
  · have k0 : decide (k < 0) = false := by simp; omega
    have k1 : decide (64 ≤ k) = false := by simp; omega
    cases hr : rightB p n
    · have HE : Hid (globA p n k = zeros ∧ globE p n k = 1) := by simp [Hid, globA, globE, globB, hr]
      have H : Hid (rightB p n = false) := hr
      clear hr
      go_enter Tryd.func17, Tryd.ntmps17
      go_wp2_with (first
        | (refine ld42 _ rfl rfl w.heap.size 0 rfl p n hp.1 hP.part ?_)
        | (go_at_call 25; refine (right_any p n _ hp).mono ?_; rintro e w2 ⟨rfl, hb2⟩; have B2 : Hid (Below (w.heap.size + 2) ((w.alloc (.cells (pfx p n) 42)).alloc (.cells (u8s zeros) 25)) w2) := ⟨hb2.os, hb2.tape, hb2.output, hb2.size, fun k hk => hb2.block k (by simpa using hk)⟩; clear hb2; have R2 := hR.below B2.out (by omega); rw [H.out])
        | (refine st25 _ _ rfl rfl (w.heap.size + 1) zeros zeros_len rfl rfl 25 _ (by rfl) R2 ?_))
      obtain ⟨e1, e2⟩ := HE.out
      refine bodyPost_ret (res25e rfl _ _ _ 25 zeros zeros_len (.int .i64 1) rfl rfl (R2.setRow _)) rfl ⟨by rw [e1, e2], ?_⟩
      exact below_setRow ((below_new2 w _ _).trans (B2.out.mono (by omega))) (by omega) _
    · by_cases hn : n = 64
      · have HE : Hid (globA p n k = globL p k ∧ globE p n k = 0) := by subst hn; simp [Hid, globA, globE, globB, hr, h0]
        have H : Hid (rightB p n = true) := hr
        have hl : (globL p k).length = 16 := by rw [globL_len]; exact hp.1
        have hk8 : (k + 1) % 256 = k + 1 := by omega
        clear hr
        subst hn
        go_enter Tryd.func17, Tryd.ntmps17
        go_wp2_with (first
          | (refine ld42 _ rfl rfl w.heap.size 0 rfl p 64 hp.1 hP.part ?_)
          | (go_at_call 25; refine (right_any p 64 _ hp).mono ?_; rintro e w2 ⟨rfl, hb2⟩; have B2 : Hid (Below (w.heap.size + 2) ((w.alloc (.cells (pfx p 64) 42)).alloc (.cells (u8s zeros) 25)) w2) := ⟨hb2.os, hb2.tape, hb2.output, hb2.size, fun k hk => hb2.block k (by simpa using hk)⟩; clear hb2; have R2 := hR.below B2.out (by omega); have P2 := hP.below B2.out (by omega); have hbt := P2.bits hp.1; rw [H.out])
          | (refine ld25 _ rfl rfl w.heap.size 0 rfl p hp.1 P2.pre ?_)
          | (refine st25 _ _ rfl rfl w2.heap.size p hp.1 rfl rfl 25 (u8s zeros) (by rfl) (Row.new w2 25 (u8s zeros)) ?_; have N2 : Row ((w2.alloc (.cells (u8s zeros) 25)).setRow w2.heap.size (u8s p)) w2.heap.size 25 (u8s p) := (Row.new w2 25 (u8s zeros)).setRow _; have N3 : Hid (Row ((w2.alloc (.cells (u8s zeros) 25)).setRow w2.heap.size (u8s p)) (w.heap.size + 1) 25 (u8s zeros)) := (R2.alloc _).rowOther _ _ (by have := R2.lt; omega); have N4 : Hid (Below (w.heap.size + 2) w2 ((w2.alloc (.cells (u8s zeros) 25)).setRow w2.heap.size (u8s p))) := below_setRow ((Below.refl _ _).alloc (by have := R2.lt; omega) _) (by have := R2.lt; omega) _; generalize ((w2.alloc (.cells (u8s zeros) 25)).setRow w2.heap.size (u8s p)) = w3 at *; have f13 := N2.frozen 13; have f15 := N2.frozen 15; have c13 : w3.cell? ⟨w2.heap.size, 13, none⟩ = some (.int .u8 (p.getD 13 0)) := by rw [N2.cell, u8s_at p 13 (by rw [hp.1]; omega)]
             have c15 : w3.cell? ⟨w2.heap.size, 15, none⟩ = some (.int .u8 (p.getD 15 0)) := by rw [N2.cell, u8s_at p 15 (by rw [hp.1]; omega)]
             have N5 : Hid (Row ((w3.setCell ⟨w2.heap.size, 13, none⟩ (.int .u8 1)).setCell ⟨w2.heap.size, 15, none⟩ (.int .u8 (k + 1))) w2.heap.size 25 (u8s (globL p k))) := ((N2.set 13 (.int .u8 1)).set 15 (.int .u8 (k + 1))).as (by rw [u8s_set, u8s_set]; rfl)
             have N6 : Hid (Row ((w3.setCell ⟨w2.heap.size, 13, none⟩ (.int .u8 1)).setCell ⟨w2.heap.size, 15, none⟩ (.int .u8 (k + 1))) (w.heap.size + 1) 25 (u8s zeros)) := (N3.out.other _ _ (by have := R2.lt; show w.heap.size + 1 ≠ w2.heap.size; omega)).other _ _ (by have := R2.lt; show w.heap.size + 1 ≠ w2.heap.size; omega)
             have N7 : Hid (Below (w.heap.size + 2) w2 ((w3.setCell ⟨w2.heap.size, 13, none⟩ (.int .u8 1)).setCell ⟨w2.heap.size, 15, none⟩ (.int .u8 (k + 1)))) := (N4.out.setCell (by have := R2.lt; show w.heap.size + 2 ≤ w2.heap.size; omega) _).setCell (by have := R2.lt; show w.heap.size + 2 ≤ w2.heap.size; omega) _)
          | (refine ld25 _ rfl rfl w2.heap.size 0 rfl (globL p k) hl N5.out.part ?_)
          | (refine st25 _ _ rfl rfl (w.heap.size + 1) (globL p k) hl rfl rfl 25 _ (by rfl) N6.out ?_))
        obtain ⟨e1, e2⟩ := HE.out
        refine bodyPost_ret (res25e rfl _ _ _ 25 (globL p k) hl (.int .i64 0) rfl rfl (N6.out.setRow _)) rfl ⟨by rw [e1, e2], ?_⟩
        exact below_setRow (((below_new2 w _ _).trans (B2.out.mono (by omega))).trans (N7.out.mono (by omega))) (by omega) _
      · have HE : Hid (globA p n k = zeros ∧ globE p n k = 1) := by simp [Hid, globA, globE, globB, hn]
        have H : Hid (rightB p n = true) := hr
        have hn' : (n != 64) = true := by simpa using hn
        clear hr hn
        go_enter Tryd.func17, Tryd.ntmps17
        go_wp2_with (first
          | (refine ld42 _ rfl rfl w.heap.size 0 rfl p n hp.1 hP.part ?_)
          | (go_at_call 25; refine (right_any p n _ hp).mono ?_; rintro e w2 ⟨rfl, hb2⟩; have B2 : Hid (Below (w.heap.size + 2) ((w.alloc (.cells (pfx p n) 42)).alloc (.cells (u8s zeros) 25)) w2) := ⟨hb2.os, hb2.tape, hb2.output, hb2.size, fun k hk => hb2.block k (by simpa using hk)⟩; clear hb2; have R2 := hR.below B2.out (by omega); have hbt := (hP.below B2.out (by omega)).bits hp.1; rw [H.out])
          | (refine st25 _ _ rfl rfl (w.heap.size + 1) zeros zeros_len rfl rfl 25 _ (by rfl) R2 ?_))
        obtain ⟨e1, e2⟩ := HE.out
        refine bodyPost_ret (res25e rfl _ _ _ 25 zeros zeros_len (.int .i64 1) rfl rfl (R2.setRow _)) rfl ⟨by rw [e1, e2], ?_⟩
        exact below_setRow ((below_new2 w _ _).trans (B2.out.mono (by omega))) (by omega) _
  · have HE : Hid (globA p n k = zeros ∧ globE p n k = 1) := by simp only [Hid, globA, globE, globB, decide_eq_false h0, Bool.false_and]; exact ⟨rfl, rfl⟩
    have c : decide (k < 0) = true ∨ (decide (k < 0) = false ∧ decide (64 ≤ k) = true) := by simp; omega
    clear h0
    rcases c with c | ⟨c, c'⟩
    all_goals
      go_enter Tryd.func17, Tryd.ntmps17
      go_wp2_with (refine st25 _ _ rfl rfl (w.heap.size + 1) zeros zeros_len rfl rfl 25 _ (by rfl) hR ?_)
      obtain ⟨e1, e2⟩ := HE.out
      refine bodyPost_ret (res25e rfl _ _ _ 25 zeros zeros_len (.int .i64 1) rfl rfl (hR.setRow _)) rfl ⟨by rw [e1, e2], ?_⟩
      exact below_setRow (below_new2 w _ _) (by omega) _

/-- The front of a link-local address. -/
def feL : List Int := [254, 128, 0, 0, 0, 0, 0, 0, 0, 0, 0, 0, 0, 0, 0, 0]
theorem adr_fe : Adr feL := ⟨rfl, by intro x hx; simp only [feL, List.mem_cons, List.not_mem_nil, or_false] at hx; omega⟩
theorem link_any (k : Int) (w : World) :
    Calls Tryd.prog 16 #[.int .i64 k] w fun e w' => e = .returned (.tuple #[.agg (u8s (globA feL 64 k)), .int .i64 (globE feL 64 k)]) ∧ Below w.heap.size w w' := by
  have hR : Row (w.alloc (.cells (u8s zeros) 25)) w.heap.size 25 (u8s zeros) := Row.new w 25 _
  have hz := zadr
  have hl : (globA feL 64 k).length = 16 := (adr_globA adr_fe).1
  go_enter Tryd.func16, Tryd.ntmps16
  go_wp2_with (first
    | (refine bd42 _ _ rfl rfl feL 64 rfl rfl rfl ?_)
    | (go_at_call 17; refine (global_any feL 64 k _ adr_fe).mono ?_; rintro e w2 ⟨rfl, hb2⟩; have B2 : Hid (Below (w.heap.size + 1) (w.alloc (.cells (u8s zeros) 25)) w2) := ⟨hb2.os, hb2.tape, hb2.output, hb2.size, fun k hk => hb2.block k (by simpa using hk)⟩; clear hb2; have R2 := hR.below B2.out (by omega))
    | (refine st25 _ _ rfl rfl w.heap.size (globA feL 64 k) hl rfl rfl 25 _ (by rfl) R2 ?_))
  refine bodyPost_ret (res25e rfl _ _ _ 25 (globA feL 64 k) hl (.int .i64 (globE feL 64 k)) rfl rfl (R2.setRow _)) rfl ⟨rfl, ?_⟩
  exact below_setRow ((below_new w _).trans (B2.out.mono (by omega))) (by omega) _
end Go.Proofs.YtoijfnkbjdekoaaDoor
