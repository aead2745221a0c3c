/- What addr's Right, Cut, All, Multicast, Global and Link answer. · What addr's Global, Link, Groups and Node answer. · rivuletlaw09's known. -/
import Derived.Test.YtbklpelikaapoaaGreatDoorM16
import Derived.Test.YtbklpelikaapoaaGreatDoorM15
namespace Go.Proofs.YtbklpelikaapoaaGreatDoor.Ad3
open Go.ChangeShapes Go.WideShapes Go.ChangeAt Go.RowKit
set_option linter.unusedVariables false
set_option linter.unusedSimpArgs false

theorem built42' (a0 a1 a2 a3 a4 a5 a6 a7 a8 a9 a10 a11 a12 a13 a14 a15 n : Int) : Tryz.prog.built 125 [(0, .agg (u8s [a0, a1, a2, a3, a4, a5, a6, a7, a8, a9, a10, a11, a12, a13, a14, a15])), (1, .int .i64 n)] = some (pfx [a0, a1, a2, a3, a4, a5, a6, a7, a8, a9, a10, a11, a12, a13, a14, a15] n) := by kernel_rfl
theorem built42 (l : List Int) (n : Int) (hl : l.length = 16) : Tryz.prog.built 125 [(0, .agg (u8s l)), (1, .int .i64 n)] = some (pfx l n) := by
  match l, hl with
  | [a0, a1, a2, a3, a4, a5, a6, a7, a8, a9, a10, a11, a12, a13, a14, a15], _ => exact built42' a0 a1 a2 a3 a4 a5 a6 a7 a8 a9 a10 a11 a12 a13 a14 a15 n
theorem wp_bd {P : Program} {ops : Array Oper} {rest : List Oper} {o : Oper} {a : Act} {w : World} {Q : Exit → Act → World → Prop} (t : TypeId) (parts : Array (Nat × Operand)) (ho : o.op = .build t parts) (hg : o.guard = none)
    (cs : Array Value) (hf : P.built t (parts.map fun (i, x) => (i, a.eval x)).toList = some cs)
    (h : wpList P ops Q rest (a.put o.dst (.agg cs)) w) : wpList P ops Q (o :: rest) a w :=
  wpList_build hg t parts ho (by rw [hf]; rfl) (by rw [hf]; exact h)
theorem bd42 {ops : Array Oper} {rest : List Oper} {o : Oper} {a : Act} {w : World} {Q : Exit → Act → World → Prop} (x y : Operand) (ho : o.op = .build 125 #[(0, x), (1, y)]) (hg : o.guard = none)
    (l : List Int) (n : Int) (hl : l.length = 16) (hx : a.eval x = .agg (u8s l)) (hy : a.eval y = .int .i64 n)
    (h : wpList Tryz.prog ops Q rest (a.put o.dst (.agg (pfx l n))) w) : wpList Tryz.prog ops Q (o :: rest) a w :=
  wp_bd 125 #[(0, x), (1, y)] ho hg (pfx l n) (by simp only [List.map_toArray, List.map_cons, List.map_nil, hx, hy]; exact built42 l n hl) h

/-- Is it a prefix? -/
def rightB (p : List Int) (n : Int) : Bool := hasB p n p
def zeros : List Int := List.replicate 16 0
theorem zeros_len : zeros.length = 16 := rfl
theorem adr_zeros : Adr zeros := ⟨rfl, by intro x hx; simp only [zeros, List.mem_replicate] at hx; omega⟩

theorem right_any (p : List Int) (n : Int) (w : World) (hp : Adr p) :
    Calls Tryz.prog 102 #[.agg (pfx p n)] w fun e w' => e = .returned (.bool (rightB p n)) ∧ Below w.heap.size w w' := by
  have hR : Row (w.alloc (.cells (pfx p n) 125)) w.heap.size 125 (pfx p n) := Row.new w 125 _
  go_enter Tryz.func102, Tryz.ntmps102
  go_wp2_with (first
    | (refine ld42 _ rfl rfl w.heap.size 0 rfl p n hp.1 hR.part ?_)
    | (refine ld25 _ rfl rfl w.heap.size 0 rfl p hp.1 hR.pre ?_)
    | (go_at_call 130; refine (has_any p n p _ hp hp).mono ?_; rintro e w2 ⟨rfl, hb2⟩))
  go_ret
  exact ⟨rfl, (below_new w _).trans (hb2.mono (by simp))⟩

/-- What Cut answers. -/
def cutA (bits : Int) (l : List Int) : List Int := if bitsB bits then cutL bits l else zeros
theorem zadr : (#[.int .u8 0, .int .u8 0, .int .u8 0, .int .u8 0, .int .u8 0, .int .u8 0, .int .u8 0, .int .u8 0, .int .u8 0, .int .u8 0, .int .u8 0, .int .u8 0, .int .u8 0, .int .u8 0, .int .u8 0, .int .u8 0] : Array Value) = u8s zeros := rfl

def allL : List Int := [255, 2, 0, 0, 0, 0, 0, 0, 0, 0, 0, 0, 0, 0, 0, 26]
theorem all_any (w : World) : Calls Tryz.prog 41 #[] w fun e w' => e = .returned (.agg (u8s allL)) ∧ Below w.heap.size w w' := by
  have hR : Row (w.alloc (.cells (u8s zeros) 33)) w.heap.size 33 (u8s zeros) := Row.new w 33 _
  have hz := zadr
  go_enter Tryz.func41, Tryz.ntmps41
  go_wp2_with (refine st25 _ _ rfl rfl w.heap.size allL rfl rfl rfl 33 _ (by rfl) hR ?_)
  refine bodyPost_ret (res25 rfl _ _ _ 33 allL rfl rfl (hR.setRow _)) rfl ⟨rfl, ?_⟩
  exact below_setRow (below_new w _) (Nat.le_refl _) _

end Go.Proofs.YtbklpelikaapoaaGreatDoor.Ad3

namespace Go.Proofs.YtbklpelikaapoaaGreatDoor.Ad3
open Go.ChangeShapes Go.WideShapes Go.ChangeAt Go.RowKit
set_option linter.unusedVariables false
set_option linter.unusedSimpArgs false

/-- May Global answer an address? -/
def globB (p : List Int) (n : Int) (k : Int) : Bool := decide (0 ≤ k ∧ k < 64) && rightB p n && decide (n = 64)
def globL (p : List Int) (k : Int) : List Int := (p.set 13 1).set 15 (k + 1)
def globA (p : List Int) (n k : Int) : List Int := if globB p n k then globL p k else zeros
def globE (p : List Int) (n k : Int) : Int := if globB p n k then 0 else 1
theorem globL_len (p : List Int) (k : Int) : (globL p k).length = p.length := by simp [globL]
theorem adr_set {l : List Int} (h : Adr l) (j : Nat) (x : Int) (hx : 0 ≤ x ∧ x < 256) : Adr (l.set j x) :=
  ⟨by rw [List.length_set]; exact h.1, fun y hy => by rcases List.mem_or_eq_of_mem_set hy with h' | rfl; exact h.2 y h'; exact hx⟩
theorem adr_globA {p : List Int} {n k : Int} (h : Adr p) : Adr (globA p n k) := by
  unfold globA
  split
  · rename_i hb
    simp only [globB, Bool.and_eq_true, decide_eq_true_eq] at hb
    exact adr_set (adr_set h 13 1 (by omega)) 15 _ (by omega)
  · exact adr_zeros

set_option maxHeartbeats 800000 in
theorem global_any (p : List Int) (n k : Int) (w : World) (hp : Adr p) :
    Calls Tryz.prog 64 #[.agg (pfx p n), .int .i64 k] w fun e w' => e = .returned (.tuple #[.agg (u8s (globA p n k)), .int .i64 (globE p n k)]) ∧ Below w.heap.size w w' := by
  have hP : Row ((w.alloc (.cells (pfx p n) 125)).alloc (.cells (u8s zeros) 33)) w.heap.size 125 (pfx p n) := (Row.new w 125 _).alloc _
  have hR : Row ((w.alloc (.cells (pfx p n) 125)).alloc (.cells (u8s zeros) 33)) (w.heap.size + 1) 33 (u8s zeros) := by simpa using Row.new (w.alloc (.cells (pfx p n) 125)) 33 (u8s zeros)
  have hz := zadr
  by_cases h0 : 0 ≤ k ∧ k < 64
  · have k0 : decide (k < 0) = false := by simp; omega
    have k1 : decide (64 ≤ k) = false := by simp; omega
    cases hr : rightB p n
    · have HE : Hid (globA p n k = zeros ∧ globE p n k = 1) := by simp [Hid, globA, globE, globB, hr]
      have H : Hid (rightB p n = false) := hr
      clear hr
      go_enter Tryz.func64, Tryz.ntmps64
      go_wp2_with (first
        | (refine ld42 _ rfl rfl w.heap.size 0 rfl p n hp.1 hP.part ?_)
        | (go_at_call 102; refine (right_any p n _ hp).mono ?_; rintro e w2 ⟨rfl, hb2⟩; have B2 : Hid (Below (w.heap.size + 2) ((w.alloc (.cells (pfx p n) 125)).alloc (.cells (u8s zeros) 33)) w2) := ⟨hb2.os, hb2.tape, hb2.output, hb2.size, fun k hk => hb2.block k (by simpa using hk)⟩; clear hb2; have R2 := hR.below B2.out (by omega); rw [H.out])
        | (refine st25 _ _ rfl rfl (w.heap.size + 1) zeros zeros_len rfl rfl 33 _ (by rfl) R2 ?_))
      obtain ⟨e1, e2⟩ := HE.out
      refine bodyPost_ret (res25e rfl _ _ _ 33 zeros zeros_len (.int .i64 1) rfl rfl (R2.setRow _)) rfl ⟨by rw [e1, e2], ?_⟩
      exact below_setRow ((below_new2 w _ _).trans (B2.out.mono (by omega))) (by omega) _
    · by_cases hn : n = 64
      · have HE : Hid (globA p n k = globL p k ∧ globE p n k = 0) := by subst hn; simp [Hid, globA, globE, globB, hr, h0]
        have H : Hid (rightB p n = true) := hr
        have hl : (globL p k).length = 16 := by rw [globL_len]; exact hp.1
        have hk8 : (k + 1) % 256 = k + 1 := by omega
        clear hr
        subst hn
        go_enter Tryz.func64, Tryz.ntmps64
        go_wp2_with (first
          | (refine ld42 _ rfl rfl w.heap.size 0 rfl p 64 hp.1 hP.part ?_)
          | (go_at_call 102; refine (right_any p 64 _ hp).mono ?_; rintro e w2 ⟨rfl, hb2⟩; have B2 : Hid (Below (w.heap.size + 2) ((w.alloc (.cells (pfx p 64) 125)).alloc (.cells (u8s zeros) 33)) w2) := ⟨hb2.os, hb2.tape, hb2.output, hb2.size, fun k hk => hb2.block k (by simpa using hk)⟩; clear hb2; have R2 := hR.below B2.out (by omega); have P2 := hP.below B2.out (by omega); have hbt := P2.bits hp.1; rw [H.out])
          | (refine ld25 _ rfl rfl w.heap.size 0 rfl p hp.1 P2.pre ?_)
          | (refine st25 _ _ rfl rfl w2.heap.size p hp.1 rfl rfl 33 (u8s zeros) (by rfl) (Row.new w2 33 (u8s zeros)) ?_; have N2 : Row ((w2.alloc (.cells (u8s zeros) 33)).setRow w2.heap.size (u8s p)) w2.heap.size 33 (u8s p) := (Row.new w2 33 (u8s zeros)).setRow _; have N3 : Hid (Row ((w2.alloc (.cells (u8s zeros) 33)).setRow w2.heap.size (u8s p)) (w.heap.size + 1) 33 (u8s zeros)) := (R2.alloc _).rowOther _ _ (by have := R2.lt; omega); have N4 : Hid (Below (w.heap.size + 2) w2 ((w2.alloc (.cells (u8s zeros) 33)).setRow w2.heap.size (u8s p))) := below_setRow ((Below.refl _ _).alloc (by have := R2.lt; omega) _) (by have := R2.lt; omega) _; generalize ((w2.alloc (.cells (u8s zeros) 33)).setRow w2.heap.size (u8s p)) = w3 at *; have f13 := N2.frozen 13; have f15 := N2.frozen 15; have c13 : w3.cell? ⟨w2.heap.size, 13, none⟩ = some (.int .u8 (p.getD 13 0)) := by rw [N2.cell, u8s_at p 13 (by rw [hp.1]; omega)]
             have c15 : w3.cell? ⟨w2.heap.size, 15, none⟩ = some (.int .u8 (p.getD 15 0)) := by rw [N2.cell, u8s_at p 15 (by rw [hp.1]; omega)]
             have N5 : Hid (Row ((w3.setCell ⟨w2.heap.size, 13, none⟩ (.int .u8 1)).setCell ⟨w2.heap.size, 15, none⟩ (.int .u8 (k + 1))) w2.heap.size 33 (u8s (globL p k))) := ((N2.set 13 (.int .u8 1)).set 15 (.int .u8 (k + 1))).as (by rw [u8s_set, u8s_set]; rfl)
             have N6 : Hid (Row ((w3.setCell ⟨w2.heap.size, 13, none⟩ (.int .u8 1)).setCell ⟨w2.heap.size, 15, none⟩ (.int .u8 (k + 1))) (w.heap.size + 1) 33 (u8s zeros)) := (N3.out.other _ _ (by have := R2.lt; show w.heap.size + 1 ≠ w2.heap.size; omega)).other _ _ (by have := R2.lt; show w.heap.size + 1 ≠ w2.heap.size; omega)
             have N7 : Hid (Below (w.heap.size + 2) w2 ((w3.setCell ⟨w2.heap.size, 13, none⟩ (.int .u8 1)).setCell ⟨w2.heap.size, 15, none⟩ (.int .u8 (k + 1)))) := (N4.out.setCell (by have := R2.lt; show w.heap.size + 2 ≤ w2.heap.size; omega) _).setCell (by have := R2.lt; show w.heap.size + 2 ≤ w2.heap.size; omega) _)
          | (refine ld25 _ rfl rfl w2.heap.size 0 rfl (globL p k) hl N5.out.part ?_)
          | (refine st25 _ _ rfl rfl (w.heap.size + 1) (globL p k) hl rfl rfl 33 _ (by rfl) N6.out ?_))
        obtain ⟨e1, e2⟩ := HE.out
        refine bodyPost_ret (res25e rfl _ _ _ 33 (globL p k) hl (.int .i64 0) rfl rfl (N6.out.setRow _)) rfl ⟨by rw [e1, e2], ?_⟩
        exact below_setRow (((below_new2 w _ _).trans (B2.out.mono (by omega))).trans (N7.out.mono (by omega))) (by omega) _
      · have HE : Hid (globA p n k = zeros ∧ globE p n k = 1) := by simp [Hid, globA, globE, globB, hn]
        have H : Hid (rightB p n = true) := hr
        have hn' : (n != 64) = true := by simpa using hn
        clear hr hn
        go_enter Tryz.func64, Tryz.ntmps64
        go_wp2_with (first
          | (refine ld42 _ rfl rfl w.heap.size 0 rfl p n hp.1 hP.part ?_)
          | (go_at_call 102; refine (right_any p n _ hp).mono ?_; rintro e w2 ⟨rfl, hb2⟩; have B2 : Hid (Below (w.heap.size + 2) ((w.alloc (.cells (pfx p n) 125)).alloc (.cells (u8s zeros) 33)) w2) := ⟨hb2.os, hb2.tape, hb2.output, hb2.size, fun k hk => hb2.block k (by simpa using hk)⟩; clear hb2; have R2 := hR.below B2.out (by omega); have hbt := (hP.below B2.out (by omega)).bits hp.1; rw [H.out])
          | (refine st25 _ _ rfl rfl (w.heap.size + 1) zeros zeros_len rfl rfl 33 _ (by rfl) R2 ?_))
        obtain ⟨e1, e2⟩ := HE.out
        refine bodyPost_ret (res25e rfl _ _ _ 33 zeros zeros_len (.int .i64 1) rfl rfl (R2.setRow _)) rfl ⟨by rw [e1, e2], ?_⟩
        exact below_setRow ((below_new2 w _ _).trans (B2.out.mono (by omega))) (by omega) _
  · have HE : Hid (globA p n k = zeros ∧ globE p n k = 1) := by simp only [Hid, globA, globE, globB, decide_eq_false h0, Bool.false_and]; exact ⟨rfl, rfl⟩
    have c : decide (k < 0) = true ∨ (decide (k < 0) = false ∧ decide (64 ≤ k) = true) := by simp; omega
    clear h0
    rcases c with c | ⟨c, c'⟩
    all_goals
      go_enter Tryz.func64, Tryz.ntmps64
      go_wp2_with (refine st25 _ _ rfl rfl (w.heap.size + 1) zeros zeros_len rfl rfl 33 _ (by rfl) hR ?_)
      obtain ⟨e1, e2⟩ := HE.out
      refine bodyPost_ret (res25e rfl _ _ _ 33 zeros zeros_len (.int .i64 1) rfl rfl (hR.setRow _)) rfl ⟨by rw [e1, e2], ?_⟩
      exact below_setRow (below_new2 w _ _) (by omega) _

/-- The front of a link-local address. -/
def feL : List Int := [254, 128, 0, 0, 0, 0, 0, 0, 0, 0, 0, 0, 0, 0, 0, 0]
theorem adr_fe : Adr feL := ⟨rfl, by intro x hx; simp only [feL, List.mem_cons, List.not_mem_nil, or_false] at hx; omega⟩
theorem link_any (k : Int) (w : World) :
    Calls Tryz.prog 40 #[.int .i64 k] w fun e w' => e = .returned (.tuple #[.agg (u8s (globA feL 64 k)), .int .i64 (globE feL 64 k)]) ∧ Below w.heap.size w w' := by
  have hR : Row (w.alloc (.cells (u8s zeros) 33)) w.heap.size 33 (u8s zeros) := Row.new w 33 _
  have hz := zadr
  have hl : (globA feL 64 k).length = 16 := (adr_globA adr_fe).1
  go_enter Tryz.func40, Tryz.ntmps40
  go_wp2_with (first
    | (refine bd42 _ _ rfl rfl feL 64 rfl rfl rfl ?_)
    | (go_at_call 64; refine (global_any feL 64 k _ adr_fe).mono ?_; rintro e w2 ⟨rfl, hb2⟩; have B2 : Hid (Below (w.heap.size + 1) (w.alloc (.cells (u8s zeros) 33)) w2) := ⟨hb2.os, hb2.tape, hb2.output, hb2.size, fun k hk => hb2.block k (by simpa using hk)⟩; clear hb2; have R2 := hR.below B2.out (by omega))
    | (refine st25 _ _ rfl rfl w.heap.size (globA feL 64 k) hl rfl rfl 33 _ (by rfl) R2 ?_))
  refine bodyPost_ret (res25e rfl _ _ _ 33 (globA feL 64 k) hl (.int .i64 (globE feL 64 k)) rfl rfl (R2.setRow _)) rfl ⟨rfl, ?_⟩
  exact below_setRow ((below_new w _).trans (B2.out.mono (by omega))) (by omega) _
end Go.Proofs.YtbklpelikaapoaaGreatDoor.Ad3

namespace Go.Proofs.YtbklpelikaapoaaGreatDoor
open Go.ChangeShapes Go.WideShapes Go.ChangeAt Go.RowKit Go.Deep
set_option linter.unusedVariables false
set_option linter.unusedSimpArgs false

theorem ybd_any {ops : Array Oper} {S : World → Prop} {op : Oper} {a : Act} (hw : Region.wanted op (yielded ops a.tmps) = true) (t : TypeId) (xs : Array (Nat × Operand)) (ho : op.op = .build t xs) (cs : Array Value)
    (hf : Tryz.prog.built t (xs.map fun (i, x) => (i, a.eval x)).toList = some cs) : YieldsIf Tryz.prog ops S op (.agg cs) a :=
  .inl ⟨hw, fun w _ => by
    unfold execOp
    simp only [ho, Sem.run_bind, run_build w t _ _ hf, Result.andThen_ok]
    rfl⟩
/-- The chapter's example. -/
def LA : List Int := [254, 128, 0, 0, 0, 0, 0, 0, 0, 0, 0, 0, 0, 1, 0, 1]
def MA : List Int := [255, 2, 0, 0, 0, 0, 0, 0, 0, 0, 0, 0, 0, 0, 0, 26]
def kP : Pp := ⟨⟨0, 0, 0, 0, 255, LA, MA⟩, false, Pm.zero, Ho.zero, 0, []⟩
theorem adrLA : Adr LA := ⟨rfl, by intro x hx; simp only [LA, List.mem_cons, List.not_mem_nil, or_false] at hx; omega⟩
theorem adrMA : Adr MA := ⟨rfl, by intro x hx; simp only [MA, List.mem_cons, List.not_mem_nil, or_false] at hx; omega⟩
theorem kP_enc : pgE kP = 0 ∧ (pgL kP).length = 46 ∧ (pgL kP).getD 45 0 = 0 := ⟨by kernel_rfl, by kernel_rfl, by kernel_rfl⟩
theorem kP_oct : Oct (eL kP.m) := by
  have e : eL kP.m = [0, 0] := by kernel_rfl
  rw [e]; intro x hx; simp at hx; omega
theorem kP_dec : dgE (pgL kP) = 0 ∧ Oct (pgL kP) ∧ dgE ((pgL kP).set 45 1) = 5 := by
  have hh : kP.h.ok := ⟨adrLA, adrMA⟩
  obtain ⟨h1, _, h3, _⟩ := pg_dg kP hh kP_oct (by rfl) (fun o ho => by cases ho) (fun x hx => by cases hx) kP_enc.1
  exact ⟨h1, h3, bend_dg kP hh kP_oct rfl kP_enc.1 45 1 1 (by decide) (by rw [kP_enc.2.1]; decide) (.inl rfl) (.inl (by rw [kP_enc.2.2]; rfl)) (by decide)⟩
theorem link0 : Ad3.globA Ad3.feL 64 0 = LA ∧ Ad3.globE Ad3.feL 64 0 = 0 := ⟨by kernel_rfl, by kernel_rfl⟩
theorem all0 : Ad3.allL = MA := by kernel_rfl
theorem sml0 : Sml Mv.zero.L := fun o ho => by cases ho
theorem u8s_at5 (l : List Int) (j : Nat) (h : j < l.length) : (u8s l)[j]? = some (.int .u8 (l.getD j 0)) := by simp [u8s, h]
theorem u8s_set5 (l : List Int) (j : Nat) (x : Int) : (u8s l).set j (.int .u8 x) = u8s (l.set j x) := by simp [u8s, List.map_set]
theorem oct_set5 {l : List Int} (h : Oct l) (j : Nat) (x : Int) (hx : 0 ≤ x ∧ x < 256) : Oct (l.set j x) := by
  intro y hy
  rcases List.mem_or_eq_of_mem_set hy with h' | rfl
  · exact h y h'
  · exact hx
theorem owns_lies' {w : World} {b n cap : Nat} {a : Option Addr} {l : List Int} (h : w.ownsRow b 5 1 (.slice a n cap) n (u8s l)) (hn : l.length = n) : Lies .u8 w a n cap l := by
  subst hn
  obtain ⟨a', cap', e, hl, _⟩ := owns_lies h
  cases e
  exact hl
set_option maxRecDepth 100000 in
set_option maxHeartbeats 3200000 in
theorem dgKnown_any {B : Nat} (w : World) (hV : CV B w) : Calls Tryz.prog 15 #[] w fun e w' => e = .returned (.bool true) ∧ Below w.heap.size w w' := by
  have hz := zpkP
  have hza := zarr
  have HV := hid hV
  clear hV
  go_enter Tryz.func15, Tryz.ntmps15
  go_wp2_with fail
  refine (Ad3.link_any 0 _).mono ?_
  rintro e w1 ⟨rfl, hb1⟩
  rw [link0.1, link0.2, show Ad3.u8s LA = arr LA from rfl]
  have R1 : Hid (Row ((w1.alloc (.cells (arr zeros) 33)).setRow w1.heap.size (arr LA)) w1.heap.size 33 (arr LA)) := hid ((Row.new w1 33 _).setRow _)
  have hb2 : Below w1.heap.size w1 ((w1.alloc (.cells (arr zeros) 33)).setRow w1.heap.size (arr LA)) := below_setRow' (balloc (Below.refl w1.heap.size w1) (.cells (arr zeros) 33)) (Nat.le_refl _) _
  have V1 := hid ((HV.out.below hb1).below hb2)
  have B1 := hid (bthen hb1 hb2)
  clear hb1 hb2 HV
  go_upto_region 2 with (refine st26 _ _ rfl rfl w1.heap.size LA adrLA.1 rfl rfl 33 zeros rfl (Row.new w1 33 _) ?_)
  generalize (w1.alloc (.cells (arr zeros) 33)).setRow w1.heap.size (arr LA) = w2 at *
  generalize w1.heap.size = g0 at *
  refine wp_region_held_drew (S := fun w' => Hid (Row w' g0 33 (arr LA))) (by kernel_rfl) ?_ (fun hHeld => ?_)
  · exact R1
  have V2 : Hid (CV B w2.drew) := hid (V1.out.below (show Below w2.heap.size w2 w2.drew from bdrew (Below.refl _ _) 1))
  have R2 : Hid (Row w2.drew g0 33 (arr LA)) := R1
  have B2 : Hid (Below w.heap.size w w2.drew) := hid (B1.out.trans ⟨rfl, rfl, rfl, Nat.le_refl _, fun _ _ => rfl⟩)
  generalize w2.drew = w3 at *
  clear R1 V1 B1
  refine wpAnyH_take (i := 0) (oi := _) (v := .agg (arr LA)) rfl (by kernel_rfl) (by kernel_rfl) (by kernel_rfl) (fun _ _ _ h => h) (yld41 (by rfl) _ rfl g0 0 rfl LA adrLA (fun w h => h.out.part)) (by assumption) ?_
  try simp only [List.getElem_toArray, List.getElem_cons_zero, List.getElem_cons_succ, Act.put, List.setIfInBounds_toArray, List.set_cons_zero, List.set_cons_succ]
  refine wpAnyH_take (i := 2) (oi := _) (v := .agg Mv.zero.cs) rfl (by kernel_rfl) (by kernel_rfl) (by kernel_rfl) (fun _ _ _ h => h) (ybd_any (by rfl) 38 #[] rfl Mv.zero.cs (by simp only [List.map_toArray, List.map_nil]; exact m29.bare)) (by assumption) ?_
  try simp only [List.getElem_toArray, List.getElem_cons_zero, List.getElem_cons_succ, Act.put, List.setIfInBounds_toArray, List.set_cons_zero, List.set_cons_succ]
  refine wpAnyH_ready (rs := [1]) (by kernel_rfl) (by simp) ?_
  refine AllReadyH.cons (o := _) rfl (fun K hK => ?_) AllReadyH.nil
  go_simp
  refine (Ad3.all_any _).mono ?_
  rintro e w4 ⟨rfl, hb⟩
  rw [all0, show Ad3.u8s MA = arr MA from rfl]
  have V4 := hid (V2.out.below hb)
  have R4 := hid (R2.out.below hb)
  have B4 := hid (bthen B2.out hb)
  clear hb V2 R2 B2
  go_wp2_with fail
  refine hK.out _ _ R4 (fun hHeld => ?_)
  clear hK K
  try simp only [List.getElem_toArray, List.getElem_cons_zero, List.getElem_cons_succ, Act.put, List.setIfInBounds_toArray, List.set_cons_zero, List.set_cons_succ]
  refine wpAnyH_ready (rs := [3]) (by kernel_rfl) (by simp) ?_
  refine AllReadyH.cons (o := _) rfl (fun K hK => ?_) AllReadyH.nil
  go_simp
  refine (dgControl_any LA MA adrLA adrMA Mv.zero _ (Mv.zero_ok _) (by decide) sml0).mono ?_
  rintro e w5 ⟨⟨m, rfl, hon, hp, hC⟩, hb⟩
  have V5 := hid (V4.out.below hb)
  have R5 := hid (R4.out.below hb)
  have B5 := hid (bthen B4.out hb)
  have C5 := hid hC.out
  have HP := hid hp.out
  have HM : m.on ≤ 1000 := by rw [hon]; decide
  clear hb hC hp hon V4 R4 B4
  generalize hq : (⟨⟨0, 0, 0, 0, 255, LA, MA⟩, false, m, Ho.zero, 0, Txt.none⟩ : Pv) = q at *
  have HQ : Hid (q.p = kP) := by rw [Hid, ← hq]; show (⟨⟨0, 0, 0, 0, 255, LA, MA⟩, false, m.p, Ho.zero, 0, []⟩ : Pp) = kP; rw [HP.out]; rfl
  have HOK : Hid (q.ok w5) := by rw [Hid, ← hq]; exact ⟨⟨adrLA, adrMA⟩, C5.out.ok, Txt.none_ok w5⟩
  have HON : Hid (q.m.on ≤ 1000) := by rw [Hid, ← hq]; exact HM
  clear hq HM HP C5
  go_wp2_with fail
  refine hK.out _ _ R5 (fun hHeld => ?_)
  clear hK K
  try simp only [List.getElem_toArray, List.getElem_cons_zero, List.getElem_cons_succ, Act.put, List.setIfInBounds_toArray, List.set_cons_zero, List.set_cons_succ]
  refine wpAnyH_ready (rs := [4]) (by kernel_rfl) (by simp) ?_
  refine AllReadyH.cons (o := _) rfl (fun K hK => ?_) AllReadyH.nil
  go_simp
  refine (dgEncode_any q _ HOK.out V5.out HON.out).mono ?_
  rintro e w6 ⟨⟨v, rfl, hown⟩, hb⟩
  rw [HQ.out, kP_enc.1]
  rw [HQ.out, kP_enc.2.1] at hown
  obtain ⟨va, vc, rfl⟩ := owns_len hown.out
  obtain ⟨g6, rfl, hg6, _⟩ := own_block hown.out (by decide)
  have V6 := hid (V5.out.below hb)
  have R6 := hid (R5.out.below hb)
  have B6 := hid (bthen B5.out hb)
  have O6 := hid hown.out
  have HG6 : Hid (w.heap.size ≤ g6 ∧ B ≤ g6) := hid ⟨Nat.le_trans B5.out.size hg6, Nat.le_trans V5.out.le hg6⟩
  clear hb hown hg6 HOK HON V5 R5 B5
  go_wp2_with fail
  refine hK.out _ _ R6 (fun hHeld => ?_)
  clear hK K
  try simp only [List.getElem_toArray, List.getElem_cons_zero, List.getElem_cons_succ, Act.put, List.setIfInBounds_toArray, List.set_cons_zero, List.set_cons_succ]
  refine wpAnyH_take (i := 5) (oi := _) (v := ?vz5) rfl (by kernel_rfl) (by kernel_rfl) (by kernel_rfl) (fun _ _ _ h => h) (Or.inl ⟨by rfl, ?hyz5⟩) (by assumption) ?restz5
  case hyz5 => (intro w hSw; (try dsimp only at hSw); go_split_ands; go_simp; try (with_reducible rfl))
  try simp only [List.getElem_toArray, List.getElem_cons_zero, List.getElem_cons_succ, Act.put, List.setIfInBounds_toArray, List.set_cons_zero, List.set_cons_succ]
  refine wpAnyH_take (i := 6) (oi := _) (v := ?vz6) rfl (by kernel_rfl) (by kernel_rfl) (by kernel_rfl) (fun _ _ _ h => h) (Or.inl ⟨by rfl, ?hyz6⟩) (by assumption) ?restz6
  case hyz6 => (intro w hSw; (try dsimp only at hSw); go_split_ands; go_simp; try (with_reducible rfl))
  try simp only [List.getElem_toArray, List.getElem_cons_zero, List.getElem_cons_succ, Act.put, List.setIfInBounds_toArray, List.set_cons_zero, List.set_cons_succ]
  refine wpAnyH_take (i := 7) (oi := _) (v := ?vz7) rfl (by kernel_rfl) (by kernel_rfl) (by kernel_rfl) (fun _ _ _ h => h) (Or.inl ⟨by rfl, ?hyz7⟩) (by assumption) ?restz7
  case hyz7 => (intro w hSw; (try dsimp only at hSw); go_split_ands; go_simp; try (with_reducible rfl))
  try simp only [List.getElem_toArray, List.getElem_cons_zero, List.getElem_cons_succ, Act.put, List.setIfInBounds_toArray, List.set_cons_zero, List.set_cons_succ]
  refine wpAnyH_take (i := 8) (oi := _) (v := ?vz8) rfl (by kernel_rfl) (by kernel_rfl) (by kernel_rfl) (fun _ _ _ h => h) (Or.inl ⟨by rfl, ?hyz8⟩) (by assumption) ?restz8
  case hyz8 => (intro w hSw; (try dsimp only at hSw); go_split_ands; go_simp; try (with_reducible rfl))
  try simp only [List.getElem_toArray, List.getElem_cons_zero, List.getElem_cons_succ, Act.put, List.setIfInBounds_toArray, List.set_cons_zero, List.set_cons_succ]
  refine wpAnyH_take (i := 9) (oi := _) (v := ?vz9) rfl (by kernel_rfl) (by kernel_rfl) (by kernel_rfl) (fun _ _ _ h => h) (Or.inl ⟨by rfl, ?hyz9⟩) (by assumption) ?restz9
  case hyz9 => (intro w hSw; (try dsimp only at hSw); go_split_ands; go_simp; try (with_reducible rfl))
  try simp only [List.getElem_toArray, List.getElem_cons_zero, List.getElem_cons_succ, Act.put, List.setIfInBounds_toArray, List.set_cons_zero, List.set_cons_succ]
  refine wpAnyH_done (by kernel_rfl) ?_ _
  have HL : Hid (Oct (pgL kP) ∧ dgE (pgL kP) = 0 ∧ dgE ((pgL kP).set 45 1) = 5 ∧ (pgL kP).getD 45 0 = 0 ∧ (pgL kP).length = 46) := hid ⟨kP_dec.2.1, kP_dec.1, kP_dec.2.2, kP_enc.2.2, kP_enc.2.1⟩
  generalize pgL kP = l at *
  clear R6
  go_wp2_with fail
  refine (dgDecode_any _ 46 _ l _ (owns_lies' O6.out HL.out.2.2.2.2) HL.out.1 V6.out).mono ?_
  rintro e w7 ⟨p7, rfl, hp7, _, hb7⟩
  rw [HL.out.2.1]
  have K7 := hid hp7.out.ok.fit
  have b8 := layP_below w7 41 p7
  have V8 := hid ((V6.out.below hb7.out).below b8)
  have B8 := hid (bthen (bthen B6.out hb7.out) b8)
  have O8 := hid (own_below (own_below O6.out hb7.out) b8)
  clear hp7 hb7 b8 V6 B6 O6
  go_upto_region 6 with (refine stP ptP _ _ rfl rfl w7.heap.size p7 K7.out rfl rfl 41 Pv.zero Pv.zero_fit (Row.new w7 41 _) ?_)
  generalize (w7.alloc (.cells Pv.zero.cs 41)).setRow w7.heap.size p7.cs = w8 at *
  have cc : w8.cell? ⟨g6, 45, none⟩ = some (.int .u8 0) := own_cellAt O8.out (by rw [u8s_at5 l 45 (by rw [HL.out.2.2.2.2]; decide), HL.out.2.2.2.1])
  have cf := own_soft O8.out 45
  have hbx : bits BinOp.xor IntKind.u8 0 1 = 1 := by kernel_rfl
  have O9 : Hid ((w8.setCell ⟨g6, 45, none⟩ (.int .u8 1)).ownsRow w5.heap.size 5 1 (.slice (some ⟨g6, 0, none⟩) 46 vc) 46 (u8s (l.set 45 1))) := by
    have := own_cell O8.out 45 (.int .u8 1) (by decide)
    rwa [u8s_set5] at this
  have V9 := hid (V8.out.grown (grownBy_setCell w8 g6 45 (.int .u8 1)) HG6.out.2)
  have B9 := hid (bset 45 (.int .u8 1) B8.out HG6.out.1)
  go_upto_region 7 with fail
  generalize w8.setCell ⟨g6, 45, none⟩ (.int .u8 1) = w9 at *
  clear cc cf V8 B8 O8
  go_wp2_with fail
  refine (dgDecode_any _ 46 _ (l.set 45 1) _ (owns_lies' O9.out (by rw [List.length_set]; exact HL.out.2.2.2.2)) (oct_set5 HL.out.1 45 1 (by decide)) V9.out).mono ?_
  rintro e wA ⟨pA, rfl, hpA, _, hbA⟩
  rw [HL.out.2.2.1]
  have KA := hid hpA.out.ok.fit
  have BA := hid (bthen (bthen B9.out hbA.out) (layP_below wA 41 pA))
  clear hpA hbA
  go_wp2_with (refine stP ptP _ _ rfl rfl wA.heap.size pA KA.out rfl rfl 41 Pv.zero Pv.zero_fit (Row.new wA 41 _) ?_)
  go_ret
  exact ⟨rfl, BA.out⟩
end Go.Proofs.YtbklpelikaapoaaGreatDoor
