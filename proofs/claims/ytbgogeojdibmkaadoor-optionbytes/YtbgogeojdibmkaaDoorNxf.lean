/- Reading: next. -/
import Derived.Test.YtbgogeojdibmkaaDoorNxb
namespace Go.Proofs.YtbgogeojdibmkaaDoor
open Go.ChangeShapes Go.WideShapes Go.ChangeAt Go.RowKit Go.Deep
set_option linter.unusedVariables false
set_option linter.unusedSimpArgs false

theorem wpl_id2 {P : Program} {ops : Array Oper} {Q : Exit → Act → World → Prop} {o : Oper} {rest : List Oper} {a : Act} {w : World} (h : wpList P ops Q (o :: rest) a w) : wpList P ops Q (o :: rest) a w := h
theorem take_1 (w : World) (c : Nat) (a : Option Addr) (len cap at_ : Nat) (l : List Int) (h : CurAt w c a len cap l at_ 0) (hn : at_ < len) :
    Calls Tryd.prog 51 #[.pointer (some ⟨c, 0, none⟩), .int .i64 1] w fun e w' => e = .returned (.int .i64 (nxK (l.drop at_))) ∧
      CurAt w' c a len cap l (at_ + 1) 0 ∧ w.grownBy w' (some c) ∧ w'.heap.size = w.heap.size := take_n w c a len cap at_ l 1 h (by decide) (by omega)
set_option maxRecDepth 100000 in
set_option maxHeartbeats 1600000 in
theorem next_full {B base : Nat} (w w0 : World) (p c : Nat) (a : Option Addr) (len cap : Nat) (l : List Int) (at_ : Nat) (gv : Value) (L : List Ov) (h : NxAt base w w0 p c a len cap l at_ 0 gv L) (hV : Vars B w0) (hB : B ≤ base) (hat : at_ < len) (hL : L.length ≤ 16) (h16 : L.length = 16) :
    Calls Tryd.prog 35 #[.pointer (some ⟨p, 0, none⟩)] w0 fun e w' => e = .returned (.tuple #[]) ∧ Hid (NxOk base w w' p c a len cap l at_ L) := by
  obtain ⟨ga, gc, rfl⟩ := owns_len h.got
  have H := hid h
  have HV := hid hV
  have p0 := h.r.cell 0
  have p1 := h.r.cell 1
  simp only [List.getElem?_toArray, List.getElem?_cons_zero, List.getElem?_cons_succ] at p0 p1
  have hlen := h.cur.lies.1
  have HE : Hid (nxE L.length (l.drop at_) = 2) := by simp [Hid, nxE, h16]
  rw [h16] at p1
  have H16 := hid h16
  clear h hV h16
  go_enter Tryd.func35, Tryd.ntmps35
  go_wp2_with fail
  refine (spoil_any _ c a len cap at_ l 0 2 H.out.cur).mono ?_
  rintro e w1 ⟨rfl, hc, hg, hs⟩
  have H1 := hid (H.out.read hc hg)
  clear hc hg hs
  go_wp2_with fail
  go_returns
  exact ⟨rfl, _, _, _, L, H1.out, by rw [HE.out]; rfl, hL, fun e => by cases e⟩
end Go.Proofs.YtbgogeojdibmkaaDoor
