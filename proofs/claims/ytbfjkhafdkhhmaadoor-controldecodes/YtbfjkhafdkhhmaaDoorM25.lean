/- An address byte by byte. · The reader: all that a message has. · control.Decode. -/
import Derived.Test.YtbfjkhafdkhhmaaDoorM24
import Derived.Test.YtbfjkhafdkhhmaaDoorM23
import Derived.Test.YtbfjkhafdkhhmaaDoorOpOvr
namespace Go.Proofs.YtbfjkhafdkhhmaaDoor
open Go.ChangeShapes Go.WideShapes Go.ChangeAt Go.RowKit Go.Deep
set_option linter.unusedVariables false
set_option linter.unusedSimpArgs false

set_option maxRecDepth 100000
theorem put_ro0 (c i v r mo pf d sq st : Int) (g a : Bool) (a0 a1 a2 a3 a4 a5 a6 a7 a8 a9 a10 a11 a12 a13 a14 a15 x : Int) (oa : Option Addr) (on oc : Nat) (L : List Ov) : (Mv.cs ⟨c, i, v, r, mo, pf, d, sq, st, g, a, [a0, a1, a2, a3, a4, a5, a6, a7, a8, a9, a10, a11, a12, a13, a14, a15], oa, on, oc, L⟩).setIfInBounds 11 (.int .u8 x) = Mv.cs ⟨c, i, v, r, mo, pf, d, sq, st, g, a, [a0, a1, a2, a3, a4, a5, a6, a7, a8, a9, a10, a11, a12, a13, a14, a15].set 0 x, oa, on, oc, L⟩ := by kernel_rfl
theorem put_ro1 (c i v r mo pf d sq st : Int) (g a : Bool) (a0 a1 a2 a3 a4 a5 a6 a7 a8 a9 a10 a11 a12 a13 a14 a15 x : Int) (oa : Option Addr) (on oc : Nat) (L : List Ov) : (Mv.cs ⟨c, i, v, r, mo, pf, d, sq, st, g, a, [a0, a1, a2, a3, a4, a5, a6, a7, a8, a9, a10, a11, a12, a13, a14, a15], oa, on, oc, L⟩).setIfInBounds 12 (.int .u8 x) = Mv.cs ⟨c, i, v, r, mo, pf, d, sq, st, g, a, [a0, a1, a2, a3, a4, a5, a6, a7, a8, a9, a10, a11, a12, a13, a14, a15].set 1 x, oa, on, oc, L⟩ := by kernel_rfl
theorem put_ro2 (c i v r mo pf d sq st : Int) (g a : Bool) (a0 a1 a2 a3 a4 a5 a6 a7 a8 a9 a10 a11 a12 a13 a14 a15 x : Int) (oa : Option Addr) (on oc : Nat) (L : List Ov) : (Mv.cs ⟨c, i, v, r, mo, pf, d, sq, st, g, a, [a0, a1, a2, a3, a4, a5, a6, a7, a8, a9, a10, a11, a12, a13, a14, a15], oa, on, oc, L⟩).setIfInBounds 13 (.int .u8 x) = Mv.cs ⟨c, i, v, r, mo, pf, d, sq, st, g, a, [a0, a1, a2, a3, a4, a5, a6, a7, a8, a9, a10, a11, a12, a13, a14, a15].set 2 x, oa, on, oc, L⟩ := by kernel_rfl
theorem put_ro3 (c i v r mo pf d sq st : Int) (g a : Bool) (a0 a1 a2 a3 a4 a5 a6 a7 a8 a9 a10 a11 a12 a13 a14 a15 x : Int) (oa : Option Addr) (on oc : Nat) (L : List Ov) : (Mv.cs ⟨c, i, v, r, mo, pf, d, sq, st, g, a, [a0, a1, a2, a3, a4, a5, a6, a7, a8, a9, a10, a11, a12, a13, a14, a15], oa, on, oc, L⟩).setIfInBounds 14 (.int .u8 x) = Mv.cs ⟨c, i, v, r, mo, pf, d, sq, st, g, a, [a0, a1, a2, a3, a4, a5, a6, a7, a8, a9, a10, a11, a12, a13, a14, a15].set 3 x, oa, on, oc, L⟩ := by kernel_rfl
theorem put_ro4 (c i v r mo pf d sq st : Int) (g a : Bool) (a0 a1 a2 a3 a4 a5 a6 a7 a8 a9 a10 a11 a12 a13 a14 a15 x : Int) (oa : Option Addr) (on oc : Nat) (L : List Ov) : (Mv.cs ⟨c, i, v, r, mo, pf, d, sq, st, g, a, [a0, a1, a2, a3, a4, a5, a6, a7, a8, a9, a10, a11, a12, a13, a14, a15], oa, on, oc, L⟩).setIfInBounds 15 (.int .u8 x) = Mv.cs ⟨c, i, v, r, mo, pf, d, sq, st, g, a, [a0, a1, a2, a3, a4, a5, a6, a7, a8, a9, a10, a11, a12, a13, a14, a15].set 4 x, oa, on, oc, L⟩ := by kernel_rfl
theorem put_ro5 (c i v r mo pf d sq st : Int) (g a : Bool) (a0 a1 a2 a3 a4 a5 a6 a7 a8 a9 a10 a11 a12 a13 a14 a15 x : Int) (oa : Option Addr) (on oc : Nat) (L : List Ov) : (Mv.cs ⟨c, i, v, r, mo, pf, d, sq, st, g, a, [a0, a1, a2, a3, a4, a5, a6, a7, a8, a9, a10, a11, a12, a13, a14, a15], oa, on, oc, L⟩).setIfInBounds 16 (.int .u8 x) = Mv.cs ⟨c, i, v, r, mo, pf, d, sq, st, g, a, [a0, a1, a2, a3, a4, a5, a6, a7, a8, a9, a10, a11, a12, a13, a14, a15].set 5 x, oa, on, oc, L⟩ := by kernel_rfl
theorem put_ro6 (c i v r mo pf d sq st : Int) (g a : Bool) (a0 a1 a2 a3 a4 a5 a6 a7 a8 a9 a10 a11 a12 a13 a14 a15 x : Int) (oa : Option Addr) (on oc : Nat) (L : List Ov) : (Mv.cs ⟨c, i, v, r, mo, pf, d, sq, st, g, a, [a0, a1, a2, a3, a4, a5, a6, a7, a8, a9, a10, a11, a12, a13, a14, a15], oa, on, oc, L⟩).setIfInBounds 17 (.int .u8 x) = Mv.cs ⟨c, i, v, r, mo, pf, d, sq, st, g, a, [a0, a1, a2, a3, a4, a5, a6, a7, a8, a9, a10, a11, a12, a13, a14, a15].set 6 x, oa, on, oc, L⟩ := by kernel_rfl
theorem put_ro7 (c i v r mo pf d sq st : Int) (g a : Bool) (a0 a1 a2 a3 a4 a5 a6 a7 a8 a9 a10 a11 a12 a13 a14 a15 x : Int) (oa : Option Addr) (on oc : Nat) (L : List Ov) : (Mv.cs ⟨c, i, v, r, mo, pf, d, sq, st, g, a, [a0, a1, a2, a3, a4, a5, a6, a7, a8, a9, a10, a11, a12, a13, a14, a15], oa, on, oc, L⟩).setIfInBounds 18 (.int .u8 x) = Mv.cs ⟨c, i, v, r, mo, pf, d, sq, st, g, a, [a0, a1, a2, a3, a4, a5, a6, a7, a8, a9, a10, a11, a12, a13, a14, a15].set 7 x, oa, on, oc, L⟩ := by kernel_rfl
theorem put_ro8 (c i v r mo pf d sq st : Int) (g a : Bool) (a0 a1 a2 a3 a4 a5 a6 a7 a8 a9 a10 a11 a12 a13 a14 a15 x : Int) (oa : Option Addr) (on oc : Nat) (L : List Ov) : (Mv.cs ⟨c, i, v, r, mo, pf, d, sq, st, g, a, [a0, a1, a2, a3, a4, a5, a6, a7, a8, a9, a10, a11, a12, a13, a14, a15], oa, on, oc, L⟩).setIfInBounds 19 (.int .u8 x) = Mv.cs ⟨c, i, v, r, mo, pf, d, sq, st, g, a, [a0, a1, a2, a3, a4, a5, a6, a7, a8, a9, a10, a11, a12, a13, a14, a15].set 8 x, oa, on, oc, L⟩ := by kernel_rfl
theorem put_ro9 (c i v r mo pf d sq st : Int) (g a : Bool) (a0 a1 a2 a3 a4 a5 a6 a7 a8 a9 a10 a11 a12 a13 a14 a15 x : Int) (oa : Option Addr) (on oc : Nat) (L : List Ov) : (Mv.cs ⟨c, i, v, r, mo, pf, d, sq, st, g, a, [a0, a1, a2, a3, a4, a5, a6, a7, a8, a9, a10, a11, a12, a13, a14, a15], oa, on, oc, L⟩).setIfInBounds 20 (.int .u8 x) = Mv.cs ⟨c, i, v, r, mo, pf, d, sq, st, g, a, [a0, a1, a2, a3, a4, a5, a6, a7, a8, a9, a10, a11, a12, a13, a14, a15].set 9 x, oa, on, oc, L⟩ := by kernel_rfl
theorem put_ro10 (c i v r mo pf d sq st : Int) (g a : Bool) (a0 a1 a2 a3 a4 a5 a6 a7 a8 a9 a10 a11 a12 a13 a14 a15 x : Int) (oa : Option Addr) (on oc : Nat) (L : List Ov) : (Mv.cs ⟨c, i, v, r, mo, pf, d, sq, st, g, a, [a0, a1, a2, a3, a4, a5, a6, a7, a8, a9, a10, a11, a12, a13, a14, a15], oa, on, oc, L⟩).setIfInBounds 21 (.int .u8 x) = Mv.cs ⟨c, i, v, r, mo, pf, d, sq, st, g, a, [a0, a1, a2, a3, a4, a5, a6, a7, a8, a9, a10, a11, a12, a13, a14, a15].set 10 x, oa, on, oc, L⟩ := by kernel_rfl
theorem put_ro11 (c i v r mo pf d sq st : Int) (g a : Bool) (a0 a1 a2 a3 a4 a5 a6 a7 a8 a9 a10 a11 a12 a13 a14 a15 x : Int) (oa : Option Addr) (on oc : Nat) (L : List Ov) : (Mv.cs ⟨c, i, v, r, mo, pf, d, sq, st, g, a, [a0, a1, a2, a3, a4, a5, a6, a7, a8, a9, a10, a11, a12, a13, a14, a15], oa, on, oc, L⟩).setIfInBounds 22 (.int .u8 x) = Mv.cs ⟨c, i, v, r, mo, pf, d, sq, st, g, a, [a0, a1, a2, a3, a4, a5, a6, a7, a8, a9, a10, a11, a12, a13, a14, a15].set 11 x, oa, on, oc, L⟩ := by kernel_rfl
theorem put_ro12 (c i v r mo pf d sq st : Int) (g a : Bool) (a0 a1 a2 a3 a4 a5 a6 a7 a8 a9 a10 a11 a12 a13 a14 a15 x : Int) (oa : Option Addr) (on oc : Nat) (L : List Ov) : (Mv.cs ⟨c, i, v, r, mo, pf, d, sq, st, g, a, [a0, a1, a2, a3, a4, a5, a6, a7, a8, a9, a10, a11, a12, a13, a14, a15], oa, on, oc, L⟩).setIfInBounds 23 (.int .u8 x) = Mv.cs ⟨c, i, v, r, mo, pf, d, sq, st, g, a, [a0, a1, a2, a3, a4, a5, a6, a7, a8, a9, a10, a11, a12, a13, a14, a15].set 12 x, oa, on, oc, L⟩ := by kernel_rfl
theorem put_ro13 (c i v r mo pf d sq st : Int) (g a : Bool) (a0 a1 a2 a3 a4 a5 a6 a7 a8 a9 a10 a11 a12 a13 a14 a15 x : Int) (oa : Option Addr) (on oc : Nat) (L : List Ov) : (Mv.cs ⟨c, i, v, r, mo, pf, d, sq, st, g, a, [a0, a1, a2, a3, a4, a5, a6, a7, a8, a9, a10, a11, a12, a13, a14, a15], oa, on, oc, L⟩).setIfInBounds 24 (.int .u8 x) = Mv.cs ⟨c, i, v, r, mo, pf, d, sq, st, g, a, [a0, a1, a2, a3, a4, a5, a6, a7, a8, a9, a10, a11, a12, a13, a14, a15].set 13 x, oa, on, oc, L⟩ := by kernel_rfl
theorem put_ro14 (c i v r mo pf d sq st : Int) (g a : Bool) (a0 a1 a2 a3 a4 a5 a6 a7 a8 a9 a10 a11 a12 a13 a14 a15 x : Int) (oa : Option Addr) (on oc : Nat) (L : List Ov) : (Mv.cs ⟨c, i, v, r, mo, pf, d, sq, st, g, a, [a0, a1, a2, a3, a4, a5, a6, a7, a8, a9, a10, a11, a12, a13, a14, a15], oa, on, oc, L⟩).setIfInBounds 25 (.int .u8 x) = Mv.cs ⟨c, i, v, r, mo, pf, d, sq, st, g, a, [a0, a1, a2, a3, a4, a5, a6, a7, a8, a9, a10, a11, a12, a13, a14, a15].set 14 x, oa, on, oc, L⟩ := by kernel_rfl
theorem put_ro15 (c i v r mo pf d sq st : Int) (g a : Bool) (a0 a1 a2 a3 a4 a5 a6 a7 a8 a9 a10 a11 a12 a13 a14 a15 x : Int) (oa : Option Addr) (on oc : Nat) (L : List Ov) : (Mv.cs ⟨c, i, v, r, mo, pf, d, sq, st, g, a, [a0, a1, a2, a3, a4, a5, a6, a7, a8, a9, a10, a11, a12, a13, a14, a15], oa, on, oc, L⟩).setIfInBounds 26 (.int .u8 x) = Mv.cs ⟨c, i, v, r, mo, pf, d, sq, st, g, a, [a0, a1, a2, a3, a4, a5, a6, a7, a8, a9, a10, a11, a12, a13, a14, a15].set 15 x, oa, on, oc, L⟩ := by kernel_rfl
theorem put_ro (m : Mv) (hm : m.ro.length = 16) (j : Nat) (hj : j < 16) (x : Int) : m.cs.setIfInBounds (11 + j) (.int .u8 x) = ({ m with ro := m.ro.set j x } : Mv).cs := by
  obtain ⟨c, i, v, r, mo, pf, d, sq, st, g, a, ro, oa, on, oc, L⟩ := m
  simp only at hm
  have hj' : j = 0 ∨ j = 1 ∨ j = 2 ∨ j = 3 ∨ j = 4 ∨ j = 5 ∨ j = 6 ∨ j = 7 ∨ j = 8 ∨ j = 9 ∨ j = 10 ∨ j = 11 ∨ j = 12 ∨ j = 13 ∨ j = 14 ∨ j = 15 := by omega
  match ro, hm with
  | [a0, a1, a2, a3, a4, a5, a6, a7, a8, a9, a10, a11, a12, a13, a14, a15], _ =>
    rcases hj' with rfl | rfl | rfl | rfl | rfl | rfl | rfl | rfl | rfl | rfl | rfl | rfl | rfl | rfl | rfl | rfl
    · exact put_ro0 c i v r mo pf d sq st g a a0 a1 a2 a3 a4 a5 a6 a7 a8 a9 a10 a11 a12 a13 a14 a15 x oa on oc L
    · exact put_ro1 c i v r mo pf d sq st g a a0 a1 a2 a3 a4 a5 a6 a7 a8 a9 a10 a11 a12 a13 a14 a15 x oa on oc L
    · exact put_ro2 c i v r mo pf d sq st g a a0 a1 a2 a3 a4 a5 a6 a7 a8 a9 a10 a11 a12 a13 a14 a15 x oa on oc L
    · exact put_ro3 c i v r mo pf d sq st g a a0 a1 a2 a3 a4 a5 a6 a7 a8 a9 a10 a11 a12 a13 a14 a15 x oa on oc L
    · exact put_ro4 c i v r mo pf d sq st g a a0 a1 a2 a3 a4 a5 a6 a7 a8 a9 a10 a11 a12 a13 a14 a15 x oa on oc L
    · exact put_ro5 c i v r mo pf d sq st g a a0 a1 a2 a3 a4 a5 a6 a7 a8 a9 a10 a11 a12 a13 a14 a15 x oa on oc L
    · exact put_ro6 c i v r mo pf d sq st g a a0 a1 a2 a3 a4 a5 a6 a7 a8 a9 a10 a11 a12 a13 a14 a15 x oa on oc L
    · exact put_ro7 c i v r mo pf d sq st g a a0 a1 a2 a3 a4 a5 a6 a7 a8 a9 a10 a11 a12 a13 a14 a15 x oa on oc L
    · exact put_ro8 c i v r mo pf d sq st g a a0 a1 a2 a3 a4 a5 a6 a7 a8 a9 a10 a11 a12 a13 a14 a15 x oa on oc L
    · exact put_ro9 c i v r mo pf d sq st g a a0 a1 a2 a3 a4 a5 a6 a7 a8 a9 a10 a11 a12 a13 a14 a15 x oa on oc L
    · exact put_ro10 c i v r mo pf d sq st g a a0 a1 a2 a3 a4 a5 a6 a7 a8 a9 a10 a11 a12 a13 a14 a15 x oa on oc L
    · exact put_ro11 c i v r mo pf d sq st g a a0 a1 a2 a3 a4 a5 a6 a7 a8 a9 a10 a11 a12 a13 a14 a15 x oa on oc L
    · exact put_ro12 c i v r mo pf d sq st g a a0 a1 a2 a3 a4 a5 a6 a7 a8 a9 a10 a11 a12 a13 a14 a15 x oa on oc L
    · exact put_ro13 c i v r mo pf d sq st g a a0 a1 a2 a3 a4 a5 a6 a7 a8 a9 a10 a11 a12 a13 a14 a15 x oa on oc L
    · exact put_ro14 c i v r mo pf d sq st g a a0 a1 a2 a3 a4 a5 a6 a7 a8 a9 a10 a11 a12 a13 a14 a15 x oa on oc L
    · exact put_ro15 c i v r mo pf d sq st g a a0 a1 a2 a3 a4 a5 a6 a7 a8 a9 a10 a11 a12 a13 a14 a15 x oa on oc L
/-- An address of which j bytes are in. -/
def mix (F : List Int) (j : Nat) : List Int := F.take j ++ zeros.drop j
theorem mix_0 (F : List Int) : mix F 0 = zeros := rfl
theorem mix_16 (F : List Int) (h : F.length = 16) : mix F 16 = F := by rw [mix, List.take_of_length_le (by omega)]; exact List.append_nil _
theorem mix_succ (F : List Int) (h : F.length = 16) (j : Nat) (hj : j < 16) : mix F (j + 1) = (mix F j).set j (F.getD j 0) := by
  have hj' : j = 0 ∨ j = 1 ∨ j = 2 ∨ j = 3 ∨ j = 4 ∨ j = 5 ∨ j = 6 ∨ j = 7 ∨ j = 8 ∨ j = 9 ∨ j = 10 ∨ j = 11 ∨ j = 12 ∨ j = 13 ∨ j = 14 ∨ j = 15 := by omega
  match F, h with
  | [a0, a1, a2, a3, a4, a5, a6, a7, a8, a9, a10, a11, a12, a13, a14, a15], _ => rcases hj' with rfl | rfl | rfl | rfl | rfl | rfl | rfl | rfl | rfl | rfl | rfl | rfl | rfl | rfl | rfl | rfl <;> rfl
theorem mix_adr (F : List Int) (h : F.length = 16) (ho : Oct F) (j : Nat) (hj : j ≤ 16) : Adr (mix F j) := by
  refine ⟨by rw [mix, List.length_append, List.length_take, List.length_drop, h]; show min j 16 + (16 - j) = 16; omega, fun x hx => ?_⟩
  rcases List.mem_append.1 hx with e | e
  · exact ho x (List.mem_of_mem_take e)
  · exact adr_zeros.2 x (List.mem_of_mem_drop e)
/-- Are the first j bytes 0? -/
def zb (F : List Int) (j : Nat) : Bool := (F.take j).all (· == 0)
theorem zb_succ (F : List Int) (j : Nat) (h : j < F.length) : zb F (j + 1) = (zb F j && F.getD j 0 == 0) := by
  unfold zb
  rw [List.take_succ_eq_append_getElem h, List.all_append]
  simp [h]
theorem zb_16 (F : List Int) (h : F.length = 16) : zb F 16 = decide (F = zeros) := by
  match F, h with
  | [a0, a1, a2, a3, a4, a5, a6, a7, a8, a9, a10, a11, a12, a13, a14, a15], _ => simp [zb, zeros, Bool.decide_and, Bool.and_assoc, List.replicate]; try rfl
theorem lies_kept {w w' : World} {B g : Nat} {a : Option Addr} {n cap : Nat} {F : List Int} (h : Lies .u8 w a n cap F) (ha : ∀ x, a = some x → 0 < n → x.block < B) (hg : w.grownBy w' (some g)) (hB : B ≤ g) (hw : B ≤ w.heap.size) : Lies .u8 w' a n cap F := by
  refine ⟨h.1, h.2.1, h.2.2.1, h.2.2.2.1, fun k hk => ?_⟩
  obtain ⟨b, off, he, hc⟩ := h.2.2.2.2 k hk
  have hb : b < B := ha ⟨b, off, none⟩ he (by omega)
  refine ⟨b, off, he, ?_⟩
  have := hg.block b (by omega) (fun e => by have := Option.some.inj e; omega)
  simp only [World.cell?, this]
  exact hc
end Go.Proofs.YtbfjkhafdkhhmaaDoor

namespace Go.Proofs.YtbfjkhafdkhhmaaDoor
open Go.ChangeShapes Go.WideShapes Go.ChangeAt Go.RowKit Go.Deep
set_option linter.unusedVariables false
set_option linter.unusedSimpArgs false

set_option maxRecDepth 100000 in
set_option maxHeartbeats 6400000 in
theorem rmsg_any {B : Nat} (W w : World) (c : Nat) (a : Option Addr) (cap : Nat) (l : List Int) (k : Nat) (hk : k < 4) (h : DAt W w c a l.length cap l 0 0) (hV : CV B W) :
    Calls Tryd.prog 38 #[.agg #[.pointer (some ⟨c, 0, none⟩)], .int .i64 k] w fun x w' => ∃ m at3, x = .returned (.agg m.cs) ∧ Hid (MOwn w.heap.size w' m) ∧ Hid (m.p = dcM k l) ∧ Hid (DAt W w' c a l.length cap l at3 (dcE k l)) ∧ Hid (Oth c c w w') := by
  have hz := zmv
  have hz2 := zvl
  have HV := hid hV
  have hB := hid hV.le
  have HK4 := hid hk
  have hk4' : (k : Int) < 4 := by omega
  have hcl : c < w.heap.size := h.cur.lt
  have hW : W.heap.size ≤ w.heap.size := h.below.size
  have hL := hid (cpa_len k hk)
  have hFOK := hid (cpa_fok k hk)
  obtain ⟨pa, pn, pc, c1, hP0⟩ := hV.c.parts k hk
  have hpn : pn ≤ 6 := by rw [← hP0.len]; exact hL.out.1
  have hPL := hid hP0.len
  have C1 := hid c1
  have HP := hid hP0
  have C2 := hid (hV.c.root k hk)
  have hs1 : (w.alloc (.cells #[.pointer (some ⟨c, 0, none⟩)] 83)).heap.size = w.heap.size + 1 := World.size_alloc ..
  have hs2 : ((w.alloc (.cells #[.pointer (some ⟨c, 0, none⟩)] 83)).alloc (.cells Mv.zero.cs 29)).heap.size = w.heap.size + 2 := by rw [World.size_alloc, hs1]
  have R1 := hid (((Row.new w 83 #[.pointer (some ⟨c, 0, none⟩)]).alloc (.cells Mv.zero.cs 29)).alloc (.cells (nArr zer11) 74))
  have Z1 := hid ((Row.new (w.alloc (.cells #[.pointer (some ⟨c, 0, none⟩)] 83)) 29 Mv.zero.cs).alloc (.cells (nArr zer11) 74))
  have V1 := hid (Row.new ((w.alloc (.cells #[.pointer (some ⟨c, 0, none⟩)] 83)).alloc (.cells Mv.zero.cs 29)) 74 (nArr zer11))
  rw [hs1] at Z1
  rw [hs2] at V1
  have B1 := hid (balloc (balloc (balloc (Below.refl w.heap.size w) (.cells #[.pointer (some ⟨c, 0, none⟩)] 83)) (.cells Mv.zero.cs 29)) (.cells (nArr zer11) 74))
  have D1 := hid (h.on B1.out)
  have T1 : Hid (Oth c c w _) := hid (Oth.below B1.out)
  clear hV hk hP0 c1 h
  go_enter Tryd.func38, Tryd.ntmps38
  go_upto_region 2 with fail
  generalize ((w.alloc (.cells #[.pointer (some ⟨c, 0, none⟩)] 83)).alloc (.cells Mv.zero.cs 29)).alloc (.cells (nArr zer11) 74) = w1 at *
  generalize hg0 : w.heap.size = g0 at *
  have hg0 := hid hg0
  clear hs1 hs2 B1
  have P1 : Hid (PAt W w1 c a l.length cap l 0 0 (g0 + 2) zer11) := ⟨D1.out, V1.out, rfl, by omega, by omega⟩
  have c1 : w1.cell? ⟨0, k * 4 + 1, none⟩ = _ := (cells_below D1.out.below hB.out _ _ HV.out.c.pos).trans C1.out
  clear D1 V1
  go_wp2_with fail
  go_loopw [14] (fun i wr => ∃ j : Nat, j ≤ pn ∧ i = .int .i64 j ∧ Hid (PAt W wr c a l.length cap l (rdP l ((cpa k).take j)).1 (rdP l ((cpa k).take j)).2.1 (g0 + 2) (rdP l ((cpa k).take j)).2.2) ∧ Hid (Row wr g0 83 #[.pointer (some ⟨c, 0, none⟩)]) ∧ Hid (Row wr (g0 + 1) 29 Mv.zero.cs) ∧ Hid (Oth c c w wr)) (fun i _ => pn - (intOf i).toNat)
  case atStart => exact ⟨0, Nat.zero_le _, rfl, P1.out, R1.out, Z1.out, T1.out⟩
  case round =>
    obtain ⟨j, hj, rfl, HPt, HR, HZ, HT⟩ := hrel
    clear c1
    by_cases hlt : j < pn
    · have hlt' : (j : Int) < (pn : Int) := by omega
      obtain ⟨b, off, ha, hbB, hcz, fa, fn, fc, hcf, hF0⟩ := (HP.out.same (cells_below HPt.out.d.below hB.out)).cell j hlt
      have hjl : j < (cpa k).length := by rw [hPL.out]; exact hlt
      have HS2 := hid (rdP_succ l (cpa k) j hjl)
      have hLj := hid (hL.out.2 j hjl)
      have hFj := hid (hFOK.out _ (getDm (cpa k) Pa.none j hjl))
      generalize (cpa k).getD j Pa.none = p at *
      generalize rdP l ((cpa k).take j) = s at *
      have HF := hid (hF0.same (w' := W) (fun b o h => ((cells_below HPt.out.d.below hB.out) b o h).symm))
      obtain ⟨at1, e1, v1⟩ := s
      simp only at HPt HS2
      subst ha
      have BA := hid (balloc (Below.refl wr.heap.size wr) (.cells #[.int .i64 p.z, .slice fa fn fc] 108))
      have RP := hid (Row.new wr 108 #[.int .i64 p.z, .slice fa fn fc])
      have P5 := hid (HPt.out.on BA.out)
      have R5 := hid (HR.out.below BA.out)
      have Z5 := hid (HZ.out.below BA.out)
      have T5 := hid (HT.out.trans (Oth.below BA.out))
      have h3l : g0 + 2 < wr.heap.size := HPt.out.r3.lt
      clear hjl hF0
      go_upto_region 5 with fail
      generalize wr.alloc (.cells #[.int .i64 p.z, .slice fa fn fc] 108) = w5 at *
      generalize wr.heap.size = g5 at *
      clear hcz hcf BA HPt HR HZ HT
      have r0 := (R5.out.cell 0).trans rfl
      have q0 := (RP.out.cell 0).trans rfl
      have q1 := (RP.out.cell 1).trans rfl
      go_wp2_with fail
      refine (part_any W _ c a l.length cap l at1 e1 (g0 + 2) v1 p fa fn fc P5.out HF.out hB.out hFj.out.1 hFj.out.2 hLj.out.2 hLj.out.1).mono ?_
      rintro e w6 ⟨rfl, HP6, T6'⟩
      have T6 := hid (T5.out.news (by omega) T6'.out)
      have R6 := hid (T6'.out.row R5.out (by omega) (by omega))
      have Z6 := hid (T6'.out.row Z5.out (by omega) (by omega))
      clear r0 q0 q1 T6' P5 R5 Z5 T5 RP
      go_wp2_with fail
      go_roundw
      case rel => exact ⟨j + 1, by omega, by go_num, by rw [HS2.out]; exact HP6.out, R6.out, Z6.out, T6.out⟩
      case measure => simp [intOf]; omega
    · obtain rfl : j = pn := by omega
      rw [List.take_of_length_le (by rw [hPL.out]; exact Nat.le_refl _)] at HPt
      generalize hss : rdP l (cpa k) = s at *
      have HS := hid hss
      clear hss
      obtain ⟨at1, e1, v1⟩ := s
      simp only at HPt
      have HV11 := hid HPt.out.len11
      go_wp2_with (refine ld74 _ rfl rfl _ _ rfl v1 HV11.out HPt.out.r3.part ?_)
      refine (vmsg_any v1 HV11.out k _).mono ?_
      rintro e w2 ⟨rfl, hb2⟩
      have P2 := hid (HPt.out.on hb2)
      have R2 := hid (HR.out.below hb2)
      have Z2 := hid (HZ.out.below hb2)
      have T2 := hid (HT.out.trans (Oth.below hb2))
      clear hb2 HPt HR HZ HT
      have M3 := hid (layM_new w2 29 (vm v1 k))
      have B3 := hid (layM_below w2 29 (vm v1 k))
      have P3 := hid (P2.out.on B3.out)
      have R3 := hid (R2.out.below B3.out)
      have Z3 := hid (Z2.out.below B3.out)
      have T3 := hid (T2.out.trans (Oth.below B3.out))
      have h3l : g0 + 2 < w2.heap.size := P2.out.r3.lt
      go_upto_region 8 with (refine stM m29 _ _ rfl rfl w2.heap.size (vm v1 k) adr_zeros rfl rfl 29 Mv.zero adr_zeros (Row.new w2 29 _) ?_)
      generalize (w2.alloc (.cells Mv.zero.cs 29)).setRow w2.heap.size (vm v1 k).cs = w3 at *
      generalize w2.heap.size = g7 at *
      clear P2 R2 Z2 T2 B3 hz hz2
      have c2 : w3.cell? ⟨0, k * 4 + 2, none⟩ = _ := (cells_below P3.out.d.below hB.out _ _ HV.out.c.pos).trans C2.out
      have c10 := P3.out.cell 10 (by decide)
      have r0 := (R3.out.cell 0).trans rfl
      have HRB : Hid (rdB k (at1, e1, v1) = (crt k || v1.getD 10 0 == 1)) := rfl
      cases hcr : crt k
      · rw [hcr] at c2 HRB
        generalize v1.getD 10 0 = x10 at c10 HRB
        by_cases h10 : x10 = 1
        · rw [h10] at c10 HRB
          have HRB : Hid (rdB k (at1, e1, v1) = true) := HRB.out.trans rfl
          clear h10 hcr
          go_upto_region 9 with fail
          have HRT : Hid (rdT k l = (adA l at1 e1, adE l at1 e1, adR l at1 e1)) := by rw [Hid, rdT, HS.out, if_pos (by rw [HRB.out])]
          go_wp2_with fail
          refine (address_any W _ c a cap l at1 e1 P3.out.d).mono ?_
          rintro e w4 ⟨rfl, HA4, D4, T4'⟩
          have T4 := hid (T3.out.trans T4'.out)
          have R4 := hid (T4'.out.row R3.out (by omega) (by omega))
          have Z4 := hid (T4'.out.row Z3.out (by omega) (by omega))
          have M4 := hid (T4'.out.row M3.out (by omega) (by omega))
          clear T4' r0 c2 c10 R3 Z3 M3 T3 P3
          generalize adR l at1 e1 = ro2 at *
          generalize adE l at1 e1 = e2 at *
          generalize adA l at1 e1 = at2 at *
          have M5 := hid (Row.setCells (arr ro2).toList 11 _ _ M4.out)
          rw [putA_ro (vm v1 k) ro2 rfl HA4.out.1] at M5
          have G5 := hid (grownBy_setCells g7 (arr ro2).toList 11 w4)
          have D5 := hid (D4.out.other M4.out (by decide) (by omega) (by omega) G5.out)
          have T5 := hid (T4.out.new G5.out (by omega))
          have R5 := hid (R4.out.kept G5.out (fun e => by have := Option.some.inj e; omega))
          have Z5 := hid (Z4.out.kept G5.out (fun e => by have := Option.some.inj e; omega))
          go_upto_region 10 with ((with_reducible refine wpl_id ?_); refine stRo _ _ rfl rfl g7 (vm v1 k) ro2 adr_zeros HA4.out.1 rfl rfl 29 M4.out ?_)
          generalize w4.setCells g7 11 (arr ro2).toList = w5 at *
          clear G5 D4 T4 R4 Z4 M4
          have HMV : Hid (({ vm v1 k with ro := ro2 } : Mv) = { vm v1 k with ro := ro2 }) := rfl
          have r0 := (R5.out.cell 0).trans rfl
          have hs5 : w.heap.size ≤ w5.heap.size := T5.out.1
          go_wp2_with fail
          refine (options_any W _ c a l.length cap l at2 e2 k D5.out HV.out).mono ?_
          rintro e w6 ⟨v6, rfl, HO6, D6, T6'⟩
          obtain ⟨L, own6, own62, hp6, h166⟩ := HO6.out
          obtain ⟨oa, oc, rfl⟩ := owns_len own6
          have O6 := hid (own_mono own6 hs5)
          have X6 := hid (fun o ho => (own62 o ho).mono hs5)
          have HP6 := hid hp6
          have T6 := hid (T5.out.trans T6'.out)
          have R6 := hid (T6'.out.row R5.out (by omega) (by omega))
          have Z6 := hid (T6'.out.row Z5.out (by omega) (by omega))
          have M6 := hid (T6'.out.row M5.out (by omega) (by omega))
          clear own6 own62 hp6 HO6 T6' r0 R5 Z5 M5 T5 D5
          have c27 := (M6.out.cell 27).trans (Mv.at27 HA4.out)
          have f27 := M6.out.frozen 27
          have M7 := hid (M6.out.set 27 (.slice oa L.length oc))
          rw [put27 _ HA4.out.1 oa L.length oc L] at M7
          have D7 := hid (D6.out.other M6.out (by decide) (by omega) (by omega) (grownBy_setCell w6 g7 27 (.slice oa L.length oc)))
          have T7 := hid (T6.out.new (grownBy_setCell w6 g7 27 (.slice oa L.length oc)) (by omega))
          have Z7 := hid (Z6.out.kept (grownBy_setCell w6 g7 27 (.slice oa L.length oc)) (fun e => by have := Option.some.inj e; omega))
          have O7 := hid (O6.out.kept (grownBy_setCell w6 g7 27 (.slice oa L.length oc)) (.inr (own_row O6.out M6.out (by decide))))
          have X7 := hid (fun o ho => (X6.out o ho).row M6.out (by decide) (by decide) (grownBy_setCell w6 g7 27 (.slice oa L.length oc)))
          go_upto_region 11 with fail
          generalize w6.setCell ⟨g7, 27, none⟩ (.slice oa L.length oc) = w7 at *
          clear c27 f27 M6 D6 T6 R6 Z6 O6 X6
          have hmp : ({ vm v1 k with ro := ro2, oa := oa, on := L.length, oc := oc, L := L } : Mv).p = dcM k l := by
            rw [dcM, dcP, HS.out, HRT.out]
            show _ = ({ (vm v1 k).p with ro := ro2, o := opP l at2 e2 } : Pm)
            rw [← HP6.out]
            rfl
          have hme : dcE k l = opE k l at2 e2 := by rw [dcE, HRT.out]
          have HMP := hid hmp
          have HME := hid hme
          have HA7 : Hid (Adr ({ vm v1 k with ro := ro2, oa := oa, on := L.length, oc := oc, L := L } : Mv).ro) := HA4.out
          have HL7 : Hid (({ vm v1 k with ro := ro2, oa := oa, on := L.length, oc := oc, L := L } : Mv).L.length = ({ vm v1 k with ro := ro2, oa := oa, on := L.length, oc := oc, L := L } : Mv).on) := rfl
          have HO7 : Hid (({ vm v1 k with ro := ro2, oa := oa, on := L.length, oc := oc, L := L } : Mv).on ≤ 16) := h166
          have O7 : Hid (w7.ownsRow w.heap.size 54 19 (.slice ({ vm v1 k with ro := ro2, oa := oa, on := L.length, oc := oc, L := L } : Mv).oa ({ vm v1 k with ro := ro2, oa := oa, on := L.length, oc := oc, L := L } : Mv).on ({ vm v1 k with ro := ro2, oa := oa, on := L.length, oc := oc, L := L } : Mv).oc) ({ vm v1 k with ro := ro2, oa := oa, on := L.length, oc := oc, L := L } : Mv).on (ocs ({ vm v1 k with ro := ro2, oa := oa, on := L.length, oc := oc, L := L } : Mv).L)) := O7.out
          have X7 : Hid (∀ o ∈ ({ vm v1 k with ro := ro2, oa := oa, on := L.length, oc := oc, L := L } : Mv).L, Own2 w.heap.size w7 o) := X7.out
          clear hmp hme HRT HP6 h166 HA4
          generalize ({ vm v1 k with ro := ro2, oa := oa, on := L.length, oc := oc, L := L } : Mv) = m at *
          have G8 := hid (grownBy_setRow w7 (g0 + 1) m.cs)
          have D8 := hid (D7.out.other Z7.out (by decide) (by omega) (by omega) G8.out)
          have T8 := hid (T7.out.new G8.out (by omega))
          have O8 := hid (O7.out.kept G8.out (.inr (own_row O7.out Z7.out (by decide))))
          have X8 := hid (fun o ho => (X7.out o ho).row Z7.out (by decide) (by decide) G8.out)
          go_wp2_with (first | ((with_reducible refine wpl_id ?_); refine ldM m29 _ rfl rfl _ _ rfl m HA7.out M7.out.part ?_) | ((with_reducible refine wpl_id ?_); refine stM m29 _ _ rfl rfl (g0 + 1) m HA7.out rfl rfl 29 Mv.zero adr_zeros Z7.out ?_))
          exact bodyPost_ret (resM m29 rfl _ _ (g0 + 1) 29 m HA7.out rfl (Z7.out.setRow _)) rfl ⟨m, _, rfl, hid ⟨HA7.out, O8.out, X8.out, HL7.out, HO7.out⟩, HMP, by rw [HME.out]; exact D8, T8⟩
        · have e10 : (x10 == 1) = false := beq_eq_false_iff_ne.2 h10
          rw [e10] at HRB
          have HRB : Hid (rdB k (at1, e1, v1) = false) := HRB.out.trans rfl
          clear h10 hcr
          have HRT : Hid (rdT k l = (at1, e1, zeros)) := by rw [Hid, rdT, HS.out, if_neg (by rw [HRB.out]; decide)]
          have HA4 : Hid (Adr zeros) := adr_zeros
          have M5 : Hid (Row w3 g7 29 ({ vm v1 k with ro := zeros } : Mv).cs) := M3.out
          have D5 := hid P3.out.d
          have T5 := T3
          have R5 := R3
          have Z5 := Z3
          clear r0 P3
          go_upto_region 10 with fail
          clear M3 T3 R3 Z3 c2 c10
          generalize w3 = w5 at *
          have r0 := (R5.out.cell 0).trans rfl
          have hs5 : w.heap.size ≤ w5.heap.size := T5.out.1
          go_wp2_with fail
          refine (options_any W _ c a l.length cap l at1 e1 k D5.out HV.out).mono ?_
          rintro e w6 ⟨v6, rfl, HO6, D6, T6'⟩
          obtain ⟨L, own6, own62, hp6, h166⟩ := HO6.out
          obtain ⟨oa, oc, rfl⟩ := owns_len own6
          have O6 := hid (own_mono own6 hs5)
          have X6 := hid (fun o ho => (own62 o ho).mono hs5)
          have HP6 := hid hp6
          have T6 := hid (T5.out.trans T6'.out)
          have R6 := hid (T6'.out.row R5.out (by omega) (by omega))
          have Z6 := hid (T6'.out.row Z5.out (by omega) (by omega))
          have M6 := hid (T6'.out.row M5.out (by omega) (by omega))
          clear own6 own62 hp6 HO6 T6' r0 R5 Z5 M5 T5 D5
          have c27 := (M6.out.cell 27).trans (Mv.at27 HA4.out)
          have f27 := M6.out.frozen 27
          have M7 := hid (M6.out.set 27 (.slice oa L.length oc))
          rw [put27 _ HA4.out.1 oa L.length oc L] at M7
          have D7 := hid (D6.out.other M6.out (by decide) (by omega) (by omega) (grownBy_setCell w6 g7 27 (.slice oa L.length oc)))
          have T7 := hid (T6.out.new (grownBy_setCell w6 g7 27 (.slice oa L.length oc)) (by omega))
          have Z7 := hid (Z6.out.kept (grownBy_setCell w6 g7 27 (.slice oa L.length oc)) (fun e => by have := Option.some.inj e; omega))
          have O7 := hid (O6.out.kept (grownBy_setCell w6 g7 27 (.slice oa L.length oc)) (.inr (own_row O6.out M6.out (by decide))))
          have X7 := hid (fun o ho => (X6.out o ho).row M6.out (by decide) (by decide) (grownBy_setCell w6 g7 27 (.slice oa L.length oc)))
          go_upto_region 11 with fail
          generalize w6.setCell ⟨g7, 27, none⟩ (.slice oa L.length oc) = w7 at *
          clear c27 f27 M6 D6 T6 R6 Z6 O6 X6
          have hmp : ({ vm v1 k with ro := zeros, oa := oa, on := L.length, oc := oc, L := L } : Mv).p = dcM k l := by
            rw [dcM, dcP, HS.out, HRT.out]
            show _ = ({ (vm v1 k).p with ro := zeros, o := opP l at1 e1 } : Pm)
            rw [← HP6.out]
            rfl
          have hme : dcE k l = opE k l at1 e1 := by rw [dcE, HRT.out]
          have HMP := hid hmp
          have HME := hid hme
          have HA7 : Hid (Adr ({ vm v1 k with ro := zeros, oa := oa, on := L.length, oc := oc, L := L } : Mv).ro) := HA4.out
          have HL7 : Hid (({ vm v1 k with ro := zeros, oa := oa, on := L.length, oc := oc, L := L } : Mv).L.length = ({ vm v1 k with ro := zeros, oa := oa, on := L.length, oc := oc, L := L } : Mv).on) := rfl
          have HO7 : Hid (({ vm v1 k with ro := zeros, oa := oa, on := L.length, oc := oc, L := L } : Mv).on ≤ 16) := h166
          have O7 : Hid (w7.ownsRow w.heap.size 54 19 (.slice ({ vm v1 k with ro := zeros, oa := oa, on := L.length, oc := oc, L := L } : Mv).oa ({ vm v1 k with ro := zeros, oa := oa, on := L.length, oc := oc, L := L } : Mv).on ({ vm v1 k with ro := zeros, oa := oa, on := L.length, oc := oc, L := L } : Mv).oc) ({ vm v1 k with ro := zeros, oa := oa, on := L.length, oc := oc, L := L } : Mv).on (ocs ({ vm v1 k with ro := zeros, oa := oa, on := L.length, oc := oc, L := L } : Mv).L)) := O7.out
          have X7 : Hid (∀ o ∈ ({ vm v1 k with ro := zeros, oa := oa, on := L.length, oc := oc, L := L } : Mv).L, Own2 w.heap.size w7 o) := X7.out
          clear hmp hme HRT HP6 h166 HA4
          generalize ({ vm v1 k with ro := zeros, oa := oa, on := L.length, oc := oc, L := L } : Mv) = m at *
          have G8 := hid (grownBy_setRow w7 (g0 + 1) m.cs)
          have D8 := hid (D7.out.other Z7.out (by decide) (by omega) (by omega) G8.out)
          have T8 := hid (T7.out.new G8.out (by omega))
          have O8 := hid (O7.out.kept G8.out (.inr (own_row O7.out Z7.out (by decide))))
          have X8 := hid (fun o ho => (X7.out o ho).row Z7.out (by decide) (by decide) G8.out)
          go_wp2_with (first | ((with_reducible refine wpl_id ?_); refine ldM m29 _ rfl rfl _ _ rfl m HA7.out M7.out.part ?_) | ((with_reducible refine wpl_id ?_); refine stM m29 _ _ rfl rfl (g0 + 1) m HA7.out rfl rfl 29 Mv.zero adr_zeros Z7.out ?_))
          exact bodyPost_ret (resM m29 rfl _ _ (g0 + 1) 29 m HA7.out rfl (Z7.out.setRow _)) rfl ⟨m, _, rfl, hid ⟨HA7.out, O8.out, X8.out, HL7.out, HO7.out⟩, HMP, by rw [HME.out]; exact D8, T8⟩
      · rw [hcr] at c2 HRB
        have HRB : Hid (rdB k (at1, e1, v1) = true) := HRB.out.trans (by simp)
        clear hcr
        go_upto_region 9 with fail
        have HRT : Hid (rdT k l = (adA l at1 e1, adE l at1 e1, adR l at1 e1)) := by rw [Hid, rdT, HS.out, if_pos (by rw [HRB.out])]
        go_wp2_with fail
        refine (address_any W _ c a cap l at1 e1 P3.out.d).mono ?_
        rintro e w4 ⟨rfl, HA4, D4, T4'⟩
        have T4 := hid (T3.out.trans T4'.out)
        have R4 := hid (T4'.out.row R3.out (by omega) (by omega))
        have Z4 := hid (T4'.out.row Z3.out (by omega) (by omega))
        have M4 := hid (T4'.out.row M3.out (by omega) (by omega))
        clear T4' r0 c2 c10 R3 Z3 M3 T3 P3
        generalize adR l at1 e1 = ro2 at *
        generalize adE l at1 e1 = e2 at *
        generalize adA l at1 e1 = at2 at *
        have M5 := hid (Row.setCells (arr ro2).toList 11 _ _ M4.out)
        rw [putA_ro (vm v1 k) ro2 rfl HA4.out.1] at M5
        have G5 := hid (grownBy_setCells g7 (arr ro2).toList 11 w4)
        have D5 := hid (D4.out.other M4.out (by decide) (by omega) (by omega) G5.out)
        have T5 := hid (T4.out.new G5.out (by omega))
        have R5 := hid (R4.out.kept G5.out (fun e => by have := Option.some.inj e; omega))
        have Z5 := hid (Z4.out.kept G5.out (fun e => by have := Option.some.inj e; omega))
        go_upto_region 10 with ((with_reducible refine wpl_id ?_); refine stRo _ _ rfl rfl g7 (vm v1 k) ro2 adr_zeros HA4.out.1 rfl rfl 29 M4.out ?_)
        generalize w4.setCells g7 11 (arr ro2).toList = w5 at *
        clear G5 D4 T4 R4 Z4 M4
        have HMV : Hid (({ vm v1 k with ro := ro2 } : Mv) = { vm v1 k with ro := ro2 }) := rfl
        have r0 := (R5.out.cell 0).trans rfl
        have hs5 : w.heap.size ≤ w5.heap.size := T5.out.1
        go_wp2_with fail
        refine (options_any W _ c a l.length cap l at2 e2 k D5.out HV.out).mono ?_
        rintro e w6 ⟨v6, rfl, HO6, D6, T6'⟩
        obtain ⟨L, own6, own62, hp6, h166⟩ := HO6.out
        obtain ⟨oa, oc, rfl⟩ := owns_len own6
        have O6 := hid (own_mono own6 hs5)
        have X6 := hid (fun o ho => (own62 o ho).mono hs5)
        have HP6 := hid hp6
        have T6 := hid (T5.out.trans T6'.out)
        have R6 := hid (T6'.out.row R5.out (by omega) (by omega))
        have Z6 := hid (T6'.out.row Z5.out (by omega) (by omega))
        have M6 := hid (T6'.out.row M5.out (by omega) (by omega))
        clear own6 own62 hp6 HO6 T6' r0 R5 Z5 M5 T5 D5
        have c27 := (M6.out.cell 27).trans (Mv.at27 HA4.out)
        have f27 := M6.out.frozen 27
        have M7 := hid (M6.out.set 27 (.slice oa L.length oc))
        rw [put27 _ HA4.out.1 oa L.length oc L] at M7
        have D7 := hid (D6.out.other M6.out (by decide) (by omega) (by omega) (grownBy_setCell w6 g7 27 (.slice oa L.length oc)))
        have T7 := hid (T6.out.new (grownBy_setCell w6 g7 27 (.slice oa L.length oc)) (by omega))
        have Z7 := hid (Z6.out.kept (grownBy_setCell w6 g7 27 (.slice oa L.length oc)) (fun e => by have := Option.some.inj e; omega))
        have O7 := hid (O6.out.kept (grownBy_setCell w6 g7 27 (.slice oa L.length oc)) (.inr (own_row O6.out M6.out (by decide))))
        have X7 := hid (fun o ho => (X6.out o ho).row M6.out (by decide) (by decide) (grownBy_setCell w6 g7 27 (.slice oa L.length oc)))
        go_upto_region 11 with fail
        generalize w6.setCell ⟨g7, 27, none⟩ (.slice oa L.length oc) = w7 at *
        clear c27 f27 M6 D6 T6 R6 Z6 O6 X6
        have hmp : ({ vm v1 k with ro := ro2, oa := oa, on := L.length, oc := oc, L := L } : Mv).p = dcM k l := by
          rw [dcM, dcP, HS.out, HRT.out]
          show _ = ({ (vm v1 k).p with ro := ro2, o := opP l at2 e2 } : Pm)
          rw [← HP6.out]
          rfl
        have hme : dcE k l = opE k l at2 e2 := by rw [dcE, HRT.out]
        have HMP := hid hmp
        have HME := hid hme
        have HA7 : Hid (Adr ({ vm v1 k with ro := ro2, oa := oa, on := L.length, oc := oc, L := L } : Mv).ro) := HA4.out
        have HL7 : Hid (({ vm v1 k with ro := ro2, oa := oa, on := L.length, oc := oc, L := L } : Mv).L.length = ({ vm v1 k with ro := ro2, oa := oa, on := L.length, oc := oc, L := L } : Mv).on) := rfl
        have HO7 : Hid (({ vm v1 k with ro := ro2, oa := oa, on := L.length, oc := oc, L := L } : Mv).on ≤ 16) := h166
        have O7 : Hid (w7.ownsRow w.heap.size 54 19 (.slice ({ vm v1 k with ro := ro2, oa := oa, on := L.length, oc := oc, L := L } : Mv).oa ({ vm v1 k with ro := ro2, oa := oa, on := L.length, oc := oc, L := L } : Mv).on ({ vm v1 k with ro := ro2, oa := oa, on := L.length, oc := oc, L := L } : Mv).oc) ({ vm v1 k with ro := ro2, oa := oa, on := L.length, oc := oc, L := L } : Mv).on (ocs ({ vm v1 k with ro := ro2, oa := oa, on := L.length, oc := oc, L := L } : Mv).L)) := O7.out
        have X7 : Hid (∀ o ∈ ({ vm v1 k with ro := ro2, oa := oa, on := L.length, oc := oc, L := L } : Mv).L, Own2 w.heap.size w7 o) := X7.out
        clear hmp hme HRT HP6 h166 HA4
        generalize ({ vm v1 k with ro := ro2, oa := oa, on := L.length, oc := oc, L := L } : Mv) = m at *
        have G8 := hid (grownBy_setRow w7 (g0 + 1) m.cs)
        have D8 := hid (D7.out.other Z7.out (by decide) (by omega) (by omega) G8.out)
        have T8 := hid (T7.out.new G8.out (by omega))
        have O8 := hid (O7.out.kept G8.out (.inr (own_row O7.out Z7.out (by decide))))
        have X8 := hid (fun o ho => (X7.out o ho).row Z7.out (by decide) (by decide) G8.out)
        go_wp2_with (first | ((with_reducible refine wpl_id ?_); refine ldM m29 _ rfl rfl _ _ rfl m HA7.out M7.out.part ?_) | ((with_reducible refine wpl_id ?_); refine stM m29 _ _ rfl rfl (g0 + 1) m HA7.out rfl rfl 29 Mv.zero adr_zeros Z7.out ?_))
        exact bodyPost_ret (resM m29 rfl _ _ (g0 + 1) 29 m HA7.out rfl (Z7.out.setRow _)) rfl ⟨m, _, rfl, hid ⟨HA7.out, O8.out, X8.out, HL7.out, HO7.out⟩, HMP, by rw [HME.out]; exact D8, T8⟩
end Go.Proofs.YtbfjkhafdkhhmaaDoor

namespace Go.Proofs.YtbfjkhafdkhhmaaDoor
open Go.ChangeShapes Go.WideShapes Go.ChangeAt Go.RowKit Go.Deep
set_option linter.unusedVariables false
set_option linter.unusedSimpArgs false

/-- What Decode tells, and its message. -/
def dE (code : Int) (l : List Int) : Int := if codB code = true then dcE code.toNat l else 6
def dM (code : Int) (l : List Int) : Pm := if codB code = true then (if dcE code.toNat l = 0 then dcM code.toNat l else Pm.zero) else Pm.zero
theorem zero_own (base : Nat) (w : World) : MOwn base w Mv.zero := ⟨adr_zeros, World.ownsRow_nil _ _ _ _, fun o ho => (by cases ho), rfl, by decide⟩
set_option maxRecDepth 100000 in
set_option maxHeartbeats 3200000 in
theorem cDecode_any {B : Nat} (code : Int) (a : Option Addr) (len cap : Nat) (l : List Int) (w : World) (h : Lies .u8 w a len cap l) (ho : Oct l) (hl : len ≤ 100000) (hV : CV B w) :
    Calls Tryd.prog 16 #[.int .i64 code, .slice a len cap] w fun x w' => ∃ m, x = .returned (.tuple #[.agg m.cs, .int .i64 (dE code l)]) ∧ Hid (MOwn w.heap.size w' m) ∧ Hid (m.p = dM code l) ∧ Hid (Below w.heap.size w w') := by
  have hz := zmv
  obtain rfl := h.1
  have HO := hid ho
  have HV := hid hV
  have Z1 := hid (Row.new w 29 Mv.zero.cs)
  have B1 := hid (balloc (Below.refl w.heap.size w) (.cells Mv.zero.cs 29))
  have H1 := hid (h.below B1.out)
  have HEE : Hid (dE code l = if codB code = true then dcE code.toNat l else 6) := rfl
  have HMM : Hid (dM code l = if codB code = true then (if dcE code.toNat l = 0 then dcM code.toNat l else Pm.zero) else Pm.zero) := rfl
  cases hcb : codB code
  · have HC := hid hcb
    rw [hcb] at HEE HMM
    have HE : Hid (dE code l = 6) := HEE.out.trans rfl
    have HM : Hid (dM code l = Pm.zero) := HMM.out.trans rfl
    clear hcb HEE HMM h ho hV
    go_enter Tryd.func16, Tryd.ntmps16
    go_upto_region 1 with fail
    generalize w.alloc (.cells Mv.zero.cs 29) = w1 at *
    generalize hg0 : w.heap.size = g0 at *
    have HG0 := hid hg0
    clear hz hg0
    go_wp2_with fail
    refine (isCode_any code _).mono ?_
    rw [HC.out]
    rintro e w2 ⟨rfl, rfl⟩
    go_wp2_with (first | ((with_reducible refine wpl_id ?_); refine bdMz m29 rfl rfl ?_) | ((with_reducible refine wpl_id ?_); refine stM m29 _ _ rfl rfl g0 Mv.zero adr_zeros rfl rfl 29 Mv.zero adr_zeros Z1.out ?_))
    exact bodyPost_ret (resMe m29 rfl _ _ g0 29 Mv.zero adr_zeros (.int .i64 6) rfl rfl (Z1.out.setRow _)) rfl ⟨Mv.zero, by rw [HE.out], zero_own _ _, by rw [HM.out]; rfl, by rw [HG0.out]; exact below_setRow' B1.out (Nat.le_refl _) _⟩
  · have HC := hid hcb
    obtain ⟨k, e, hk4⟩ := cod_nat hcb
    rw [hcb, show code.toNat = k by omega] at HEE HMM
    have HE : Hid (dE code l = dcE k l) := HEE.out.trans rfl
    have HM : Hid (dM code l = if dcE k l = 0 then dcM k l else Pm.zero) := HMM.out.trans rfl
    have HK := hid e
    clear hcb HEE HMM h ho hV e
    go_enter Tryd.func16, Tryd.ntmps16
    go_upto_region 1 with fail
    generalize w.alloc (.cells Mv.zero.cs 29) = w1 at *
    generalize hg0 : w.heap.size = g0 at *
    have HG0 := hid hg0
    clear hg0
    go_wp2_with fail
    refine (isCode_any code _).mono ?_
    rw [HC.out]
    rintro e w2 ⟨rfl, rfl⟩
    go_wp2_with fail
    refine (over_own a l.length cap l w2 H1.out HO.out hl).mono ?_
    rintro e w3 ⟨c, a2, cap2, rfl, hc3, hb3, hc1, hc2, how3⟩
    have h12 : g0 < w2.heap.size := Z1.out.lt
    have D3 : Hid (DAt w w3 c a2 l.length cap2 l 0 0) := ⟨hc3, own_mono how3 (by rw [HG0.out]; omega), bthen (by rw [HG0.out]; exact B1.out) hb3, by rw [HG0.out]; omega⟩
    have Z3 := hid (Z1.out.below hb3)
    have h13 : w2.heap.size ≤ w3.heap.size := hb3.size
    clear hc3 hb3 how3 Z1 B1 H1
    have R4 := hid (Row.new w3 83 #[.pointer (some ⟨c, 0, none⟩)])
    have B4 := hid (balloc (Below.refl w3.heap.size w3) (.cells #[.pointer (some ⟨c, 0, none⟩)] 83))
    have D4 := hid (D3.out.on B4.out)
    have Z4 := hid (Z3.out.below B4.out)
    go_upto_region 4 with fail
    generalize w3.alloc (.cells #[.pointer (some ⟨c, 0, none⟩)] 83) = w4 at *
    generalize w3.heap.size = g4 at *
    clear B4 D3 Z3
    have r0 := (R4.out.cell 0).trans rfl
    have kk := HK.out
    have h14 : g4 < w4.heap.size := R4.out.lt
    go_wp2_with fail
    rw [HK.out]
    refine (rmsg_any w w4 c a2 cap2 l k hk4 D4.out HV.out).mono ?_
    rintro e w5 ⟨m, at3, rfl, HO5, HMP, D5, T5⟩
    have R5 := hid (T5.out.row R4.out (by omega) (by omega))
    have Z5 := hid (T5.out.row Z4.out (by omega) (by omega))
    have HO5 : Hid (MOwn g0 w5 m) := ⟨HO5.out.ro, own_mono HO5.out.own (by omega), fun o ho => (HO5.out.own2 o ho).mono (by omega), HO5.out.len, HO5.out.le⟩
    have HA := hid HO5.out.ro
    clear T5 R4 Z4 D4 r0 kk
    have M6 := hid (layM_new w5 29 m)
    have B6 := hid (layM_below w5 29 m)
    have R6 := hid (R5.out.below B6.out)
    have Z6 := hid (Z5.out.below B6.out)
    have D6 := hid (D5.out.on B6.out)
    have O6 := hid (own_below HO5.out.own B6.out)
    have X6 := hid (fun o ho => (HO5.out.own2 o ho).below B6.out)
    have h15 : g4 < w5.heap.size := R5.out.lt
    go_upto_region 5 with ((with_reducible refine wpl_id ?_); refine stM m29 _ _ rfl rfl w5.heap.size m HA.out rfl rfl 29 Mv.zero adr_zeros (Row.new w5 29 _) ?_)
    generalize (w5.alloc (.cells Mv.zero.cs 29)).setRow w5.heap.size m.cs = w6 at *
    generalize w5.heap.size = g5 at *
    clear B6 R5 Z5 D5 hz
    have r0 := (R6.out.cell 0).trans rfl
    go_wp2_with fail
    refine (err_any _ _ (dcE k l) D6.out.cur.cell2).mono ?_
    rintro e w7 ⟨rfl, rfl⟩
    by_cases he : dcE k l = 0
    · rw [he] at HE ⊢
      have HM : Hid (dM code l = dcM k l) := by rw [Hid, HM.out, if_pos he]
      clear he r0
      have G8 := hid (grownBy_setRow w7 g0 m.cs)
      have O8 := hid (O6.out.kept G8.out (.inr (own_row O6.out Z6.out (by decide))))
      have X8 := hid (fun o ho => (X6.out o ho).row Z6.out (by decide) (by decide) G8.out)
      have B8 := hid (bgrown D6.out.below G8.out (by rw [HG0.out]; exact Nat.le_refl _))
      go_wp2_with (first | ((with_reducible refine wpl_id ?_); refine ldM m29 _ rfl rfl _ _ rfl m HA.out M6.out.part ?_) | ((with_reducible refine wpl_id ?_); refine stM m29 _ _ rfl rfl g0 m HA.out rfl rfl 29 Mv.zero adr_zeros Z6.out ?_))
      exact bodyPost_ret (resMe m29 rfl _ _ g0 29 m HA.out (.int .i64 0) rfl rfl (Z6.out.setRow _)) rfl ⟨m, by rw [HE.out], by rw [HG0.out]; exact hid ⟨HA.out, O8.out, X8.out, HO5.out.len, HO5.out.le⟩, by rw [HM.out]; exact HMP, B8⟩
    · have HM2 : Hid (dM code l = Pm.zero) := by rw [Hid, HM.out, if_neg he]
      clear HM
      have he' : (dcE k l != 0) = true := by rw [bne_iff_ne]; exact he
      generalize dcE k l = er at *
      clear he r0
      have G8 := hid (grownBy_setRow w7 g0 Mv.zero.cs)
      have B8 := hid (bgrown D6.out.below G8.out (by rw [HG0.out]; exact Nat.le_refl _))
      go_wp2_with (first | ((with_reducible refine wpl_id ?_); refine bdMz m29 rfl rfl ?_) | ((with_reducible refine wpl_id ?_); refine stM m29 _ _ rfl rfl g0 Mv.zero adr_zeros rfl rfl 29 Mv.zero adr_zeros Z6.out ?_))
      exact bodyPost_ret (resMe m29 rfl _ _ g0 29 Mv.zero adr_zeros (.int .i64 er) rfl rfl (Z6.out.setRow _)) rfl ⟨Mv.zero, by rw [HE.out], zero_own _ _, by rw [HM2.out]; rfl, B8⟩
end Go.Proofs.YtbfjkhafdkhhmaaDoor
