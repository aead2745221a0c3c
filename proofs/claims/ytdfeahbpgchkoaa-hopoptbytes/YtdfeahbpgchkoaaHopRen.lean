/- ref's Encode; an option there and back. -/
import Derived.Test.YtdfeahbpgchkoaaHopRok
namespace Go.Proofs.Ytdfeahbpgchkoaa
open Go.ChangeShapes Go.WideShapes Go.ChangeAt Go.RowKit
set_option linter.unusedVariables false
set_option linter.unusedSimpArgs false

theorem optL_list {next : Int} {h : Ho} (hn : byB next = true) (k : okO h = true) : optL next h = [next, 0, 99, 4, bitsV h, h.i, h.r / 256, h.r % 256] := by
  obtain ⟨⟨i0, i1⟩, ⟨r0, r1⟩⟩ := okO_yes k
  obtain ⟨n0, n1⟩ := byB_yes hn
  obtain ⟨b0, b1⟩ := bitsV_bd h
  simp [optL, bytesOf, digs]
  omega
theorem bits_back (h : Ho) : (bitsV h / 128 == 1) = h.d ∧ (bitsV h / 64 % 2 == 1) = h.w ∧ (bitsV h / 32 % 2 == 1) = h.f ∧ bitsV h % 32 = 0 := by
  rw [bitsV_eq]
  generalize h.d = d
  generalize h.w = w
  generalize h.f = f
  cases d <;> cases w <;> cases f <;> decide
theorem opt_back {next : Int} {h : Ho} (hn : byB next = true) (k : okO h = true) : dcE (optL next h) = 0 ∧ dcN (optL next h) = next ∧ dcO (optL next h) = h ∧ dcR (optL next h) = [] := by
  obtain ⟨b1, b2, b3, b4⟩ := bits_back h
  have e : dcE (optL next h) = 0 := by
    rw [dcE, if_neg (by rw [optL_len]; omega), optL_list hn k]
    show (if ((0 : Int) = 0 ∧ (99 : Int) = 99 ∧ (4 : Int) = 4) then (if bitsV h % 32 = 0 then (0 : Int) else 3) else 6) = 0
    rw [if_pos ⟨rfl, rfl, rfl⟩, if_pos b4]
  refine ⟨e, by rw [dcN, if_pos e, optL_list hn k]; rfl, ?_, by rw [dcR, if_pos e]; exact List.drop_eq_nil_of_le (by rw [optL_len]; omega)⟩
  rw [dcO, if_pos e, optL_list hn k]
  show (⟨bitsV h / 128 == 1, bitsV h / 64 % 2 == 1, bitsV h / 32 % 2 == 1, h.i, 256 * (h.r / 256) + h.r % 256⟩ : Ho) = h
  rw [b1, b2, b3, show 256 * (h.r / 256) + h.r % 256 = h.r by omega]
theorem optL_oct (next : Int) (h : Ho) : Oct (optL next h) := (bytesOf_oct _ _).app (bytesOf_oct _ _)
/-- Decode of what Encode gave. -/
theorem decode_back (next : Int) (h : Ho) (a : Option Addr) (cap : Nat) (w : World) (hn : byB next = true) (k : okO h = true) (hl : Lies .u8 w a 8 cap (optL next h)) :
    Calls Try.prog 8 #[.slice a 8 cap] w fun r w' => ∃ a' c', r = .returned (.tuple #[.int .i64 next, .agg h.cs, .slice a' 0 c', .int .i64 0]) ∧ Below w.heap.size w w' := by
  refine (hopDecode_any a 8 cap (optL next h) w hl (optL_oct _ _) (by omega)).mono ?_
  rintro e w' ⟨v, rfl, hown, hb⟩
  obtain ⟨e1, e2, e3, e4⟩ := opt_back hn k
  obtain ⟨a', c', rfl, _, _⟩ := owns_lies hown
  rw [e1, e2, e3, e4]
  exact ⟨a', c', rfl, hb⟩
set_option maxHeartbeats 3200000 in
theorem refEncode_any (next : Int) (h : Ho) (w : World) (hn : byB next = true) (k : okO h = true) :
    Calls Try.prog 15 #[.int .i64 next, .agg h.cs] w fun e w' => ∃ a c, e = .returned (.slice a 8 c) ∧ Lies .u8 w' a 8 c (optL next h) ∧ Below w.heap.size w w' := by
  have HR0 := hid (Row.new w 23 h.cs)
  have B0 := hid (balloc (Below.refl w.heap.size w) (.cells h.cs 23))
  have HO := hid (optL_list hn k)
  have HB := hid (bitsV_eq h)
  obtain ⟨⟨i0, i1⟩, ⟨r0, r1⟩⟩ := okO_yes k
  obtain ⟨n0, n1⟩ := byB_yes hn
  have u1 : IntKind.u8.wrap next = next := wraps_u8 _ n0 (by omega)
  have u2 : IntKind.u8.wrap h.i = h.i := wraps_u8 _ i0 (by omega)
  have u3 : IntKind.i64.wrap (h.r.tdiv 256) = h.r / 256 := by rw [Int.tdiv_eq_ediv_of_nonneg r0, w64 _ (by omega) (by omega)]
  have u4 : h.r.tmod 256 = h.r % 256 := Int.tmod_eq_emod_of_nonneg r0
  have u5 : IntKind.u8.wrap (h.r / 256) = h.r / 256 := wraps_u8 _ (by omega) (by omega)
  have u6 : IntKind.u8.wrap (h.r % 256) = h.r % 256 := wraps_u8 _ (by omega) (by omega)
  generalize optL next h = O at *
  clear hn k
  go_enter Try.func15, Try.ntmps15
  go_upto_region 1 with fail
  generalize hw1 : w.alloc (.cells h.cs 23) = w1 at *
  have c0 := (HR0.out.cell 0).trans h.at0
  have c1 := (HR0.out.cell 1).trans h.at1
  have c2 := (HR0.out.cell 2).trans h.at2
  have c3 := (HR0.out.cell 3).trans h.at3
  have c4 := (HR0.out.cell 4).trans h.at4
  clear hw1 HR0
  generalize bitsV h = bv at *
  generalize h.d = d at *
  generalize h.w = wr at *
  generalize h.f = f at *
  generalize h.i = i at *
  generalize h.r = r at *
  have fin : ∀ (x : Int) (t : TypeId), bv = x → ∃ a c, Ending.returned (.slice (some ⟨w1.heap.size, 0, none⟩) 8 8) = .returned (.slice a 8 c) ∧ Lies .u8 (w1.alloc (.cells #[.int .u8 next, .int .u8 0, .int .u8 99, .int .u8 4, .int .u8 x, .int .u8 i, .int .u8 (r / 256), .int .u8 (r % 256)] t)) a 8 c O ∧ Below w.heap.size w (w1.alloc (.cells #[.int .u8 next, .int .u8 0, .int .u8 99, .int .u8 4, .int .u8 x, .int .u8 i, .int .u8 (r / 256), .int .u8 (r % 256)] t)) := by
    rintro x t rfl
    exact ⟨_, _, rfl, by rw [HO.out]; exact lies_new .u8 w1 _ t [next, 0, 99, 4, bv, i, r / 256, r % 256] rfl (by simp), balloc B0.out _⟩
  have FIN := hid fin
  clear fin B0 HO
  cases d <;> cases wr <;> cases f
  all_goals (
    go_wp2_with fail
    go_ret
    exact FIN.out _ _ (by rw [HB.out]; rfl))
end Go.Proofs.Ytdfeahbpgchkoaa
