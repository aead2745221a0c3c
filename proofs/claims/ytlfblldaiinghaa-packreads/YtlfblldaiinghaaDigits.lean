/- What the document's own Digits and Put answer: contracts. -/
import Derived.Test.YtlfblldaiinghaaAny
namespace Go.Proofs.Ytlfblldaiinghaa
open Go.ChangeShapes Go.WideShapes Go.ChangeAt Go.RowKit
set_option linter.unusedVariables false
set_option linter.unusedSimpArgs false

set_option maxHeartbeats 1000000 in
theorem digits1 (n : Int) (w : World) (h0 : 0 ≤ n) (h63 : n ≤ 9223372036854775807) :
    Calls Try.prog 10 #[.int .i64 1, .int .i64 n] w fun e w' => e = .returned (.tuple #[.slice (some ⟨w.heap.size, 0, none⟩) 1 1, .bool (okB 1 n)]) ∧ w' = w.alloc (.cells (u8s (digs 1 n)).toArray 5) := by
  have hmk : ∀ w, (Instr.makeSlice 22 (.int .i64 1) (.int .i64 1)).run Try.prog w = .ok (.slice (some ⟨w.heap.size, 0, none⟩) 1 1) (w.alloc (.cells #[.int .u8 0] 5)) := fun _ => by kernel_rfl
  have hn : decide (n < 0) = false := by simp; omega
  have HD : Hid ((u8s (digs 1 n)).toArray = #[.int .u8 (n % 256)]) := by simp [Hid, u8s, digs]
  have HK : Hid (okB 1 n = (n / 256 == 0)) := by
    rw [Hid, Bool.eq_iff_iff]; simp [okB, top]; omega
  go_enter Try.func10, Try.ntmps10
  go_wp2
  refine wp_loop_rounds 2 ?_
  repeat (rw [rounds_succ]; go_wp2)
  go_ret2
  exact ⟨by rw [HK.out]; rfl, by rw [HD.out]⟩

theorem digits1_neg (n : Int) (w : World) (h0 : n < 0) :
    Calls Try.prog 10 #[.int .i64 1, .int .i64 n] w fun e w' => e = .returned (.tuple #[.slice none 0 0, .bool false]) ∧ Below w.heap.size w w' := by
  have hmk : ∀ w, (Instr.makeSlice 22 (.int .i64 1) (.int .i64 1)).run Try.prog w = .ok (.slice (some ⟨w.heap.size, 0, none⟩) 1 1) (w.alloc (.cells #[.int .u8 0] 5)) := fun _ => by kernel_rfl
  go_enter Try.func10, Try.ntmps10
  go_wp2
  go_ret2
  exact ⟨rfl, balloc (Below.refl _ _) _⟩

set_option maxHeartbeats 1000000 in
theorem digits2 (n : Int) (w : World) (h0 : 0 ≤ n) (h63 : n ≤ 9223372036854775807) :
    Calls Try.prog 10 #[.int .i64 2, .int .i64 n] w fun e w' => e = .returned (.tuple #[.slice (some ⟨w.heap.size, 0, none⟩) 2 2, .bool (okB 2 n)]) ∧ w' = w.alloc (.cells (u8s (digs 2 n)).toArray 5) := by
  have hmk : ∀ w, (Instr.makeSlice 22 (.int .i64 2) (.int .i64 2)).run Try.prog w = .ok (.slice (some ⟨w.heap.size, 0, none⟩) 2 2) (w.alloc (.cells #[.int .u8 0, .int .u8 0] 5)) := fun _ => by kernel_rfl
  have hn : decide (n < 0) = false := by simp; omega
  have HD : Hid ((u8s (digs 2 n)).toArray = #[.int .u8 (n / 256 % 256), .int .u8 (n % 256)]) := by simp [Hid, u8s, digs]
  have HK : Hid (okB 2 n = (n / 256 / 256 == 0)) := by
    rw [Hid, Bool.eq_iff_iff]; simp [okB, top]; omega
  go_enter Try.func10, Try.ntmps10
  go_wp2
  refine wp_loop_rounds 3 ?_
  repeat (rw [rounds_succ]; go_wp2)
  go_ret2
  exact ⟨by rw [HK.out]; rfl, by rw [HD.out]⟩

theorem digits2_neg (n : Int) (w : World) (h0 : n < 0) :
    Calls Try.prog 10 #[.int .i64 2, .int .i64 n] w fun e w' => e = .returned (.tuple #[.slice none 0 0, .bool false]) ∧ Below w.heap.size w w' := by
  have hmk : ∀ w, (Instr.makeSlice 22 (.int .i64 2) (.int .i64 2)).run Try.prog w = .ok (.slice (some ⟨w.heap.size, 0, none⟩) 2 2) (w.alloc (.cells #[.int .u8 0, .int .u8 0] 5)) := fun _ => by kernel_rfl
  go_enter Try.func10, Try.ntmps10
  go_wp2
  go_ret2
  exact ⟨rfl, balloc (Below.refl _ _) _⟩

set_option maxHeartbeats 1000000 in
theorem digits4 (n : Int) (w : World) (h0 : 0 ≤ n) (h63 : n ≤ 9223372036854775807) :
    Calls Try.prog 10 #[.int .i64 4, .int .i64 n] w fun e w' => e = .returned (.tuple #[.slice (some ⟨w.heap.size, 0, none⟩) 4 4, .bool (okB 4 n)]) ∧ w' = w.alloc (.cells (u8s (digs 4 n)).toArray 5) := by
  have hmk : ∀ w, (Instr.makeSlice 22 (.int .i64 4) (.int .i64 4)).run Try.prog w = .ok (.slice (some ⟨w.heap.size, 0, none⟩) 4 4) (w.alloc (.cells #[.int .u8 0, .int .u8 0, .int .u8 0, .int .u8 0] 5)) := fun _ => by kernel_rfl
  have hn : decide (n < 0) = false := by simp; omega
  have HD : Hid ((u8s (digs 4 n)).toArray = #[.int .u8 (n / 256 / 256 / 256 % 256), .int .u8 (n / 256 / 256 % 256), .int .u8 (n / 256 % 256), .int .u8 (n % 256)]) := by simp [Hid, u8s, digs]; omega
  have HK : Hid (okB 4 n = (n / 256 / 256 / 256 / 256 == 0)) := by
    rw [Hid, Bool.eq_iff_iff]; simp [okB, top]; omega
  go_enter Try.func10, Try.ntmps10
  go_wp2
  refine wp_loop_rounds 5 ?_
  repeat (rw [rounds_succ]; go_wp2)
  go_ret2
  exact ⟨by rw [HK.out]; rfl, by rw [HD.out]⟩

theorem digits4_neg (n : Int) (w : World) (h0 : n < 0) :
    Calls Try.prog 10 #[.int .i64 4, .int .i64 n] w fun e w' => e = .returned (.tuple #[.slice none 0 0, .bool false]) ∧ Below w.heap.size w w' := by
  have hmk : ∀ w, (Instr.makeSlice 22 (.int .i64 4) (.int .i64 4)).run Try.prog w = .ok (.slice (some ⟨w.heap.size, 0, none⟩) 4 4) (w.alloc (.cells #[.int .u8 0, .int .u8 0, .int .u8 0, .int .u8 0] 5)) := fun _ => by kernel_rfl
  go_enter Try.func10, Try.ntmps10
  go_wp2
  go_ret2
  exact ⟨rfl, balloc (Below.refl _ _) _⟩

theorem okB_neg (size n : Int) (h : n < 0) : okB size n = false := by simp [okB]; omega

theorem wf_i64 {n : Int} (h : (Lit.int .i64 n).wf = true) : -9223372036854775808 ≤ n ∧ n ≤ 9223372036854775807 := by
  simp [Lit.wf, IntKind.min, IntKind.max, IntKind.bits, IntKind.signed] at h; omega

theorem digits_any (size n : Int) (w : World) (hz : sizeB size = true) (hw : (Lit.int .i64 n).wf = true) :
    Calls Try.prog 10 #[.int .i64 size, .int .i64 n] w fun e w' => ∃ a k c, e = .returned (.tuple #[.slice a k c, .bool (okB size n)]) ∧ Below w.heap.size w w' ∧ (okB size n = true → k = (digs size n).length ∧ Lies .u8 w' a k c (digs size n)) := by
  have h63 := (wf_i64 hw).2
  by_cases h0 : 0 ≤ n
  · have key : ∀ k : Nat, k = (digs size n).length → k ≤ 100 → Lies .u8 (w.alloc (.cells (u8s (digs size n)).toArray 5)) (some ⟨w.heap.size, 0, none⟩) k k (digs size n) := by
      intro k hk h100
      subst hk
      exact lies_new .u8 w _ 5 (digs size n) (by simp [u8s]) h100
    have hb : Below w.heap.size w (w.alloc (.cells (u8s (digs size n)).toArray 5)) := balloc (Below.refl _ _) _
    rcases sizeB_cases hz with rfl | rfl | rfl
    · refine (digits1 n w h0 h63).mono ?_
      rintro e w' ⟨rfl, rfl⟩
      exact ⟨_, _, _, rfl, hb, fun _ => ⟨rfl, key 1 rfl (by omega)⟩⟩
    · refine (digits2 n w h0 h63).mono ?_
      rintro e w' ⟨rfl, rfl⟩
      exact ⟨_, _, _, rfl, hb, fun _ => ⟨rfl, key 2 rfl (by omega)⟩⟩
    · refine (digits4 n w h0 h63).mono ?_
      rintro e w' ⟨rfl, rfl⟩
      exact ⟨_, _, _, rfl, hb, fun _ => ⟨rfl, key 4 rfl (by omega)⟩⟩
  · have hk := okB_neg size n (by omega)
    rw [hk]
    rcases sizeB_cases hz with rfl | rfl | rfl
    · refine (digits1_neg n w (by omega)).mono ?_
      rintro e w' ⟨rfl, hb⟩
      exact ⟨_, _, _, rfl, hb, fun h => by cases h⟩
    · refine (digits2_neg n w (by omega)).mono ?_
      rintro e w' ⟨rfl, hb⟩
      exact ⟨_, _, _, rfl, hb, fun h => by cases h⟩
    · refine (digits4_neg n w (by omega)).mono ?_
      rintro e w' ⟨rfl, hb⟩
      exact ⟨_, _, _, rfl, hb, fun h => by cases h⟩

theorem ownsRow_below {w w' : World} {base : Nat} {e : TypeId} {size : Nat} {v : Value} {n : Nat} {xs : List Value} (h : w.ownsRow base e size v n xs) (hb : Below w.heap.size w w') : w'.ownsRow base e size v n xs := by
  refine ⟨h.1, ?_⟩
  rcases h.2 with hn | ⟨g, cap, cur, rfl, hbb, hgg, rest⟩
  · exact .inl hn
  · exact .inr ⟨g, cap, cur, rfl, hbb, by rw [hb.block g (Array.getElem?_eq_some_iff.1 hgg).1]; exact hgg, rest⟩

theorem putE_no {size : Int} {lb : Nat} {l : List Int} (h : fitsB size l = false) : putE size lb l = 1 := by simp [putE, h]
theorem putL_no {size : Int} {bs l : List Int} (h : putE size bs.length l ≠ 0) : putL size bs l = [] := by rw [putL, if_neg h]

theorem ret_tup {a b : Int} {v : Value} (h : a = b) : Ending.returned (.tuple #[v, .int .i64 a]) = .returned (.tuple #[v, .int .i64 b]) := by rw [h]

set_option maxHeartbeats 1000000 in
theorem refPut_any (ab al : Option Addr) (lb cb ll cl : Nat) (size : Int) (bs l : List Int) (w : World) (hb : Lies .u8 w ab lb cb bs) (hl : Lies .i64 w al ll cl l) (hwf : ∀ x ∈ l, (Lit.int .i64 x).wf = true) (hlb : lb ≤ 10000) (hll : ll ≤ 10000) :
    Calls Try.prog 8 #[.slice ab lb cb, .int .i64 size, .slice al ll cl] w fun e w' => ∃ v, e = .returned (.tuple #[v, .int .i64 (putE size bs.length l)]) ∧
      w'.ownsRow w.heap.size 5 1 v (putL size bs l).length (u8s (putL size bs l)) ∧ Below w.heap.size w w' := by
  have HB := hid hb
  have HL := hid hl
  have HW := hid hwf
  obtain ⟨i0, hi, hz0, hz1, hz2⟩ := info_parts info5
  clear hb hl hwf
  cases hz : sizeB size
  · have hE : putE size bs.length l = 1 := putE_no (by simp [fitsB, hz])
    have hL := putL_no (size := size) (bs := bs) (l := l) (by rw [hE]; omega)
    rw [hE, hL]
    clear hE hL
    go_enter Try.func8, Try.ntmps8
    go_wp2_with (go_at_call 9; refine (refSize_any _ _).mono ?_; rintro e w ⟨rfl, rfl⟩)
    go_ret2
    exact ⟨_, rfl, World.ownsRow_nil _ _ _ _, Below.refl _ _⟩
  · have HZ := hid hz
    have hb0 : Below w.heap.size w (w.alloc (.cells #[] 5)) := balloc (Below.refl _ _) _
    have B0 := hid (HB.out.below hb0)
    have O0 := hid (World.ownsRow_made (e := 5) (size := 1) (base := w.heap.size) w #[] 0 (Nat.le_refl _) (by decide) (by simp))
    have HQ : Hid (∀ k, k ≤ ll → (bs ++ bytesOf size (l.take k)).length ≤ lb + 4 * k) := by
      intro k hk
      rw [List.length_append, bytesOf_length _ _ HZ.out, HB.out.1]
      have : size.toNat * (l.take k).length ≤ 4 * k := Nat.mul_le_mul (by rcases sizeB_cases HZ.out with rfl | rfl | rfl <;> decide) (by simp; omega)
      omega
    clear hz hb0
    go_enter Try.func8, Try.ntmps8
    go_wp2_with (first | (go_at_call 9; refine (refSize_any _ _).mono ?_; rintro e w ⟨rfl, rfl⟩; rw [HZ.out]) | (at_builtin; refine wpList_append_own_any _ rfl _ _ 22 rfl w.heap.size 5 i0 (.int .u8 0) 1 1 Try.underlying22 hi hz0 hz1 hz2 rfl (by decide) _ _ _ rfl O0.out ab lb cb (u8s bs) rfl ?c1 B0.out.isNil B0.out.cells (ints_oneCell8 _ _) ?c2 ?c3 ?c4 ?_))
    case c1 => simp [u8s]; exact HB.out.1
    case c2 => unfold maxLen; omega
    case c3 => omega
    case c4 => simp
    intro v1 w1 hown1 hb1
    have hb1' : Below w.heap.size w w1 := (balloc (Below.refl _ _) _).trans hb1
    have O1 := hid (ownsRow_u8 (ys := u8s (bs ++ bytesOf size (l.take 0))) (m := (bs ++ bytesOf size (l.take 0)).length) hown1 (by simp [bytesOf]; exact HB.out.1.symm) (by simp [bytesOf]))
    clear hown1 hb1 B0 O0
    go_wp2
    go_loopw [8, 9] (fun v i wr => ∃ k : Nat, k ≤ ll ∧ i = .int .i64 k ∧ wr.ownsRow w.heap.size 5 1 v (bs ++ bytesOf size (l.take k)).length (u8s (bs ++ bytesOf size (l.take k))) ∧ Below w.heap.size w wr ∧ Hid ((l.take k).all (okB size) = true)) (fun _ i _ => ll - (intOf i).toNat)
    case atStart => exact ⟨0, Nat.zero_le _, rfl, O1.out, hb1', rfl⟩
    case round =>
      obtain ⟨k, hk, rfl, hown, hbr, hall⟩ := hrel
      by_cases hlt : k < ll
      · obtain ⟨b, off, rfl, hcell0⟩ := HL.out.2.2.2.2 k hlt
        have hcell : wr.cell? ⟨b, off + k, none⟩ = _ := (hbr.cell (p := ⟨b, off + k, none⟩) (World.block_lt_of_cell? w _ hcell0)).trans hcell0
        clear hcell0
        have hkl : k < l.length := by rw [HL.out.1]; exact hlt
        have hwx := hid (HW.out (l.getD k 0) (by simp [hkl]))
        have HS := hid (bytesOf_snoc size l k hkl)
        have HT := hid (all_take_succ l k hkl (okB size))
        have HF := hid (all_false l k hkl (okB size))
        have hln := HQ.out k hk
        generalize l.getD k 0 = x at *
        generalize bytesOf size (l.take k) = B at *
        clear hkl
        have HO := hid hown
        clear hown
        have hlt' : (k : Int) < (ll : Int) := by omega
        go_wp2_with fail
        refine (digits_any size x _ HZ.out hwx.out).mono ?_
        rintro e w2 ⟨a2, k2, c2, rfl, hb2, hl2⟩
        have O2 := hid (ownsRow_below HO.out hb2)
        have hb2' := bthen hbr hb2
        cases hok : okB size x
        · go_wp2_with fail
          go_ret2
          have hf : fitsB size l = false := by simp [fitsB, HF.out hok]
          have hE : putE size bs.length l = 1 := putE_no hf
          have hL := putL_no (size := size) (bs := bs) (l := l) (by rw [hE]; omega)
          rw [hE, hL]
          exact ⟨_, rfl, World.ownsRow_nil _ _ _ _, hb2'⟩
        · obtain ⟨hk2, hl2'⟩ := hl2 hok
          have L2 := hid hl2'
          have HK2 := hid hk2
          have hd4 : k2 ≤ 4 := by rw [hk2, digs_length size x HZ.out]; rcases sizeB_cases HZ.out with rfl | rfl | rfl <;> decide
          have hlk : k2 ≤ c2 := hl2'.2.1
          clear hl2 hl2' hk2 HF
          have HOK := hid hok
          clear hok
          go_wp2_with (at_builtin; refine wpList_append_own_any _ rfl _ _ 22 rfl w.heap.size 5 i0 (.int .u8 0) 1 1 Try.underlying22 hi hz0 hz1 hz2 rfl (by decide) _ _ _ rfl O2.out a2 k2 c2 (u8s (digs size x)) rfl ?d1 L2.out.isNil L2.out.cells (ints_oneCell8 _ _) ?d2 ?d3 ?d4 ?_)
          case d1 => simp [u8s]; exact HK2.out.symm
          case d2 => unfold maxLen; omega
          case d3 => omega
          case d4 => exact hb2'.size
          intro v3 w3 hown3 hb3
          have O3 := hid hown3
          have hb3' := hb2'.trans hb3
          clear hown3 hb3
          go_wp2
          go_roundw
          case rel => exact ⟨k + 1, by omega, by go_num, ownsRow_u8 O3.out (by rw [HS.out, HK2.out]; simp; omega) (by rw [HS.out]; simp [u8s]), hb3', by rw [Hid, HT.out, hall.out, HOK.out]; rfl⟩
          case measure => simp [intOf]; omega
      · obtain rfl : k = ll := by omega
        rw [List.take_of_length_le (by rw [HL.out.1]; exact Nat.le_refl _)] at hown hall
        have hlen : (bs ++ bytesOf size l).length = lb + size.toNat * k := by rw [List.length_append, bytesOf_length _ _ HZ.out, HB.out.1, HL.out.1]
        have hf : fitsB size l = true := by simp only [fitsB, HZ.out, hall.out]; rfl
        have hbd := HQ.out k (Nat.le_refl _)
        rw [List.take_of_length_le (by rw [HL.out.1]; exact Nat.le_refl _)] at hbd
        obtain ⟨a5, cap5, rfl, hl5, _⟩ := owns_lies hown
        have HO := hid hown
        by_cases hlong : 1280 < (bs ++ bytesOf size l).length
        · have hE : putE size bs.length l = 2 := by rw [putE, if_pos hf, if_pos (by rw [HB.out.1, HL.out.1, ← hlen]; exact hlong)]
          have hL := putL_no (size := size) (bs := bs) (l := l) (by rw [hE]; omega)
          have HE := hid hE
          have HLL := hid hL
          generalize (bs ++ bytesOf size l).length = N at *
          clear hE hL hown hl5 hlen hf
          go_wp2
          go_ret2
          rw [HE.out, HLL.out]
          exact ⟨_, rfl, World.ownsRow_nil _ _ _ _, hbr⟩
        · have hE : putE size bs.length l = 0 := by rw [putE, if_pos hf, if_neg (by rw [HB.out.1, HL.out.1, ← hlen]; exact hlong)]
          have hL : putL size bs l = bs ++ bytesOf size l := by rw [putL, if_pos hE]
          have HE := hid hE
          have HLL := hid hL
          have hd : decide ((1280 : Int) < ((bs ++ bytesOf size l).length : Int)) = false := by simp only [decide_eq_false_iff_not]; omega
          generalize hN : (bs ++ bytesOf size l).length = N at *
          have HN := hid hN
          clear hE hL hown hl5 hlen hf hN
          go_wp2
          go_ret2
          rw [HE.out, HLL.out, HN.out]
          exact ⟨_, rfl, HO.out, hbr⟩
end Go.Proofs.Ytlfblldaiinghaa
