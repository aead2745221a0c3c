/- The chapter's examples hold. -/
import Derived.Test.YtlfblldaiinghaaMany
namespace Go.Proofs.Ytlfblldaiinghaa
open Go.ChangeShapes Go.WideShapes Go.ChangeAt Go.RowKit
set_option linter.unusedVariables false
set_option linter.unusedSimpArgs false

theorem bthen {w w1 w2 : World} (h : Below w.heap.size w w1) (k : Below w1.heap.size w1 w2) : Below w.heap.size w w2 := h.trans (k.mono h.size)
theorem bgrown {w w1 w2 : World} {c : Nat} (h : Below w.heap.size w w1) (k : w1.grownBy w2 (some c)) (hc : w.heap.size ≤ c) : Below w.heap.size w w2 := Below.grown h k h.size (fun j hj => by cases hj; exact hc)
theorem bdrew {w w1 : World} (h : Below w.heap.size w w1) (q : Nat) : Below w.heap.size w (w1.drewN q) := h.trans ⟨rfl, rfl, rfl, Nat.le_refl _, fun _ _ => rfl⟩
theorem balloc {w w1 : World} (h : Below w.heap.size w w1) (o : Obj) : Below w.heap.size w (w1.alloc o) := h.alloc h.size o

/-- Numbers that were just laid down. -/
theorem lies_new (kd : IntKind) (w : World) (cs : Array Value) (t : TypeId) (l : List Int) (h : cs.toList = l.map (Value.int kd)) (hs : l.length ≤ 100) : Lies kd (w.alloc (.cells cs t)) (some ⟨w.heap.size, 0, none⟩) l.length l.length l := by
  refine ⟨rfl, Nat.le_refl _, by unfold maxLen; omega, fun h => (by cases h), fun k hk => ⟨w.heap.size, 0, rfl, ?_⟩⟩
  have := World.news_of_block (heap_alloc_new w (.cells cs t)) k (.int kd (l.getD k 0)) (by rw [h]; simp [hk])
  rwa [Addr.add_lit] at this

set_option maxHeartbeats 1000000 in
theorem known_any (w : World) : Calls Try.prog 13 #[] w fun e w' => e = .returned (.bool true) ∧ Below w.heap.size w w' := by
  go_enter Try.func13, Try.ntmps13
  go_wp2_with fail
  have B0 := hid (balloc (Below.refl w.heap.size w) (.cells #[.int .i64 258] 3))
  refine (put_ok none _ 0 0 1 1 2 [] [258] _ (Lies.nil _ _) (lies_new .i64 w _ 3 [258] rfl (by decide)) (by decide) (by decide)).mono ?_
  rintro e w1 ⟨v1, rfl, hown1, hb1⟩
  obtain ⟨a1, cap1, rfl, hl1, _⟩ := owns_lies hown1
  have L1 := hid hl1
  have B1 := hid (bthen B0.out hb1)
  clear hown1 hb1 hl1
  generalize hX : ([] ++ bytesOf 2 [258] : List Int) = X at *
  obtain rfl : X = [1, 2] := hX.symm
  clear hX
  go_wp2_with fail
  refine (over_any _ 4 4 [0, 0, 1, 0] _ (lies_new .u8 w1 _ 5 [0, 0, 1, 0] rfl (by decide)) (by intro x hx; simp at hx; omega) (by decide)).mono ?_
  rintro e w2 ⟨c, a2, cap2, rfl, hc2, hb2, hlo2, hhi2⟩
  have C2 := hid hc2
  have hb2' := bthen (balloc (Below.refl w1.heap.size w1) _) hb2
  have L2 := hid (L1.out.below hb2')
  have B2 := hid (bthen B1.out hb2')
  have hcw : w.heap.size ≤ c := by have := B1.out.size; simp at hlo2; omega
  clear hc2 hb2 hb2' hlo2 hhi2
  go_wp2_with fail
  refine (over_any _ 1 1 [1] _ (lies_new .u8 w2 _ 5 [1] rfl (by decide)) (by intro x hx; simp at hx; omega) (by decide)).mono ?_
  rintro e w3 ⟨d, a3, cap3, rfl, hd3, hb3, hlo3, hhi3⟩
  have D3 := hid hd3
  have hb3' := bthen (balloc (Below.refl w2.heap.size w2) _) hb3
  have L3 := hid (L2.out.below hb3')
  have C3 := hid (C2.out.below hb3')
  have B3 := hid (bthen B2.out hb3')
  have hdw : w.heap.size ≤ d := by have := B2.out.size; simp at hlo3; omega
  have hcd : c ≠ d := by have := C2.out.lt; simp at hlo3; omega
  clear hd3 hb3 hb3' hlo3 hhi3
  go_wp2_with fail
  refine (take_any _ c a2 4 cap2 0 _ 0 4 C3.out).mono ?_
  rintro e w4 ⟨rfl, hc4, hg4, hs4⟩
  have C4 := hid hc4
  have D4 := hid (D3.out.grown C3.out.noU8 hcd.symm hg4)
  have L4 := hid (L3.out.grown C3.out.noU8 hg4)
  have B4 := hid (bgrown B3.out hg4 hcw)
  clear hc4 hg4 hs4
  rw [show takeV 4 [0, 0, 1, 0] 0 4 0 = 256 by decide]
  go_wp2_with fail
  refine (take_any _ d a3 1 cap3 0 _ 0 2 D4.out).mono ?_
  rintro e w5 ⟨rfl, hd5, hg5, hs5⟩
  have D5 := hid hd5
  have C5 := hid (C4.out.grown D4.out.noU8 hcd hg5)
  have L5 := hid (L4.out.grown D4.out.noU8 hg5)
  have B5 := hid (bgrown B4.out hg5 hdw)
  clear hd5 hg5 hs5
  rw [show takeV 2 [1] 0 1 0 = 0 by decide]
  go_wp2_with fail
  have hb6 : Below w5.heap.size w5 (w5.alloc (.cells #[.int .u8 1, .int .u8 2] 5)) := balloc (Below.refl _ _) _
  refine (same_len a1 _ 2 cap1 2 [1, 2] [1, 2] _ (L5.out.below hb6) (lies_new .u8 w5 _ 5 [1, 2] rfl (by decide))).mono ?_
  rintro e w6 ⟨rfl, q, rfl⟩
  rw [show (([1, 2] : List Int) == [1, 2]) = true by decide]
  have C6 := hid ((C5.out.below hb6).drewN q)
  have D6 := hid ((D5.out.below hb6).drewN q)
  have B6 := hid (bdrew (bthen B5.out hb6) q)
  clear hb6
  go_wp2_with fail
  generalize (w5.alloc (.cells #[.int .u8 1, .int .u8 2] 5)).drewN q = w6 at *
  refine (close_any _ c a2 4 cap2 _ _ _ C6.out).mono ?_
  rintro e w7 ⟨rfl, q7, rfl⟩
  rw [show closeV (4 - (0 + rdN 4 1 (4 - 0) 0)) (rdE 4 1 (4 - 0) 0) = 0 by decide]
  have D7 := hid (D6.out.drewN q7)
  have B7 := hid (bdrew B6.out q7)
  go_wp2_with fail
  refine (err_any _ d _ D7.out.cell2).mono ?_
  rintro e w7 ⟨rfl, rfl⟩
  rw [show rdE 2 1 (1 - 0) 0 = 4 by decide]
  go_wp2_with fail
  refine (at_any _ d _ D7.out.cell1).mono ?_
  rintro e w7 ⟨rfl, rfl⟩
  go_wp2_with fail
  go_ret
  exact ⟨rfl, B7.out⟩
end Go.Proofs.Ytlfblldaiinghaa
