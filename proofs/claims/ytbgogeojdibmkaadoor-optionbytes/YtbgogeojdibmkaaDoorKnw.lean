/- The chapter's examples. -/
import Derived.Test.YtbgogeojdibmkaaDoorSlo
namespace Go.Proofs.YtbgogeojdibmkaaDoor
open Go.ChangeShapes Go.WideShapes Go.ChangeAt Go.RowKit Go.Deep
set_option linter.unusedVariables false
set_option linter.unusedSimpArgs false

/-- One option in a slice of its own. -/
theorem opts_one (w : World) (t : TypeId) (x : Ov) (h : x.ok w) : Opts (w.alloc (.cells x.cs t)) (some ⟨w.heap.size, 0, none⟩) 1 1 [x] := by
  refine ⟨rfl, Nat.le_refl _, by decide, (fun h => by cases h), fun k hk => ⟨w.heap.size, 0, rfl, ?_⟩, ?_⟩
  · obtain rfl : k = 0 := by omega
    exact (Row.new w t x.cs).part
  · intro o ho
    rw [List.mem_singleton.1 ho]
    exact h.below (balloc (Below.refl _ _) _)
def ex1 : List Int := [0, 0, 5, 255]
def po1 : Po := ⟨6, [0, 0, 5, 255], zeros, []⟩
def po2 : Po := ⟨1, [2], zeros, []⟩
theorem ex1_ok : (encE [po1], encL [po1]) = (0, [6, 4, 0, 0, 5, 255]) := by kernel_rfl
theorem ex2_ok : (encE [po2], encL [po2]) = (0, [1, 2, 0, 0]) := by kernel_rfl
theorem ex3_ok : wordOf 3 = ⟨#[114, 111, 117, 116, 101]⟩ := by kernel_rfl
theorem lies_lit (kd : IntKind) (w : World) (cs : Array Value) (t : TypeId) (l : List Int) (n : Nat) (h : cs.toList = l.map (Value.int kd)) (hn : l.length = n) (hs : n ≤ 100) : Lies kd (w.alloc (.cells cs t)) (some ⟨w.heap.size, 0, none⟩) n n l := by
  subst hn; exact lies_new kd w cs t l h hs
theorem enc_at {B : Nat} (a : Option Addr) (n cap : Nat) (L : List Ov) (P : List Po) (l : List Int) (w : World) (hL : Opts w a n cap L) (hV : Vars B w) (hn : n ≤ 1000) (hP : pos L = P) (he : (encE P, encL P) = (0, l)) :
    Calls Tryd.prog 9 #[.slice a n cap] w fun e w' => ∃ v c, e = .returned (.tuple #[.slice v l.length c, .int .i64 0]) ∧ Lies .u8 w' v l.length c l ∧ Below w.heap.size w w' := by
  refine (encode_any a n cap L w hL hV hn).mono ?_
  rintro e w' ⟨v, rfl, hown, hb⟩
  have h2 : encL P = l := congrArg Prod.snd he
  rw [hP, h2] at hown
  obtain ⟨va, vc, rfl, hl, _⟩ := owns_lies hown
  refine ⟨va, vc, ?_, hl, hb⟩
  rw [hP, show encE P = 0 from congrArg Prod.fst he]
set_option maxHeartbeats 1600000 in
theorem known_any {B : Nat} (w : World) (hV : Vars B w) : Calls Tryd.prog 18 #[] w fun e w' => e = .returned (.bool true) ∧ Below w.heap.size w w' := by
  have B1 := hid (balloc (Below.refl w.heap.size w) (.cells #[.int .i64 0, .int .i64 0, .int .i64 5, .int .i64 255] 3))
  have L1 := hid (lies_lit .i64 w #[.int .i64 0, .int .i64 0, .int .i64 5, .int .i64 255] 3 [0, 0, 5, 255] 4 rfl rfl (by decide))
  have V1 := hid (hV.below B1.out)
  have zo : Oct [] := fun x hx => by cases hx
  clear hV
  go_enter Tryd.func18, Tryd.ntmps18
  go_wp2_with (first
    | (refine bdO2 o43 _ _ rfl rfl 6 ⟨some ⟨w.heap.size, 0, none⟩, 4, 4, [0, 0, 5, 255]⟩ rfl rfl ?_)
    | (refine bsO s23 rfl _ rfl ⟨6, ⟨some ⟨w.heap.size, 0, none⟩, 4, 4, [0, 0, 5, 255]⟩, zeros, Txt.none⟩ adr_zeros rfl ?_))
  have hs1 : (w.alloc (.cells #[.int .i64 0, .int .i64 0, .int .i64 5, .int .i64 255] 3)).heap.size = w.heap.size + 1 := World.size_alloc ..
  generalize hw1 : w.alloc (.cells #[.int .i64 0, .int .i64 0, .int .i64 5, .int .i64 255] 3) = w1 at *
  have OP := hid (opts_one w1 43 ⟨6, ⟨some ⟨w.heap.size, 0, none⟩, 4, 4, [0, 0, 5, 255]⟩, zeros, Txt.none⟩ ⟨L1.out, adr_zeros, Lies.nil _ _, zo⟩)
  rw [hs1] at OP
  have BA := hid (balloc (Below.refl w1.heap.size w1) (.cells (Ov.cs ⟨6, ⟨some ⟨w.heap.size, 0, none⟩, 4, 4, [0, 0, 5, 255]⟩, zeros, Txt.none⟩) 43))
  have V2 := hid (V1.out.below BA.out)
  have B2 := hid (bthen B1.out BA.out)
  clear hw1 hs1
  refine (enc_at _ 1 1 _ [po1] _ _ OP.out V2.out (by decide) rfl ex1_ok).mono ?_
  rintro e w2 ⟨a2, c2, rfl, hl2, hb2⟩
  have L2 := hid hl2
  have B3 := hid (bthen B2.out hb2)
  have V3 := hid (V2.out.below hb2)
  clear hl2 hb2 OP BA V2 B2 V1 B1 L1
  have B4 := hid (balloc (Below.refl w2.heap.size w2) (.cells #[.int .i64 2] 3))
  have L4 := hid (lies_lit .i64 w2 #[.int .i64 2] 3 [2] 1 rfl rfl (by decide))
  have V4 := hid (V3.out.below B4.out)
  have hs4 : (w2.alloc (.cells #[.int .i64 2] 3)).heap.size = w2.heap.size + 1 := World.size_alloc ..
  go_wp2_with (first
    | (refine bdO2 o43 _ _ rfl rfl 1 ⟨some ⟨w2.heap.size, 0, none⟩, 1, 1, [2]⟩ rfl rfl ?_)
    | (refine bsO s23 rfl _ rfl ⟨1, ⟨some ⟨w2.heap.size, 0, none⟩, 1, 1, [2]⟩, zeros, Txt.none⟩ adr_zeros rfl ?_))
  generalize hw4 : w2.alloc (.cells #[.int .i64 2] 3) = w4 at *
  have OP := hid (opts_one w4 43 ⟨1, ⟨some ⟨w2.heap.size, 0, none⟩, 1, 1, [2]⟩, zeros, Txt.none⟩ ⟨L4.out, adr_zeros, Lies.nil _ _, zo⟩)
  rw [hs4] at OP
  have BA := hid (balloc (Below.refl w4.heap.size w4) (.cells (Ov.cs ⟨1, ⟨some ⟨w2.heap.size, 0, none⟩, 1, 1, [2]⟩, zeros, Txt.none⟩) 43))
  have V5 := hid (V4.out.below BA.out)
  have B5 := hid (bthen B4.out BA.out)
  clear hw4 hs4
  refine (enc_at _ 1 1 _ [po2] _ _ OP.out V5.out (by decide) rfl ex2_ok).mono ?_
  rintro e w6 ⟨a6, c6, rfl, hl6, hb6⟩
  have L6 := hid hl6
  have B6 := hid (bthen B5.out hb6)
  have B7 := hid (bthen B3.out B6.out)
  have V6 := hid (V5.out.below hb6)
  have L7 := hid (L2.out.below B6.out)
  clear hl6 hb6 OP BA V5 B5 V4 B4 L4 L2 B3 V3 B6
  have LA := hid (lies_lit .u8 w6 #[.int .u8 6, .int .u8 4, .int .u8 0, .int .u8 0, .int .u8 5, .int .u8 255] 5 [6, 4, 0, 0, 5, 255] 6 rfl rfl (by decide))
  have BA := hid (balloc (Below.refl w6.heap.size w6) (.cells #[.int .u8 6, .int .u8 4, .int .u8 0, .int .u8 0, .int .u8 5, .int .u8 255] 5))
  go_wp2_with fail
  generalize hw7 : w6.alloc (.cells #[.int .u8 6, .int .u8 4, .int .u8 0, .int .u8 0, .int .u8 5, .int .u8 255] 5) = w7 at *
  refine (same_any a2 _ 6 c2 6 6 [6, 4, 0, 0, 5, 255] [6, 4, 0, 0, 5, 255] _ (L7.out.below BA.out) LA.out).mono ?_
  rintro e w8 ⟨rfl, q, rfl⟩
  have BB := hid (bdrew (bthen B7.out BA.out) q)
  have L8 := hid ((L6.out.below BA.out).drewN q)
  have V8 := hid ((V6.out.below BA.out).drewN q)
  generalize hw9 : w7.drewN q = w9 at *
  have LC := hid (lies_lit .u8 w9 #[.int .u8 1, .int .u8 2, .int .u8 0, .int .u8 0] 5 [1, 2, 0, 0] 4 rfl rfl (by decide))
  have BC := hid (balloc (Below.refl w9.heap.size w9) (.cells #[.int .u8 1, .int .u8 2, .int .u8 0, .int .u8 0] 5))
  rw [show (([6, 4, 0, 0, 5, 255] : List Int) == [6, 4, 0, 0, 5, 255]) = true from rfl]
  clear hw9 hw7 LA L7 L6 V6 B7 BA
  go_wp2_with fail
  generalize hw10 : w9.alloc (.cells #[.int .u8 1, .int .u8 2, .int .u8 0, .int .u8 0] 5) = w10 at *
  refine (same_any a6 _ 4 c6 4 4 [1, 2, 0, 0] [1, 2, 0, 0] _ (L8.out.below BC.out) LC.out).mono ?_
  rintro e w11 ⟨rfl, q2, rfl⟩
  have BD := hid (bdrew (bthen BB.out BC.out) q2)
  have V9 := hid ((V8.out.below BC.out).drewN q2)
  rw [show (([1, 2, 0, 0] : List Int) == [1, 2, 0, 0]) = true from rfl]
  generalize hw12 : w10.drewN q2 = w12 at *
  clear hw12 hw10 LC L8 V8 BB BC
  go_wp2_with fail
  refine (word_any 3 _ V9.out).mono ?_
  rintro e w12 ⟨rfl, rfl⟩
  rw [ex3_ok]
  go_wp2_with fail
  go_ret
  exact ⟨rfl, BD.out⟩
end Go.Proofs.YtbgogeojdibmkaaDoor
