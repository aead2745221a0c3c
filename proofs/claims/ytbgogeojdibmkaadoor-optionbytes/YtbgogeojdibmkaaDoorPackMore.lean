/- What Within, Peek and Many of pack's cursor answer: contracts. -/
import Derived.Test.YtbgogeojdibmkaaDoorPackMeth
import Derived.Deep.RegionWith
namespace Go.Proofs.YtbgogeojdibmkaaDoor
open Go.ChangeShapes Go.WideShapes Go.ChangeAt Go.RowKit
set_option linter.unusedVariables false
set_option linter.unusedSimpArgs false

theorem within_nil (w : World) (n : Int) :
    Calls Tryd.prog 52 #[.pointer none, .int .i64 n] w fun e w' => ∃ c a cap, e = .returned (.pointer (some ⟨c, 0, none⟩)) ∧ CurAt w' c a 0 cap [] 0 13 ∧ Below w.heap.size w w' ∧ w.heap.size ≤ c := by
  go_enter Tryd.func52, Tryd.ntmps52
  go_wp2_with fail
  refine (read_nil _ _ _).mono ?_
  rintro e w1 ⟨rfl, rfl⟩
  go_wp2_with fail
  refine (over_any none 0 0 [] _ (Lies.nil _ _) (fun x hx => by cases hx) (by omega)).mono ?_
  rintro e w1 ⟨c, a, cap, rfl, hc1, hb1, hc2, hc3⟩
  have HC1 := hid hc1
  have HB1 := hid hb1
  clear hc1 hb1
  go_wp2_with fail
  refine (err_nil _).mono ?_
  rintro e w1 ⟨rfl, rfl⟩
  go_wp2_with fail
  refine (spoil_now _ c a 0 cap 0 [] 13 HC1.out).mono ?_
  rintro e w2 ⟨rfl, hc4, hg4, hs4⟩
  have HC4 := hid hc4
  have HG4 := hid hg4
  clear hc4 hg4 hs4
  go_wp2
  go_ret
  exact ⟨c, a, cap, rfl, HC4.out, Below.grown HB1.out HG4.out HB1.out.size (fun k hk => by cases hk; exact hc2), hc2⟩

set_option maxHeartbeats 400000 in
theorem within_any (w : World) (c : Nat) (a : Option Addr) (len cap at_ : Nat) (l : List Int) (er n : Int) (h : CurAt w c a len cap l at_ er) :
    Calls Tryd.prog 52 #[.pointer (some ⟨c, 0, none⟩), .int .i64 n] w fun e w' => ∃ c2 a2 cap2, e = .returned (.pointer (some ⟨c2, 0, none⟩)) ∧
      CurAt w' c2 a2 (rdN 1 n (len - at_) er) cap2 ((l.drop at_).take (rdN 1 n (len - at_) er)) 0 (rdE 1 n (len - at_) er) ∧
      CurAt w' c a len cap l (at_ + rdN 1 n (len - at_) er) (rdE 1 n (len - at_) er) ∧ w.grownBy w' (some c) ∧ w.heap.size ≤ c2 := by
  have H := hid h
  have hm0 := rdN_le 1 n (len - at_) er
  have hs := h.small
  have ho := hid (h.oct.cut at_ (rdN 1 n (len - at_) er))
  clear h
  go_enter Tryd.func52, Tryd.ntmps52
  go_wp2_with fail
  refine (read_any _ c a len cap at_ l er 1 n H.out).mono ?_
  rintro e w1 ⟨a1, rfl, hl1, hc1, hg1, hs1⟩
  have HL1 := hid hl1
  have HC1 := hid hc1
  have HG1 := hid hg1
  have HS1 := hid hs1
  clear hl1 hc1 hg1 hs1
  generalize hm : rdN 1 n (len - at_) er = m at *
  generalize he : rdE 1 n (len - at_) er = er' at *
  have HM := hid hm
  have HE := hid he
  clear hm he
  go_wp2_with fail
  refine (over_any _ _ _ _ _ HL1.out ho.out (by omega)).mono ?_
  rintro e w2 ⟨c2, a2, cap2, rfl, hc2, hb2, hlo2, hhi2⟩
  have HC2 := hid hc2
  have HB2 := hid hb2
  have hcc := HC1.out.below HB2.out
  have HCC := hid hcc
  have h2 := hcc.cell2
  clear hc2 hb2 hcc
  go_wp2_with fail
  refine (err_any _ _ _ h2).mono ?_
  rintro e w2 ⟨rfl, rfl⟩
  go_wp2_with fail
  refine (spoil_now _ c2 a2 m cap2 0 _ er' HC2.out).mono ?_
  rintro e w3 ⟨rfl, hc4, hg4, hs4⟩
  have HC4 := hid hc4
  have HG4 := hid hg4
  clear hc4 hg4 hs4
  go_wp2
  go_ret
  have hlt1 : c < w1.heap.size := HC1.out.lt
  rw [HM.out, HE.out]
  refine ⟨c2, a2, cap2, rfl, HC4.out, HCC.out.grown HC2.out.noU8 (by omega) HG4.out, ?_, by have := HS1.out; omega⟩
  have hb3 : Below w1.heap.size w1 w3 := Below.grown HB2.out HG4.out HB2.out.size (fun k hk => by cases hk; exact hlo2)
  exact grownBy_below HG1.out hb3

/-- How many bytes 'Peek' tells. -/
def pkN (n : Int) (left : Nat) (er : Int) : Nat := if er = 0 ∧ 1 ≤ n then min n.toNat left else 0
theorem pkN_le (n : Int) (left : Nat) (er : Int) : pkN n left er ≤ left := by unfold pkN; split <;> omega

theorem wahead_int (w : World) (c : Nat) (a : Option Addr) (len cap at_ n : Nat) (z : Int) (hz : z = n) (h0 : w.cell? ⟨c, 0, none⟩ = some (.slice a len cap)) (h1 : w.cell? ⟨c, 1, none⟩ = some (.int .i64 at_)) (hle : at_ + n ≤ len) (hlc : len ≤ cap) (hs : len ≤ 100000) :
    Calls Tryd.prog 76 #[.pointer (some ⟨c, 0, none⟩), .int .i64 z] w fun e w' => e = .returned (.slice (cutA a at_ n) n n) ∧ ∃ q, w' = w.drewN q := by
  subst hz; exact wahead_any w c a len cap at_ n h0 h1 hle hlc hs

end Go.Proofs.YtbgogeojdibmkaaDoor
