/- What the exported methods of pack's cursor answer: contracts. -/
import Derived.Test.YtbgogeojdibmkaaDoorPackRead
namespace Go.Proofs.YtbgogeojdibmkaaDoor
open Go.ChangeShapes Go.WideShapes Go.ChangeAt Go.RowKit
set_option linter.unusedVariables false
set_option linter.unusedSimpArgs false

theorem Oct.cut {l : List Int} (h : Oct l) (lo n : Nat) : Oct ((l.drop lo).take n) := fun x hx => h x (List.mem_of_mem_drop (List.mem_of_mem_take hx))
theorem CurAt.below {w w' : World} {c : Nat} {a : Option Addr} {len cap : Nat} {l : List Int} {at_ : Nat} {er : Int} (h : CurAt w c a len cap l at_ er) (hb : Below w.heap.size w w') : CurAt w' c a len cap l at_ er :=
  ⟨(hb.block c (Array.getElem?_eq_some_iff.1 h.block).1).trans h.block, h.lies.below hb, h.oct, h.le, h.small⟩
theorem CurAt.lt {w : World} {c : Nat} {a : Option Addr} {len cap : Nat} {l : List Int} {at_ : Nat} {er : Int} (h : CurAt w c a len cap l at_ er) : c < w.heap.size := (Array.getElem?_eq_some_iff.1 h.block).1
theorem CurAt.grown {w w' : World} {c d : Nat} {a : Option Addr} {len cap : Nat} {l : List Int} {at_ : Nat} {er : Int} (h : CurAt w c a len cap l at_ er) (hn : NoU8 w d) (hcd : c ≠ d) (hg : w.grownBy w' (some d)) : CurAt w' c a len cap l at_ er :=
  ⟨(hg.block c h.lt (fun e => hcd (Option.some.inj e))).trans h.block, h.lies.grown hn hg, h.oct, h.le, h.small⟩
theorem grownBy_below {w w1 w2 : World} {c : Option Nat} (h : w.grownBy w1 c) (hb : Below w1.heap.size w1 w2) : w.grownBy w2 c :=
  ⟨hb.os.trans h.os, hb.tape.trans h.tape, hb.output.trans h.output, Nat.le_trans h.size hb.size, fun k hk hne => (hb.block k (Nat.lt_of_lt_of_le hk h.size)).trans (h.block k hk hne)⟩

theorem rdN_one (size : Int) (left : Nat) (er : Int) : rdN size 1 left er ≤ 4 := by
  unfold rdN
  split
  · rename_i h
    cases hz : sizeB size
    · exfalso
      unfold rdE at h
      split at h
      · rw [if_pos (Or.inr hz)] at h; omega
      · omega
    · rcases sizeB_cases hz with rfl | rfl | rfl <;> omega
  · omega

theorem take_nil (w : World) (size : Int) : Calls Tryd.prog 51 #[.pointer none, .int .i64 size] w fun e w' => e = .returned (.int .i64 0) ∧ w' = w := by
  go_enter Tryd.func51, Tryd.ntmps51
  go_wp2_with (first | (go_at_call 65; refine (read_nil _ _ _).mono ?_; rintro e w1 ⟨rfl, rfl⟩) | (go_at_call 64; refine (number_any none 0 0 [] _ (Lies.nil _ _) (by omega) (fun x hx => by cases hx)).mono ?_; rintro e w1 ⟨rfl, rfl⟩))
  go_ret
  exact ⟨rfl, rfl⟩

/-- The number that is read. -/
def takeV (size : Int) (l : List Int) (at_ len : Nat) (er : Int) : Int := numOf ((l.drop at_).take (rdN size 1 (len - at_) er))

theorem take_any (w : World) (c : Nat) (a : Option Addr) (len cap at_ : Nat) (l : List Int) (er size : Int) (h : CurAt w c a len cap l at_ er) :
    Calls Tryd.prog 51 #[.pointer (some ⟨c, 0, none⟩), .int .i64 size] w fun e w' => e = .returned (.int .i64 (takeV size l at_ len er)) ∧
      CurAt w' c a len cap l (at_ + rdN size 1 (len - at_) er) (rdE size 1 (len - at_) er) ∧ w.grownBy w' (some c) ∧ w'.heap.size = w.heap.size := by
  have H := hid h
  have h4 := rdN_one size (len - at_) er
  have ho := hid (h.oct.cut at_ (rdN size 1 (len - at_) er))
  have HT : Hid (takeV size l at_ len er = _) := rfl
  clear h
  go_enter Tryd.func51, Tryd.ntmps51
  go_wp2_with fail
  refine (read_any _ c a len cap at_ l er size 1 H.out).mono ?_
  rintro e w1 ⟨a1, rfl, hl1, hc1, hg1, hs1⟩
  have HL1 := hid hl1
  have HC1 := hid hc1
  have HG1 := hid hg1
  have HS1 := hid hs1
  clear hl1 hc1 hg1 hs1
  go_wp2_with fail
  refine (number_any _ _ _ _ _ HL1.out h4 ho.out).mono ?_
  rintro e w1 ⟨rfl, rfl⟩
  go_wp2
  go_ret
  exact ⟨rfl, HC1.out, HG1.out, HS1.out⟩

theorem bytes_nil (w : World) (n : Int) : Calls Tryd.prog 67 #[.pointer none, .int .i64 n] w fun e w' => e = .returned (.slice none 0 0) ∧ w' = w := by
  go_enter Tryd.func67, Tryd.ntmps67
  go_wp2_with (first | (go_at_call 65; refine (read_nil _ _ _).mono ?_; rintro e w1 ⟨rfl, rfl⟩) | (go_at_call 48; refine (clone_nil _).mono ?_; rintro e w1 ⟨rfl, rfl⟩))
  go_ret
  exact ⟨rfl, rfl⟩

theorem bytes_any (w : World) (c : Nat) (a : Option Addr) (len cap at_ : Nat) (l : List Int) (er n : Int) (h : CurAt w c a len cap l at_ er) :
    Calls Tryd.prog 67 #[.pointer (some ⟨c, 0, none⟩), .int .i64 n] w fun e w' => ∃ v, e = .returned v ∧ w'.ownsRow w.heap.size 5 1 v (rdN 1 n (len - at_) er) (u8s ((l.drop at_).take (rdN 1 n (len - at_) er))) ∧
      CurAt w' c a len cap l (at_ + rdN 1 n (len - at_) er) (rdE 1 n (len - at_) er) ∧ w.grownBy w' (some c) := by
  have H := hid h
  have hm := rdN_le 1 n (len - at_) er
  have hs := h.small
  clear h
  go_enter Tryd.func67, Tryd.ntmps67
  go_wp2_with fail
  refine (read_any _ c a len cap at_ l er 1 n H.out).mono ?_
  rintro e w1 ⟨a1, rfl, hl1, hc1, hg1, hs1⟩
  have HL1 := hid hl1
  have HC1 := hid hc1
  have HG1 := hid hg1
  have HS1 := hid hs1
  clear hl1 hc1 hg1 hs1
  go_wp2_with fail
  refine (clone_any _ _ _ _ _ HL1.out (by omega)).mono ?_
  rintro e w2 ⟨v2, rfl, hown2, hb2⟩
  have HO2 := hid hown2
  have HB2 := hid hb2
  clear hown2 hb2
  go_wp2
  go_ret
  refine ⟨v2, rfl, ?_, HC1.out.below HB2.out, grownBy_below HG1.out HB2.out⟩
  have := HO2.out
  rw [HS1.out, HL1.out.1] at this
  exact this

theorem left_nil (w : World) : Calls Tryd.prog 34 #[.pointer none] w fun e w' => e = .returned (.int .i64 0) ∧ w' = w := by
  go_enter Tryd.func34, Tryd.ntmps34
  go_wp2
  go_ret
  exact ⟨rfl, rfl⟩
theorem left_any (w : World) (c : Nat) (a : Option Addr) (len cap at_ : Nat) (l : List Int) (er : Int) (h : CurAt w c a len cap l at_ er) :
    Calls Tryd.prog 34 #[.pointer (some ⟨c, 0, none⟩)] w fun e w' => e = .returned (.int .i64 ((len : Int) - at_)) ∧ ∃ q, w' = w.drewN q := by
  have h0 := h.cell0
  have h1 := h.cell1
  have hle := h.le
  have hsm := h.small
  clear h
  go_enter Tryd.func34, Tryd.ntmps34
  go_wp2_with (go_at_call 49; refine (wleft_any _ c a len cap at_ h0 h1 hle hsm).mono ?_; rintro e w1 ⟨rfl, q, rfl⟩)
  go_ret
  exact ⟨rfl, q, rfl⟩

theorem close_nil (w : World) : Calls Tryd.prog 54 #[.pointer none] w fun e w' => e = .returned (.int .i64 13) ∧ w' = w := by
  go_enter Tryd.func54, Tryd.ntmps54
  go_wp2_with (go_at_call 33; refine (err_nil _).mono ?_; rintro e w1 ⟨rfl, rfl⟩)
  go_ret
  exact ⟨rfl, rfl⟩
/-- What 'Close' tells. -/
def closeV (left : Nat) (er : Int) : Int := if er = 0 then (if 0 < left then 3 else 0) else er
theorem close_any (w : World) (c : Nat) (a : Option Addr) (len cap at_ : Nat) (l : List Int) (er : Int) (h : CurAt w c a len cap l at_ er) :
    Calls Tryd.prog 54 #[.pointer (some ⟨c, 0, none⟩)] w fun e w' => e = .returned (.int .i64 (closeV (len - at_) er)) ∧ ∃ q, w' = w.drewN q := by
  have h0 := h.cell0
  have h1 := h.cell1
  have h2 := h.cell2
  have hle := h.le
  have hsm := h.small
  clear h
  by_cases her : er = 0
  · subst her
    by_cases hlt : at_ < len
    · have HV : Hid (closeV (len - at_) 0 = 3) := by simp [Hid, closeV]; omega
      go_enter Tryd.func54, Tryd.ntmps54
      go_wp2_with (first | (go_at_call 33; refine (err_any _ _ _ h2).mono ?_; rintro e w1 ⟨rfl, rfl⟩) | (go_at_call 49; refine (wleft_any _ c a len cap at_ h0 h1 hle hsm).mono ?_; rintro e w1 ⟨rfl, q, rfl⟩))
      go_ret
      exact ⟨ret_int HV.out.symm, q, rfl⟩
    · have HV : Hid (closeV (len - at_) 0 = 0) := by simp [Hid, closeV]; omega
      go_enter Tryd.func54, Tryd.ntmps54
      go_wp2_with (first | (go_at_call 33; refine (err_any _ _ _ h2).mono ?_; rintro e w1 ⟨rfl, rfl⟩) | (go_at_call 49; refine (wleft_any _ c a len cap at_ h0 h1 hle hsm).mono ?_; rintro e w1 ⟨rfl, q, rfl⟩))
      go_ret
      exact ⟨ret_int HV.out.symm, q, rfl⟩
  · have HV : Hid (closeV (len - at_) er = er) := by simp [Hid, closeV, her]
    have her' : (er != 0) = true := by rw [bne_iff_ne]; exact her
    go_enter Tryd.func54, Tryd.ntmps54
    go_wp2_with (first | (go_at_call 33; refine (err_any _ _ _ h2).mono ?_; rintro e w1 ⟨rfl, rfl⟩))
    go_ret
    exact ⟨ret_int HV.out.symm, 0, rfl⟩
end Go.Proofs.YtbgogeojdibmkaaDoor
