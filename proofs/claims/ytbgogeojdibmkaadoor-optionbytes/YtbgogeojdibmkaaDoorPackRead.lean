/- What reading with pack's cursor answers: contracts. -/
import Derived.Test.YtbgogeojdibmkaaDoorPackCur
namespace Go.Proofs.YtbgogeojdibmkaaDoor
open Go.ChangeShapes Go.WideShapes Go.ChangeAt Go.RowKit
set_option linter.unusedVariables false
set_option linter.unusedSimpArgs false

/-- What is wrong behind reading n numbers of a size, of so many bytes that are left. -/
def rdE (size n : Int) (left : Nat) (er : Int) : Int := if er = 0 then (if n < 0 ∨ sizeB size = false then 1 else if (left : Int) < size * n then 4 else 0) else er
/-- How many bytes are read then. -/
def rdN (size n : Int) (left : Nat) (er : Int) : Nat := if rdE size n left er = 0 then (size * n).toNat else 0

theorem rdN_le (size n : Int) (left : Nat) (er : Int) : rdN size n left er ≤ left := by
  by_cases h : rdE size n left er = 0
  · rw [rdN, if_pos h]
    unfold rdE at h
    split at h
    · split at h
      · omega
      · split at h <;> omega
    · omega
  · rw [rdN, if_neg h]; omega

theorem Lies.nil (kd : IntKind) (w : World) : Lies kd w none 0 0 [] := ⟨rfl, by omega, by decide, fun _ => rfl, fun k hk => by omega⟩

/-- What a call of 'read' leaves. -/
def ReadOk (w : World) (c : Nat) (a : Option Addr) (len cap at_ : Nat) (l : List Int) (er : Int) (size n : Int) (e : Ending) (w' : World) : Prop :=
  ∃ a', e = .returned (.slice a' (rdN size n (len - at_) er) (rdN size n (len - at_) er)) ∧ Lies .u8 w' a' (rdN size n (len - at_) er) (rdN size n (len - at_) er) ((l.drop at_).take (rdN size n (len - at_) er)) ∧
    CurAt w' c a len cap l (at_ + rdN size n (len - at_) er) (rdE size n (len - at_) er) ∧ w.grownBy w' (some c) ∧ w'.heap.size = w.heap.size

theorem readOk_no {w w' : World} {c : Nat} {a : Option Addr} {len cap at_ : Nat} {l : List Int} {er size n er' : Int} (hE : rdE size n (len - at_) er = er') (hN : er' ≠ 0) (h : CurAt w' c a len cap l at_ er') (hg : w.grownBy w' (some c)) (hs : w'.heap.size = w.heap.size) :
    ReadOk w c a len cap at_ l er size n (.returned (.slice none 0 0)) w' := by
  have h0 : rdN size n (len - at_) er = 0 := by unfold rdN; rw [hE, if_neg hN]
  refine ⟨none, ?_⟩
  rw [h0, hE]
  exact ⟨rfl, by simpa using Lies.nil .u8 w', h, hg, hs⟩

theorem read_nil (w : World) (size n : Int) : Calls Tryd.prog 65 #[.pointer none, .int .i64 size, .int .i64 n] w fun e w' => e = .returned (.slice none 0 0) ∧ w' = w := by
  go_enter Tryd.func65, Tryd.ntmps65
  go_wp2_with (go_at_call 33; refine (err_nil _).mono ?_; rintro e w1 ⟨rfl, rfl⟩)
  go_ret
  exact ⟨rfl, rfl⟩

theorem read_was (w : World) (c : Nat) (a : Option Addr) (len cap at_ : Nat) (l : List Int) (er size n : Int) (h : CurAt w c a len cap l at_ er) (her : er ≠ 0) :
    Calls Tryd.prog 65 #[.pointer (some ⟨c, 0, none⟩), .int .i64 size, .int .i64 n] w (ReadOk w c a len cap at_ l er size n) := by
  have he' : (er != 0) = true := by rw [bne_iff_ne]; exact her
  have h2 := h.cell2
  have H := hid h
  clear h
  go_enter Tryd.func65, Tryd.ntmps65
  go_wp2_with (go_at_call 33; refine (err_any _ _ _ h2).mono ?_; rintro e w1 ⟨rfl, rfl⟩)
  go_ret
  exact readOk_no (by simp [rdE, her]) her H.out (World.grownBy.refl _ _) rfl

theorem read_neg (w : World) (c : Nat) (a : Option Addr) (len cap at_ : Nat) (l : List Int) (size n : Int) (h : CurAt w c a len cap l at_ 0) (hn : n < 0) :
    Calls Tryd.prog 65 #[.pointer (some ⟨c, 0, none⟩), .int .i64 size, .int .i64 n] w (ReadOk w c a len cap at_ l 0 size n) := by
  have h2 := h.cell2
  have H := hid h
  clear h
  go_enter Tryd.func65, Tryd.ntmps65
  go_wp2_with (first | (go_at_call 33; refine (err_any _ _ _ h2).mono ?_; rintro e w1 ⟨rfl, rfl⟩) | (go_at_call 50; refine (spoil_now _ c a len cap at_ l 1 H.out).mono ?_; rintro e w1 ⟨rfl, hc1, hg1, hs1⟩; have HC1 := hid hc1; have HG1 := hid hg1; have HS1 := hid hs1; clear hc1 hg1 hs1))
  go_ret
  exact readOk_no (by simp [rdE, hn]) (by omega) HC1.out HG1.out HS1.out

theorem read_bad (w : World) (c : Nat) (a : Option Addr) (len cap at_ : Nat) (l : List Int) (size n : Int) (h : CurAt w c a len cap l at_ 0) (hn : 0 ≤ n) (hz : sizeB size = false) :
    Calls Tryd.prog 65 #[.pointer (some ⟨c, 0, none⟩), .int .i64 size, .int .i64 n] w (ReadOk w c a len cap at_ l 0 size n) := by
  have h2 := h.cell2
  have H := hid h
  have hn' : decide (n < 0) = false := by simp; omega
  clear h
  go_enter Tryd.func65, Tryd.ntmps65
  go_wp2_with (first | (go_at_call 33; refine (err_any _ _ _ h2).mono ?_; rintro e w1 ⟨rfl, rfl⟩) | (go_at_call 72; refine (isSize_any _ _).mono ?_; rintro e w1 ⟨rfl, rfl⟩) | (go_at_call 50; refine (spoil_now _ c a len cap at_ l 1 H.out).mono ?_; rintro e w1 ⟨rfl, hc1, hg1, hs1⟩; have HC1 := hid hc1; have HG1 := hid hg1; have HS1 := hid hs1; clear hc1 hg1 hs1))
  go_ret
  exact readOk_no (by simp [rdE, hz]) (by omega) HC1.out HG1.out HS1.out

set_option maxHeartbeats 400000 in
theorem read_end (w : World) (c : Nat) (a : Option Addr) (len cap at_ : Nat) (l : List Int) (size n : Int) (h : CurAt w c a len cap l at_ 0) (hn : 0 ≤ n) (hz : sizeB size = true) (hlt : ((len - at_ : Nat) : Int) < size * n) :
    Calls Tryd.prog 65 #[.pointer (some ⟨c, 0, none⟩), .int .i64 size, .int .i64 n] w (ReadOk w c a len cap at_ l 0 size n) := by
  have hE : rdE size n (len - at_) 0 = 4 := by simp [rdE, hz, hlt]; omega
  have HE := hid hE
  have h0 := h.cell0
  have h1 := h.cell1
  have h2 := h.cell2
  have hle := h.le
  have hsm := h.small
  have H := hid h
  have hn' : decide (n < 0) = false := by simp; omega
  clear h hE
  rcases sizeB_cases hz with rfl | rfl | rfl
  all_goals
    clear hz
    go_enter Tryd.func65, Tryd.ntmps65
    go_wp2_with (first | (go_at_call 33; refine (err_any _ _ _ h2).mono ?_; rintro e w1 ⟨rfl, rfl⟩) | (go_at_call 72; refine (isSize_any _ _).mono ?_; rintro e w1 ⟨rfl, rfl⟩; rw [show sizeB _ = true from rfl]) | (go_at_call 49; refine (wleft_any _ c a len cap at_ h0 h1 hle hsm).mono ?_; rintro e w1 ⟨rfl, q, rfl⟩) | (go_at_call 50; refine (spoil_now _ c a len cap at_ l 4 (H.out.drewN q)).mono ?_; rintro e w1 ⟨rfl, hc1, hg1, hs1⟩; have HC1 := hid hc1; have HG1 := hid hg1; have HS1 := hid hs1; clear hc1 hg1 hs1))
    go_ret
    exact readOk_no HE.out (by omega) HC1.out ((grownBy_drewN _ q _).trans HG1.out) HS1.out

theorem wpass_int (w : World) (c : Nat) (a : Option Addr) (len cap at_ n : Nat) (l : List Int) (er z : Int) (hz : z = n) (h : CurAt w c a len cap l at_ er) (hle : at_ + n ≤ len) :
    Calls Tryd.prog 73 #[.pointer (some ⟨c, 0, none⟩), .int .i64 z] w fun e w' => e = .returned (.slice (cutA a at_ n) n n) ∧ CurAt w' c a len cap l (at_ + n) er ∧ w.grownBy w' (some c) ∧ w'.heap.size = w.heap.size := by
  subst hz; exact wpass_any w c a len cap at_ n l er h hle

set_option maxHeartbeats 400000 in
theorem read_ok (w : World) (c : Nat) (a : Option Addr) (len cap at_ : Nat) (l : List Int) (size n : Int) (h : CurAt w c a len cap l at_ 0) (hn : 0 ≤ n) (hz : sizeB size = true) (hlt : size * n ≤ ((len - at_ : Nat) : Int)) :
    Calls Tryd.prog 65 #[.pointer (some ⟨c, 0, none⟩), .int .i64 size, .int .i64 n] w (ReadOk w c a len cap at_ l 0 size n) := by
  have hE : rdE size n (len - at_) 0 = 0 := by simp [rdE, hz, Int.not_lt.2 hlt]; omega
  have hN : rdN size n (len - at_) 0 = (size * n).toNat := by rw [rdN, if_pos hE]
  have HE := hid hE
  have HN := hid hN
  have h0 := h.cell0
  have h1 := h.cell1
  have h2 := h.cell2
  have hle := h.le
  have hsm := h.small
  have H := hid h
  have hn' : decide (n < 0) = false := by simp; omega
  clear h hE hN
  rcases sizeB_cases hz with rfl | rfl | rfl
  all_goals
    clear hz
    go_enter Tryd.func65, Tryd.ntmps65
    go_wp2_with (first | (go_at_call 33; refine (err_any _ _ _ h2).mono ?_; rintro e w1 ⟨rfl, rfl⟩) | (go_at_call 72; refine (isSize_any _ _).mono ?_; rintro e w1 ⟨rfl, rfl⟩; rw [show sizeB _ = true from rfl]) | (go_at_call 49; refine (wleft_any _ c a len cap at_ h0 h1 hle hsm).mono ?_; rintro e w1 ⟨rfl, q, rfl⟩))
    generalize hm : rdN _ n (len - at_) 0 = m at HN
    have HM := hid hm
    have hm2 := HN.out
    refine (wpass_int _ c a len cap at_ m l 0 _ (by rw [hm2]; omega) (H.out.drewN q) (by omega)).mono ?_
    clear hm hm2
    rintro e w1 ⟨rfl, hc1, hg1, hs1⟩
    have HC1 := hid hc1
    have HG1 := hid hg1
    have HS1 := hid hs1
    clear hc1 hg1 hs1
    go_wp2
    go_ret
    refine ⟨cutA a at_ m, ?_⟩
    rw [HM.out, HE.out]
    have hl1 := HC1.out.lies.part at_ m (by have := HC1.out.le; omega)
    exact ⟨rfl, hl1, HC1.out, (grownBy_drewN _ q _).trans HG1.out, HS1.out⟩

theorem read_any (w : World) (c : Nat) (a : Option Addr) (len cap at_ : Nat) (l : List Int) (er size n : Int) (h : CurAt w c a len cap l at_ er) :
    Calls Tryd.prog 65 #[.pointer (some ⟨c, 0, none⟩), .int .i64 size, .int .i64 n] w (ReadOk w c a len cap at_ l er size n) := by
  by_cases her : er = 0
  · subst her
    by_cases hn : n < 0
    · exact read_neg w c a len cap at_ l size n h hn
    · cases hz : sizeB size
      · exact read_bad w c a len cap at_ l size n h (by omega) hz
      · by_cases hlt : ((len - at_ : Nat) : Int) < size * n
        · exact read_end w c a len cap at_ l size n h (by omega) hz hlt
        · exact read_ok w c a len cap at_ l size n h (by omega) hz (by omega)
  · exact read_was w c a len cap at_ l er size n h her
end Go.Proofs.YtbgogeojdibmkaaDoor
