/- What Pseudo and Check of package sum answer: contracts. -/
import Derived.Test.YtinfkjnneibklaaHdr
namespace Go.Proofs.Ytinfkjnneibklaa
open Go.ChangeShapes Go.WideShapes Go.ChangeAt Go.RowKit
set_option linter.unusedVariables false
set_option linter.unusedSimpArgs false

/-- What is wrong with a next header and a length. -/
def psE (next : Int) (n : Nat) : Int := if 0 ≤ next ∧ next ≤ 255 then (if 1280 < n then 2 else 0) else 1
/-- The checksum of a text with its pseudo-header. -/
def psV (f t : List Int) (next : Int) (l : List Int) : Int := if psE next l.length = 0 then 65535 - sumV (hdr f t next l.length ++ l) else 0

theorem box2 (w : World) (ty : TypeId) (f t : List Int) : Row ((w.alloc (.cells (arr f) ty)).alloc (.cells (arr t) ty)) w.heap.size ty f ∧ Row ((w.alloc (.cells (arr f) ty)).alloc (.cells (arr t) ty)) (w.heap.size + 1) ty t ∧
    Below w.heap.size w ((w.alloc (.cells (arr f) ty)).alloc (.cells (arr t) ty)) ∧ ((w.alloc (.cells (arr f) ty)).alloc (.cells (arr t) ty)).heap.size = w.heap.size + 1 + 1 := by
  have h1 := Row.new (w.alloc (.cells (arr f) ty)) ty t
  rw [show (w.alloc (.cells (arr f) ty)).heap.size = w.heap.size + 1 by simp] at h1
  exact ⟨(Row.new w ty f).below (balloc (Below.refl _ _) _), h1, balloc (balloc (Below.refl _ _) _) _, by simp⟩
theorem fits_one (next : Int) : fitsB 1 [next] = decide (0 ≤ next ∧ next ≤ 255) := by
  rw [Bool.eq_iff_iff]
  simp [fitsB, okB, top, show sizeB 1 = true by decide]
  omega
theorem ret_two {a b : Int} {k : IntKind} {c d : Int} (h : a = b) (h' : c = d) : Ending.returned (.tuple #[.int .i64 a, .int k c]) = .returned (.tuple #[.int .i64 b, .int k d]) := by rw [h, h']

set_option maxHeartbeats 800000 in
theorem pseudo_any (f t : List Int) (next : Int) (a : Option Addr) (n cap : Nat) (l : List Int) (w : World) (hf : Adr f) (ht : Adr t) (h : Lies .u8 w a n cap l) (ho : Oct l) :
    Calls Try.prog 13 #[.agg (arr f), .agg (arr t), .int .i64 next, .slice a n cap] w fun e w' => e = .returned (.tuple #[.int .i64 (psV f t next l), .int .i64 (psE next l.length)]) ∧ Below w.heap.size w w' := by
  obtain ⟨f1, t1, b1, z1⟩ := box2 w 50 f t
  have hln := h.1
  have F1 := hid f1
  have T1 := hid t1
  have B1 := hid b1
  have L1 := hid (h.below b1)
  have HF := hid hf
  have HT := hid ht
  have HO := hid ho
  have HV : Hid (∀ x, psE next l.length = x → x ≠ 0 → psV f t next l = 0) := by intro x hx h0; rw [psV, if_neg (by rw [hx]; exact h0)]
  have hnm : n ≤ maxLen := Nat.le_trans h.2.1 h.2.2.1
  unfold maxLen at hnm
  have NI := hid (lies_new .i64 ((w.alloc (.cells (arr f) 50)).alloc (.cells (arr t) 50)) #[.int .i64 next] 3 [next] rfl (by simp))
  rw [z1, show [next].length = 1 from rfl] at NI
  clear f1 t1 b1 z1 hf ht ho h
  by_cases hx : 0 ≤ next ∧ next ≤ 255
  · have HFit : Hid (fitsB 1 [next] = true) := by rw [Hid, fits_one]; simpa using hx
    by_cases hlong : 1280 < n
    · have HE : Hid (psE next l.length = 2) := by rw [Hid, psE, if_pos hx, if_pos (by omega)]
      clear HO
      go_enter Try.func13, Try.ntmps13
      go_wp2_with fail
      generalize (w.alloc (.cells (arr f) 50)).alloc (.cells (arr t) 50) = w1 at *
      refine (fits_any _ _ _ _ _ _ NI.out).mono ?_
      rintro e w2 ⟨rfl, rfl⟩
      rw [HFit.out]
      have B2 := hid (balloc B1.out (.cells #[.int .i64 next] 3))
      generalize w1.alloc (.cells #[.int .i64 next] 3) = w2 at *
      go_wp2_with fail
      go_ret2
      exact ⟨ret_two (HV.out 2 HE.out (by decide)).symm HE.out.symm, B2.out⟩
    · have HE : Hid (psE next l.length = 0) := by rw [Hid, psE, if_pos hx, if_neg (by omega)]
      have HE2 : Hid (65535 - sumV (hdr f t next l.length ++ l) = psV f t next l) := by rw [Hid, psV, if_pos HE.out]
      have HHl := hid (hdr_len f t next n HF.out HT.out)
      have HHo := hid (hdr_oct f t next n HF.out HT.out)
      rw [hln] at HE2
      clear HV
      go_enter Try.func13, Try.ntmps13
      go_wp2_with fail
      generalize (w.alloc (.cells (arr f) 50)).alloc (.cells (arr t) 50) = w1 at *
      refine (fits_any _ _ _ _ _ _ NI.out).mono ?_
      rintro e w2 ⟨rfl, rfl⟩
      rw [HFit.out]
      have b2 : Below w1.heap.size w1 (w1.alloc (.cells #[.int .i64 next] 3)) := balloc (Below.refl _ _) _
      have B2 := hid (bthen B1.out b2)
      have F2 := hid (F1.out.below b2)
      have T2 := hid (T1.out.below b2)
      have L2 := hid (L1.out.below b2)
      clear b2 F1 T1 L1 B1
      generalize w1.alloc (.cells #[.int .i64 next] 3) = w2 at *
      have hd : decide ((1280 : Int) < (n : Int)) = false := by simp; omega
      go_wp2_with (first
        | (refine ld50 _ rfl rfl w.heap.size rfl 50 f HF.out F2.out ?_)
        | (refine ld50 _ rfl rfl (w.heap.size + 1) rfl 50 t HT.out T2.out ?_))
      refine (pseudoHeader_any f t next n _ HF.out HT.out hx (by omega)).mono ?_
      rintro e w3 ⟨v3, rfl, ho3, hb3⟩
      obtain ⟨a3, cap3, rfl, hl3, _⟩ := owns_lies ho3
      rw [HHl.out] at hl3 ⊢
      have X3 : Hid (Txt.ok w3 ⟨a3, 40, cap3, hdr f t next n⟩) := ⟨hl3, HHo.out⟩
      have Y3 : Hid (Txt.ok w3 ⟨a, n, cap, l⟩) := ⟨L2.out.below hb3, HO.out⟩
      have B3 := hid (bthen B2.out hb3)
      clear ho3 hb3 hl3 F2 T2 L2 B2
      have Z4 := hid (texts_two w3 _ _ X3.out Y3.out)
      have B4 := hid (balloc B3.out (.cells #[(⟨a3, 40, cap3, hdr f t next n⟩ : Txt).v, (⟨a, n, cap, l⟩ : Txt).v] 27))
      simp only [Txt.v] at Z4 B4
      generalize hH : hdr f t next n = H at *
      have HH := hid hH
      clear hH X3 Y3 B3
      go_wp2_with fail
      refine (of_any _ _ _ _ _ Z4.out (by simp [bytes, HHl.out]; omega)).mono ?_
      rintro e w5 ⟨rfl, hb5⟩
      have B5 := hid (bthen B4.out hb5)
      have HB : Hid (bytes [⟨a3, 40, cap3, H⟩, ⟨a, n, cap, l⟩] = H ++ l) := by simp [Hid, bytes]
      rw [HB.out, HE2.out]
      clear hb5 B4
      go_wp2_with fail
      go_ret2
      exact ⟨ret_two rfl HE.out.symm, B5.out⟩
  · have HFit : Hid (fitsB 1 [next] = false) := by rw [Hid, fits_one]; simpa using hx
    have HE : Hid (psE next l.length = 1) := by rw [Hid, psE, if_neg hx]
    clear HO
    go_enter Try.func13, Try.ntmps13
    go_wp2_with fail
    generalize (w.alloc (.cells (arr f) 50)).alloc (.cells (arr t) 50) = w1 at *
    refine (fits_any _ _ _ _ _ _ NI.out).mono ?_
    rintro e w2 ⟨rfl, rfl⟩
    rw [HFit.out]
    have B2 := hid (balloc B1.out (.cells #[.int .i64 next] 3))
    generalize w1.alloc (.cells #[.int .i64 next] 3) = w2 at *
    go_wp2_with fail
    go_ret2
    exact ⟨ret_two (HV.out 1 HE.out (by decide)).symm HE.out.symm, B2.out⟩

/-- Is the checksum right? -/
def chkB (f t : List Int) (next : Int) (l : List Int) : Bool := psE next l.length == 0 && psV f t next l == 0

set_option maxHeartbeats 400000 in
theorem check_any (f t : List Int) (next : Int) (a : Option Addr) (n cap : Nat) (l : List Int) (w : World) (hf : Adr f) (ht : Adr t) (h : Lies .u8 w a n cap l) (ho : Oct l) :
    Calls Try.prog 15 #[.agg (arr f), .agg (arr t), .int .i64 next, .slice a n cap] w fun e w' => e = .returned (.bool (chkB f t next l)) ∧ Below w.heap.size w w' := by
  obtain ⟨f1, t1, b1, z1⟩ := box2 w 50 f t
  have F1 := hid f1
  have T1 := hid t1
  have B1 := hid b1
  have L1 := hid (h.below b1)
  have HF := hid hf
  have HT := hid ht
  have HO := hid ho
  clear f1 t1 b1 z1 hf ht ho h
  have HC : Hid ((psE next l.length == 0 && psV f t next l == 0) = chkB f t next l) := rfl
  cases hE : (psE next l.length == 0)
  all_goals
    rw [hE] at HC
    have HE := hid hE
    clear hE
    go_enter Try.func15, Try.ntmps15
    go_wp2_with (first
      | (refine ld50 _ rfl rfl w.heap.size rfl 50 f HF.out F1.out ?_)
      | (refine ld50 _ rfl rfl (w.heap.size + 1) rfl 50 t HT.out T1.out ?_))
    generalize (w.alloc (.cells (arr f) 50)).alloc (.cells (arr t) 50) = w1 at *
    refine (pseudo_any f t next a n cap l _ HF.out HT.out L1.out HO.out).mono ?_
    rintro e w2 ⟨rfl, hb2⟩
    have B2 := hid (bthen B1.out hb2)
    have hq := HE.out
    clear hb2
    generalize psE next l.length = E at *
    generalize psV f t next l = V at *
    go_wp2_with fail
    go_ret
    exact ⟨ret_bool (by simpa using HC.out), B2.out⟩
end Go.Proofs.Ytinfkjnneibklaa
