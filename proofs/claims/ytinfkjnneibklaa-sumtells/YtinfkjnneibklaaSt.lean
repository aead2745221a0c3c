/- What Set of package sum answers: contracts. -/
import Derived.Test.YtinfkjnneibklaaPseu
import Derived.Laws.OwnMore
namespace Go.Proofs.Ytinfkjnneibklaa
open Go.ChangeShapes Go.WideShapes Go.ChangeAt Go.RowKit
set_option linter.unusedVariables false
set_option linter.unusedSimpArgs false

theorem ret_tn {k : IntKind} {c d : Int} {v : Value} (h : c = d) : Ending.returned (.tuple #[v, .int k c]) = .returned (.tuple #[v, .int k d]) := by rw [h]

set_option maxHeartbeats 400000 in
theorem set_err (f t : List Int) (next at_ : Int) (a : Option Addr) (n cap : Nat) (l : List Int) (w : World) (hf : Adr f) (ht : Adr t) (h : Lies .u8 w a n cap l) (ho : Oct l) (hE : psE next l.length ≠ 0) :
    Calls Try.prog 16 #[.agg (arr f), .agg (arr t), .int .i64 next, .slice a n cap, .int .i64 at_] w fun e w' => e = .returned (.tuple #[.slice none 0 0, .int .i64 (psE next l.length)]) ∧ Below w.heap.size w w' := by
  obtain ⟨f1, t1, b1, z1⟩ := box2 w 50 f t
  have F1 := hid f1
  have T1 := hid t1
  have B1 := hid b1
  have L1 := hid (h.below b1)
  have HF := hid hf
  have HT := hid ht
  have HO := hid ho
  have hq : (psE next l.length != 0) = true := by rw [bne_iff_ne]; exact hE
  have HQ := hid hq
  clear f1 t1 b1 z1 hf ht ho h hE hq
  go_enter Try.func16, Try.ntmps16
  go_wp2_with (first
    | (refine ld50 _ rfl rfl w.heap.size rfl 50 f HF.out F1.out ?_)
    | (refine ld50 _ rfl rfl (w.heap.size + 1) rfl 50 t HT.out T1.out ?_))
  generalize (w.alloc (.cells (arr f) 50)).alloc (.cells (arr t) 50) = w1 at *
  refine (pseudo_any f t next a n cap l _ HF.out HT.out L1.out HO.out).mono ?_
  rintro e w2 ⟨rfl, hb2⟩
  have B2 := hid (bthen B1.out hb2)
  have hq := HQ.out
  clear hb2
  generalize psV f t next l = V at *
  generalize hE : psE next l.length = E at *
  have HE := hid hE
  clear hE
  go_wp2_with fail
  go_ret2
  exact ⟨ret_tn HE.out.symm, B2.out⟩

/-- Is there a place for a checksum? -/
def placeB (at_ : Int) (n : Nat) : Bool := decide (0 ≤ at_ ∧ at_ % 2 = 0 ∧ at_ + 2 ≤ n)

set_option maxHeartbeats 800000 in
theorem set_arg (f t : List Int) (next at_ : Int) (a : Option Addr) (n cap : Nat) (l : List Int) (w : World) (hf : Adr f) (ht : Adr t) (h : Lies .u8 w a n cap l) (ho : Oct l) (hE : psE next l.length = 0) (hp : ¬ (0 ≤ at_ ∧ at_ % 2 = 0 ∧ at_ + 2 ≤ n)) :
    Calls Try.prog 16 #[.agg (arr f), .agg (arr t), .int .i64 next, .slice a n cap, .int .i64 at_] w fun e w' => e = .returned (.tuple #[.slice none 0 0, .int .i64 1]) ∧ Below w.heap.size w w' := by
  obtain ⟨f1, t1, b1, z1⟩ := box2 w 50 f t
  have F1 := hid f1
  have T1 := hid t1
  have B1 := hid b1
  have L1 := hid (h.below b1)
  have HF := hid hf
  have HT := hid ht
  have HO := hid ho
  have HE := hid hE
  have hnm : n ≤ maxLen := Nat.le_trans h.2.1 h.2.2.1
  unfold maxLen at hnm
  clear f1 t1 b1 z1 hf ht ho h hE
  by_cases h0 : at_ < 0
  · clear hp
    go_enter Try.func16, Try.ntmps16
    go_wp2_with (first
      | (refine ld50 _ rfl rfl w.heap.size rfl 50 f HF.out F1.out ?_)
      | (refine ld50 _ rfl rfl (w.heap.size + 1) rfl 50 t HT.out T1.out ?_))
    generalize (w.alloc (.cells (arr f) 50)).alloc (.cells (arr t) 50) = w1 at *
    refine (pseudo_any f t next a n cap l _ HF.out HT.out L1.out HO.out).mono ?_
    rintro e w2 ⟨rfl, hb2⟩
    have B2 := hid (bthen B1.out hb2)
    rw [HE.out]
    clear hb2
    generalize psV f t next l = V at *
    go_wp2_with fail
    go_ret2
    exact ⟨rfl, B2.out⟩
  · obtain ⟨k, rfl⟩ := Int.eq_ofNat_of_zero_le (show 0 ≤ at_ by omega)
    by_cases h1 : k % 2 = 0
    · have hgt : ¬ k + 2 ≤ n := by omega
      have hr : ((k : Int) % 2 != 0) = false := by simp; omega
      have hd : decide ((n : Int) - 2 < (k : Int)) = true := by simp; omega
      clear hp
      go_enter Try.func16, Try.ntmps16
      go_wp2_with (first
        | (refine ld50 _ rfl rfl w.heap.size rfl 50 f HF.out F1.out ?_)
        | (refine ld50 _ rfl rfl (w.heap.size + 1) rfl 50 t HT.out T1.out ?_))
      generalize (w.alloc (.cells (arr f) 50)).alloc (.cells (arr t) 50) = w1 at *
      refine (pseudo_any f t next a n cap l _ HF.out HT.out L1.out HO.out).mono ?_
      rintro e w2 ⟨rfl, hb2⟩
      have B2 := hid (bthen B1.out hb2)
      rw [HE.out]
      clear hb2
      generalize psV f t next l = V at *
      go_wp2_with fail
      go_ret2
      exact ⟨rfl, B2.out⟩
    · have hr : ((k : Int) % 2 != 0) = true := by rw [bne_iff_ne]; omega
      clear hp
      go_enter Try.func16, Try.ntmps16
      go_wp2_with (first
        | (refine ld50 _ rfl rfl w.heap.size rfl 50 f HF.out F1.out ?_)
        | (refine ld50 _ rfl rfl (w.heap.size + 1) rfl 50 t HT.out T1.out ?_))
      generalize (w.alloc (.cells (arr f) 50)).alloc (.cells (arr t) 50) = w1 at *
      refine (pseudo_any f t next a n cap l _ HF.out HT.out L1.out HO.out).mono ?_
      rintro e w2 ⟨rfl, hb2⟩
      have B2 := hid (bthen B1.out hb2)
      rw [HE.out]
      clear hb2
      generalize psV f t next l = V at *
      go_wp2_with fail
      go_ret2
      exact ⟨rfl, B2.out⟩
end Go.Proofs.Ytinfkjnneibklaa
