/- What Add and Of of package sum answer: contracts. -/
import Derived.Test.YtinfkjnneibklaaSum
namespace Go.Proofs.Ytinfkjnneibklaa
open Go.ChangeShapes Go.WideShapes Go.ChangeAt Go.RowKit
set_option linter.unusedVariables false
set_option linter.unusedSimpArgs false

theorem Row2.only {w : World} {c : Nat} {t n : Int} (h : Row2 w c t n) (o : Nat) (v : Value) (hc : w.cell? ⟨c, o, none⟩ = some v) : ∃ x, v = .int .i64 x := by
  unfold Row2 at h
  rw [cell_of_row w c o _ _ _ h] at hc
  match o, hc with
  | 0, hc => simp at hc; exact ⟨_, hc.symm⟩
  | 1, hc => simp at hc; exact ⟨_, hc.symm⟩
  | o + 2, hc => simp at hc
theorem SumAt.noU8 {w : World} {c : Nat} {l : List Int} (h : SumAt w c l) : NoU8 w c := by
  intro o x hx
  obtain ⟨y, hy⟩ := (sumAt_row h).only o _ hx
  simp at hy
theorem SumAt.lt {w : World} {c : Nat} {l : List Int} (h : SumAt w c l) : c < w.heap.size := (Array.getElem?_eq_some_iff.1 h.block).1
theorem SumAt.below {w w' : World} {c : Nat} {l : List Int} (h : SumAt w c l) (hb : Below w.heap.size w w') : SumAt w' c l := ⟨by rw [hb.block c h.lt]; exact h.block, h.oct, h.small⟩

/-- A text in memory: a slice, and its bytes. -/
structure Txt where
  a : Option Addr
  n : Nat
  cap : Nat
  l : List Int
def Txt.v (t : Txt) : Value := .slice t.a t.n t.cap
def Txt.none : Txt := ⟨.none, 0, 0, []⟩
def Txt.ok (w : World) (t : Txt) : Prop := Lies .u8 w t.a t.n t.cap t.l ∧ Oct t.l
def bytes (L : List Txt) : List Int := L.flatMap (·.l)
/-- A slice of texts. -/
def Texts (w : World) (a : Option Addr) (n cap : Nat) (L : List Txt) : Prop :=
  L.length = n ∧ n ≤ cap ∧ cap ≤ maxLen ∧ (∀ k, k < n → ∃ b off, a = some ⟨b, off, .none⟩ ∧ w.cell? ⟨b, off + k, .none⟩ = some (L.getD k Txt.none).v) ∧ ∀ t ∈ L, t.ok w

theorem Txt.ok.below {w w' : World} {t : Txt} (h : t.ok w) (hb : Below w.heap.size w w') : t.ok w' := ⟨h.1.below hb, h.2⟩
theorem Texts.below {w w' : World} {a : Option Addr} {n cap : Nat} {L : List Txt} (h : Texts w a n cap L) (hb : Below w.heap.size w w') : Texts w' a n cap L := by
  refine ⟨h.1, h.2.1, h.2.2.1, fun k hk => ?_, fun t ht => (h.2.2.2.2 t ht).below hb⟩
  obtain ⟨b, off, he, hc⟩ := h.2.2.2.1 k hk
  exact ⟨b, off, he, (hb.cell (p := ⟨b, off + k, none⟩) (World.block_lt_of_cell? w _ hc)).trans hc⟩
theorem Texts.grown {w w' : World} {c : Nat} {a : Option Addr} {n cap : Nat} {L : List Txt} {t m : Int} (h : Texts w a n cap L) (hr : Row2 w c t m) (hg : w.grownBy w' (some c)) : Texts w' a n cap L := by
  have hno : NoU8 w c := by
    intro o x hx
    obtain ⟨y, hy⟩ := hr.only o _ hx
    simp at hy
  refine ⟨h.1, h.2.1, h.2.2.1, fun k hk => ?_, fun t ht => ⟨(h.2.2.2.2 t ht).1.grown hno hg, (h.2.2.2.2 t ht).2⟩⟩
  obtain ⟨b, off, he, hc⟩ := h.2.2.2.1 k hk
  refine ⟨b, off, he, hg.cell hc ?_⟩
  intro e
  obtain rfl := Option.some.inj e
  obtain ⟨y, hy⟩ := hr.only _ _ hc
  simp [Txt.v] at hy
theorem bytes_snoc (L : List Txt) (k : Nat) (h : k < L.length) : bytes (L.take (k + 1)) = bytes (L.take k) ++ (L.getD k Txt.none).l := by
  rw [bytes, bytes, List.take_succ_eq_append_getElem h, List.flatMap_append]; congr 1; simp [h]
theorem bytes_take_le (L : List Txt) (k : Nat) : (bytes (L.take k)).length ≤ (bytes L).length := by
  have : bytes L = bytes (L.take k) ++ bytes (L.drop k) := by rw [bytes, bytes, bytes, ← List.flatMap_append, List.take_append_drop]
  rw [this, List.length_append]; omega
theorem take_snoc (l : List Int) (k : Nat) (h : k < l.length) : l.take (k + 1) = l.take k ++ [l.getD k 0] := by
  rw [List.take_succ_eq_append_getElem h]; simp [h]

set_option maxHeartbeats 800000 in
theorem add_any (w : World) (c : Nat) (l0 : List Int) (a : Option Addr) (n cap : Nat) (L : List Txt) (h : SumAt w c l0) (hL : Texts w a n cap L) (hs : l0.length + (bytes L).length ≤ 10000000) :
    Calls Try.prog 7 #[.pointer (some ⟨c, 0, none⟩), .slice a n cap] w fun e w' => e = .returned (.tuple #[]) ∧ SumAt w' c (l0 ++ bytes L) ∧ w.grownBy w' (some c) ∧ w'.heap.size = w.heap.size := by
  have H := hid h
  have HL := hid hL
  have HS := hid hs
  have hcm : n ≤ maxLen := Nat.le_trans hL.2.1 hL.2.2.1
  unfold maxLen at hcm
  clear h hL hs
  go_enter Try.func7, Try.ntmps7
  go_wp2_with fail
  go_loopw [12] (fun i wr => ∃ k : Nat, k ≤ n ∧ i = .int .i64 k ∧ Hid (SumAt wr c (l0 ++ bytes (L.take k))) ∧ Hid (w.grownBy wr (some c)) ∧ Hid (wr.heap.size = w.heap.size)) (fun i _ => n - (intOf i).toNat)
  case atStart => exact ⟨0, Nat.zero_le _, rfl, by simpa [bytes, Hid] using H.out, World.grownBy.refl _ _, rfl⟩
  case round =>
    obtain ⟨k, hk, rfl, hS, hG, hZ⟩ := hrel
    by_cases hlt : k < n
    · have hT := HL.out.grown (sumAt_row H.out) hG.out
      obtain ⟨b, off, rfl, hcell⟩ := hT.2.2.2.1 k hlt
      have hkl : k < L.length := by rw [HL.out.1]; exact hlt
      have hok := hT.2.2.2.2 (L.getD k Txt.none) (by simp [hkl])
      have HB := hid (bytes_snoc L k hkl)
      have HQ : Hid (l0.length + (bytes (L.take k) ++ (L.getD k Txt.none).l).length ≤ 10000000) := by
        rw [Hid, ← HB.out]; have := bytes_take_le L (k + 1); have := HS.out; omega
      clear hT hkl
      generalize L.getD k Txt.none = t at *
      obtain ⟨ta, tn, tc, tl⟩ := t
      have HT := hid hok
      have htm : tn ≤ maxLen := Nat.le_trans hok.1.2.1 hok.1.2.2.1
      unfold maxLen at htm
      simp only [Txt.v] at hcell
      clear hok
      generalize bytes (L.take k) = B at *
      go_wp2_with fail
      go_loopw [18] (fun i wq => ∃ j : Nat, j ≤ tn ∧ i = .int .i64 j ∧ Hid (SumAt wq c (l0 ++ B ++ tl.take j)) ∧ Hid (wr.grownBy wq (some c)) ∧ Hid (wq.heap.size = wr.heap.size)) (fun i _ => tn - (intOf i).toNat)
      case atStart => exact ⟨0, Nat.zero_le _, rfl, by simpa [Hid] using hS.out, World.grownBy.refl _ _, rfl⟩
      case round =>
        obtain ⟨j, hj, rfl, hS2, hG2, hZ2⟩ := hrel
        by_cases hlj : j < tn
        · have hT2 := HT.out.1.grown hS.out.noU8 hG2.out
          obtain ⟨b2, off2, rfl, hcell2⟩ := hT2.2.2.2.2 j hlj
          have hjl : j < tl.length := by rw [HT.out.1.1]; exact hlj
          have hx := HT.out.2.at j hjl
          have HA := hid (take_snoc tl j hjl)
          have HN : Hid ((l0 ++ B ++ tl.take j).length < 10000000) := by
            have := HQ.out
            simp only [Hid, List.length_append, List.length_take] at this ⊢
            omega
          clear hT2 hjl
          generalize tl.getD j 0 = x at *
          go_wp2_with fail
          refine (addByte_any _ c _ x hS2.out hx HN.out).mono ?_
          rintro e w3 ⟨rfl, h3, hg3, hs3⟩
          have S3 := hid h3
          have G3 := hid hg3
          have Z3 := hid hs3
          clear h3 hg3 hs3
          go_wp2_with fail
          go_roundw
          case rel => exact ⟨j + 1, by omega, by go_num, by rw [Hid, HA.out, ← List.append_assoc]; exact S3.out, hG2.out.trans G3.out, Z3.out.trans hZ2.out⟩
          case measure => simp [intOf]; omega
        · obtain rfl : j = tn := by omega
          go_wp2_with fail
          go_roundw
          case rel => exact ⟨k + 1, by omega, by go_num, by have := hS2.out; rw [List.take_of_length_le (by rw [HT.out.1.1]; exact Nat.le_refl _), List.append_assoc] at this; rw [Hid, HB.out]; exact this, hG.out.trans hG2.out, hZ2.out.trans hZ.out⟩
          case measure => simp [intOf]; omega
    · obtain rfl : k = n := by omega
      go_wp2_with fail
      go_returns
      refine ⟨rfl, ?_, hG.out, hZ.out⟩
      have := hS.out
      rwa [List.take_of_length_le (by rw [HL.out.1]; exact Nat.le_refl _)] at this

theorem sumAt_new (w : World) : SumAt (w.alloc (.cells #[.int .i64 0, .int .i64 0] 26)) w.heap.size [] := ⟨heap_alloc_new w _, (fun x hx => by cases hx), by simp⟩

theorem of_any (w : World) (a : Option Addr) (n cap : Nat) (L : List Txt) (hL : Texts w a n cap L) (hs : (bytes L).length ≤ 10000000) :
    Calls Try.prog 12 #[.slice a n cap] w fun e w' => e = .returned (.int .i64 (65535 - sumV (bytes L))) ∧ Below w.heap.size w w' := by
  have HL := hid hL
  have HS := hid hs
  have HB := sumV_bd (bytes L)
  clear hL hs
  have hb0 : Below w.heap.size w (w.alloc (.cells #[.int .i64 0, .int .i64 0] 26)) := (Below.refl _ _).alloc (Nat.le_refl _) _
  have HL0 := hid (HL.out.below hb0)
  have S0 := hid (sumAt_new w)
  have B0 := hid hb0
  clear hb0
  go_enter Try.func12, Try.ntmps12
  go_wp2_with fail
  refine (add_any _ w.heap.size [] a n cap L S0.out HL0.out (by have := HS.out; simpa using this)).mono ?_
  rintro e w1 ⟨rfl, hs1, hg1, hz1⟩
  have S1 := hid hs1
  have B1 := hid (bgrown B0.out hg1 (Nat.le_refl _))
  clear hs1 hg1 hz1
  rw [List.nil_append] at S1
  go_wp2_with fail
  refine (value_any _ _ _ S1.out).mono ?_
  rintro e w1 ⟨rfl, rfl⟩
  generalize hsv : sumV (bytes L) = s at *
  have HV := hid hsv
  clear hsv
  go_wp2_with fail
  go_ret
  exact ⟨ret_int (by rw [HV.out]), B1.out⟩

/-- One text in a slice of its own. -/
theorem texts_one (w : World) (t : Txt) (h : t.ok w) : Texts (w.alloc (.cells #[t.v] 27)) (some ⟨w.heap.size, 0, none⟩) 1 1 [t] := by
  refine ⟨rfl, Nat.le_refl _, by decide, fun k hk => ⟨w.heap.size, 0, rfl, ?_⟩, ?_⟩
  · obtain rfl : k = 0 := by omega
    have := World.news_of_block (heap_alloc_new w (.cells #[t.v] 27)) 0 t.v rfl
    rwa [Addr.add_lit] at this
  · intro t' ht
    simp at ht; subst ht
    exact h.below ((Below.refl _ _).alloc (Nat.le_refl _) _)
theorem texts_two (w : World) (s t : Txt) (hs : s.ok w) (h : t.ok w) : Texts (w.alloc (.cells #[s.v, t.v] 27)) (some ⟨w.heap.size, 0, none⟩) 2 2 [s, t] := by
  refine ⟨rfl, Nat.le_refl _, by decide, fun k hk => ⟨w.heap.size, 0, rfl, ?_⟩, ?_⟩
  · have := World.news_of_block (heap_alloc_new w (.cells #[s.v, t.v] 27)) k ([s, t].getD k Txt.none).v (by
      match k, hk with
      | 0, _ => rfl
      | 1, _ => rfl)
    rwa [Addr.add_lit] at this
  · intro t' ht
    have hb : Below w.heap.size w (w.alloc (.cells #[s.v, t.v] 27)) := (Below.refl _ _).alloc (Nat.le_refl _) _
    simp at ht
    rcases ht with rfl | rfl
    · exact hs.below hb
    · exact h.below hb
theorem texts_nil (w : World) : Texts w none 0 0 [] := ⟨rfl, Nat.le_refl _, by decide, fun k hk => by omega, fun t ht => by cases ht⟩

set_option maxHeartbeats 400000 in
theorem known_any (w : World) : Calls Try.prog 11 #[] w fun e w' => e = .returned (.bool true) ∧ Below w.heap.size w w' := by
  have hO : Oct [0, 1, 242, 3, 244, 245, 246, 247] := by intro x hx; simp at hx; omega
  have B0 := hid (balloc (Below.refl w.heap.size w) (.cells #[.int .u8 0, .int .u8 1, .int .u8 242, .int .u8 3, .int .u8 244, .int .u8 245, .int .u8 246, .int .u8 247] 5))
  have L0 : Hid (Txt.ok (w.alloc (.cells #[.int .u8 0, .int .u8 1, .int .u8 242, .int .u8 3, .int .u8 244, .int .u8 245, .int .u8 246, .int .u8 247] 5)) ⟨some ⟨w.heap.size, 0, none⟩, 8, 8, [0, 1, 242, 3, 244, 245, 246, 247]⟩) := ⟨lies_new .u8 w _ 5 [0, 1, 242, 3, 244, 245, 246, 247] rfl (by decide), hO⟩
  clear hO
  generalize hw0 : w.alloc (.cells #[.int .u8 0, .int .u8 1, .int .u8 242, .int .u8 3, .int .u8 244, .int .u8 245, .int .u8 246, .int .u8 247] 5) = w0 at *
  have HW0 := hid hw0
  clear hw0
  generalize hT : (⟨some ⟨w.heap.size, 0, none⟩, 8, 8, [0, 1, 242, 3, 244, 245, 246, 247]⟩ : Txt) = T at *
  have HTv : Hid (T.v = .slice (some ⟨w.heap.size, 0, none⟩) 8 8) := by rw [← hT]; rfl
  have HTl : Hid (T.l = [0, 1, 242, 3, 244, 245, 246, 247]) := by rw [← hT]; rfl
  clear hT
  have S1 := hid (sumAt_new w0)
  have b1 : Below w0.heap.size w0 (w0.alloc (.cells #[.int .i64 0, .int .i64 0] 26)) := balloc (Below.refl _ _) _
  have B1 := hid (bthen B0.out b1)
  have T1 := hid (L0.out.below b1)
  have HZ0 : Hid (w0.heap.size = w.heap.size + 1) := by rw [Hid, ← HW0.out]; simp
  have HZ1 : Hid ((w0.alloc (.cells #[.int .i64 0, .int .i64 0] 26)).heap.size = w.heap.size + 1 + 1) := by rw [Hid, ← HZ0.out]; simp
  clear b1
  go_enter Try.func11, Try.ntmps11
  go_wp2_with fail
  rw [HW0.out]
  generalize w0.alloc (.cells #[.int .i64 0, .int .i64 0] 26) = w1 at *
  have X2 := hid (texts_one w1 T T1.out)
  have b2 : Below w1.heap.size w1 (w1.alloc (.cells #[T.v] 27)) := balloc (Below.refl _ _) _
  have S2 := hid (S1.out.below b2)
  have T2 := hid (T1.out.below b2)
  have B2 := hid (bthen B1.out b2)
  rw [HTv.out] at X2 b2 S2 T2 B2
  rw [HZ1.out] at X2
  rw [HZ0.out] at S2
  have HZ2 : Hid ((w1.alloc (.cells #[.slice (some ⟨w.heap.size, 0, none⟩) 8 8] 27)).heap.size = w.heap.size + 1 + 1 + 1) := by rw [Hid, ← HZ1.out]; simp
  clear b2 S1 T1 B1 B0 L0 HZ0
  generalize w1.alloc (.cells #[.slice (some ⟨w.heap.size, 0, none⟩) 8 8] 27) = w2 at *
  refine (add_any _ _ _ _ _ _ _ S2.out X2.out (by simp [bytes, HTl.out])).mono ?_
  rintro e w3 ⟨rfl, hs3, hg3, hz3⟩
  have T3 : Hid (T.ok w3) := ⟨T2.out.1.grown S2.out.noU8 hg3, T2.out.2⟩
  have B3 := hid (bgrown B2.out hg3 (by omega))
  have HZ3 := hid (hz3.trans HZ2.out)
  rw [show ([] : List Int) ++ bytes [T] = [0, 1, 242, 3, 244, 245, 246, 247] by simp [bytes, HTl.out]] at hs3
  have S3 := hid hs3
  clear hs3 hg3 hz3 S2 T2 B2 X2 HZ2 HZ1 HW0
  go_wp2_with fail
  refine (value_any _ _ _ S3.out).mono ?_
  rintro e w3 ⟨rfl, rfl⟩
  rw [show sumV [0, 1, 242, 3, 244, 245, 246, 247] = 56818 by decide]
  have X4 := hid (texts_one w3 T T3.out)
  have b4 : Below w3.heap.size w3 (w3.alloc (.cells #[T.v] 27)) := balloc (Below.refl _ _) _
  have S4 := hid (S3.out.below b4)
  have B4 := hid (bthen B3.out b4)
  rw [HTv.out] at X4 b4 S4 B4
  clear b4 S3 T3 B3
  go_wp2_with fail

  refine (of_any _ _ _ _ _ X4.out (by simp [bytes, HTl.out])).mono ?_
  rintro e w5 ⟨rfl, hb5⟩
  rw [show bytes [T] = [0, 1, 242, 3, 244, 245, 246, 247] by simp [bytes, HTl.out], show (65535 : Int) - sumV [0, 1, 242, 3, 244, 245, 246, 247] = 8717 by decide]
  have S5 := hid (S4.out.below hb5)
  have B5 := hid (bthen B4.out hb5)
  clear hb5 S4 B4 X4
  go_wp2_with fail
  refine (len_any _ _ _ S5.out).mono ?_
  rintro e w5 ⟨rfl, rfl⟩
  rw [show (([0, 1, 242, 3, 244, 245, 246, 247] : List Int).length : Int) = 8 by decide]
  go_wp2_with fail
  go_ret
  exact ⟨rfl, B5.out⟩
end Go.Proofs.Ytinfkjnneibklaa
