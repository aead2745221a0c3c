/- The walk of SumAdds. -/
import Derived.Test.YtinfkjnneibklaaOwn
import Derived.Deep.RegionWith
namespace Go.Proofs.Ytinfkjnneibklaa
open Go.ChangeShapes Go.WideShapes Go.ChangeAt Go.RowKit
set_option linter.unusedVariables false
set_option linter.unusedSimpArgs false

set_option maxHeartbeats 1000000 in
theorem adds_walk0 (a : Option Addr) (n cap : Nat) (L : List Txt) (w : World) (hL : Texts w a n cap L) :
    Calls Try.prog 3 #[.slice a n cap] w fun e w' => e = .returned (.bool true) ∧ Below w.heap.size w w' := by
  have HL := hid hL
  have hcm : n ≤ maxLen := Nat.le_trans hL.2.1 hL.2.2.1
  unfold maxLen at hcm
  clear hL
  have hb0 : Below w.heap.size w (w.alloc (.cells #[.int .i64 0, .int .i64 0] 26)) := balloc (Below.refl _ _) _
  have S0 : Hid (LoopAt w (w.alloc (.cells #[.int .i64 0, .int .i64 0] 26)) (.slice none 0 0) (.slice none 0 0) (cutL L 0)) := ⟨sumAt_new w, World.ownsRow_nil _ _ _ _, World.ownsRow_nil _ _ _ _, (fun t ht => by cases ht), hb0⟩
  clear hb0
  obtain ⟨i5, hi5, hz50, hz51, hz52⟩ := info_parts info5
  obtain ⟨i27, hi27, hz270, hz271, hz272⟩ := info_parts info27
  go_enter Try.func3, Try.ntmps3
  go_wp2_with fail
  go_loopw [4, 5, 6] (fun v4 v5 i wr => ∃ k : Nat, k ≤ n ∧ k ≤ 20 ∧ i = .int .i64 k ∧ Hid (LoopAt w wr v4 v5 (cutL L k))) (fun _ _ i _ => n - (intOf i).toNat)
  case atStart => exact ⟨0, Nat.zero_le _, by omega, rfl, S0.out⟩
  case round =>
    obtain ⟨k, hk, hk20, rfl, hI⟩ := hrel
    by_cases hlt : k < n
    · by_cases hlt20 : k < 20
      · have hT := HL.out.below hI.out.bel
        obtain ⟨b, off, rfl, hcell⟩ := hT.2.2.2.1 k hlt
        have hkl : k < L.length := by rw [HL.out.1]; exact hlt
        have hok := HL.out.2.2.2.2 (L.getD k Txt.none) (by simp [hkl])
        have HB := hid (cutL_snoc L k hkl)
        have HBl := bytes_cutL L k
        have HTl := hid (cutL_length L k (Nat.le_of_lt hkl))
        clear hT hkl
        generalize L.getD k Txt.none = t at *
        obtain ⟨ta, tn, tc, tl⟩ := t
        have HT := hid (cutT_ok hok)
        have htm : tn ≤ tc ∧ tc ≤ maxLen := ⟨hok.1.2.1, hok.1.2.2.1⟩
        unfold maxLen at htm
        simp only [Txt.v] at hcell
        clear hok
        generalize cutL L k = T at *
        go_wp2_with fail
        go_region
        rw [show (if (300 : Int) < (tn : Int) then (300 : Int) else (tn : Int)).toNat = min tn 300 by split <;> omega]
        generalize (if (300 : Int) < (tn : Int) then (300 : Int) else (tn : Int)) = mi
        have hm300 : min tn 300 ≤ 300 := Nat.min_le_right ..
        have HC : Hid (cutT ⟨ta, tn, tc, tl⟩ = ⟨ta, min tn 300, tc, tl.take (min tn 300)⟩) := rfl
        rw [HC.out] at HT HB
        generalize min tn 300 = m at *
        generalize tl.take m = ml at *
        generalize hX : (⟨ta, m, tc, ml⟩ : Txt) = X at *
        have HXv : Hid (X.v = .slice ta m tc) := by rw [← hX]; rfl
        have HXl : Hid (X.l = ml) := by rw [← hX]; rfl
        have HXo : Hid (Lies .u8 w ta m tc ml ∧ Oct ml) := by have := HT.out; rw [← hX] at this; exact this
        have hI0 : LoopAt w wr.drew u4 u5 T := ⟨⟨hI.out.sum.block, hI.out.sum.oct, hI.out.sum.small⟩, hI.out.all, hI.out.txt, hI.out.oks, bdrew hI.out.bel 1⟩
        have I0 := hid hI0
        clear hX hI hI0 HC hcell
        generalize wr.drew = wr at *
        go_wp2_with (at_builtin; refine wpList_append_own_by _ rfl _ _ 22 rfl w.heap.size 27 i27 (.slice none 0 0) 1 24 Try.underlying22 hi27 hz270 hz271 hz272 rfl (by decide) _ _ _ rfl (I0.out.txt.alloc _) _ 1 1 [.slice ta m tc] rfl rfl ?c1 ?c2 ?c3 ?c4 ?c5 ?c6 ?_)
        case c1 => intro h; cases h
        case c2 =>
          intro ad had j u hj
          obtain rfl := Option.some.inj had
          exact World.news_of_block (heap_alloc_new wr _) j u hj
        case c3 => intro u hu; simp at hu; subst hu; rfl
        case c4 => rw [HTl.out]; unfold maxLen; omega
        case c5 => rw [HTl.out]; omega
        case c6 => have := I0.out.bel.size; simp; omega
        intro v5 w5 hown5 hg5
        have hbA : Below w.heap.size w (wr.alloc (.cells #[.slice ta m tc] 27)) := balloc I0.out.bel _
        have B5 := hid (bown hbA (I0.out.txt.alloc _) hg5)
        have sA : SumAt (wr.alloc (.cells #[.slice ta m tc] 27)) w.heap.size (bytes T) := I0.out.sum.below (balloc (Below.refl _ _) _)
        have S5 := hid (sA.kept hg5 (sum_row (I0.out.txt.alloc _) sA (by decide)))
        have A5 := hid ((I0.out.all.alloc _).kept hg5 (own_apart (I0.out.all.alloc (.cells #[.slice ta m tc] 27)) (I0.out.txt.alloc _) (by decide)))
        have T5 := hid hown5
        have K5 := hid I0.out.oks
        clear hown5 hg5 hbA I0 sA
        go_wp2_with (at_builtin; refine wpList_append_own_by _ rfl _ _ 27 rfl w.heap.size 5 i5 (.int .u8 0) 1 1 Try.underlying27 hi5 hz50 hz51 hz52 rfl (by decide) _ _ _ rfl A5.out ta m tc (u8s ml) rfl ?d1 ?d2 ?d3 (ints_oneCell8 _ _) ?d4 ?d5 ?d6 ?_)
        case d1 => simp [u8s]; exact HXo.out.1.1
        case d2 => exact HXo.out.1.isNil
        case d3 => exact (HXo.out.1.below B5.out).cells
        case d4 => unfold maxLen; omega
        case d5 => omega
        case d6 => exact B5.out.size
        intro v6 w6 hown6 hg6
        have B6 := hid (bown B5.out A5.out hg6)
        have S6 := hid (S5.out.kept hg6 (sum_row A5.out S5.out (by decide)))
        have T6 := hid (T5.out.kept hg6 (own_apart T5.out A5.out (by decide)))
        have A6 := hid hown6
        have X6 : Hid (X.ok w6) := (by rw [Hid]; exact HT.out.below B6.out)
        clear hown6 hg6 B5 S5 T5 A5
        have X7 := hid (texts_one w6 X X6.out)
        have b7 : Below w6.heap.size w6 (w6.alloc (.cells #[X.v] 27)) := balloc (Below.refl _ _) _
        have S7 := hid (S6.out.below b7)
        have B7 := hid (bthen B6.out b7)
        have A7 := hid (A6.out.alloc (.cells #[X.v] 27))
        have T7 := hid (T6.out.alloc (.cells #[X.v] 27))
        rw [HXv.out] at X7 b7 S7 B7 A7 T7
        clear b7 B6 S6 A6 T6 X6
        go_wp2_with fail
        generalize w6.alloc (.cells #[.slice ta m tc] 27) = w7 at *
        refine (add_any _ _ _ _ _ _ _ S7.out X7.out (by have := HXo.out.1.1; simp only [bytes, List.flatMap_cons, List.flatMap_nil, List.append_nil, HXl.out] at HBl ⊢; omega)).mono ?_
        rintro e w8 ⟨rfl, hs8, hg8, hz8⟩
        have S8 := hid hs8
        have B8 := hid (bgrown B7.out hg8 (Nat.le_refl _))
        have A8 := hid (A7.out.kept hg8 (own_sum A7.out S7.out (by decide)))
        have T8 := hid (T7.out.kept hg8 (own_sum T7.out S7.out (by decide)))
        clear hs8 hg8 hz8 S7 B7 A7 T7 X7
        have HY : Hid (bytes T ++ bytes [X] = bytes (T ++ [X])) := (bytes_app T [X]).symm
        rw [HY.out] at S8
        have A8' : Hid (w8.ownsRow w.heap.size 5 1 v6 (bytes (T ++ [X])).length (u8s (bytes (T ++ [X])))) := ownsRow_u8 A8.out (by rw [← HY.out, List.length_append]; simp [bytes, HXl.out, HXo.out.1.1]) (by rw [← HY.out]; simp [bytes, HXl.out, u8s])
        have T8' : Hid (w8.ownsRow w.heap.size 27 1 v5 (T ++ [X]).length ((T ++ [X]).map Txt.v)) := by
          have := T8.out
          rw [Hid, List.length_append, List.map_append]
          simpa [HXv.out] using this
        obtain ⟨a9, cap9, rfl, hl9, _⟩ := owns_lies A8'.out
        have L9 := hid hl9
        have O9 := hid S8.out.oct
        have N9 : (bytes (T ++ [X])).length ≤ 6300 := by
          have := HXo.out.1.1
          rw [← HY.out, List.length_append]; simp only [bytes, List.flatMap_cons, List.flatMap_nil, List.append_nil, HXl.out] at HBl ⊢; omega
        clear hl9 A8 T8
        go_wp2_with fail
        refine (value_any _ _ _ S8.out).mono ?_
        rintro e w8 ⟨rfl, rfl⟩
        have HN9 : Hid (bytes (T ++ [X]) = bytes (T ++ [X])) := rfl
        generalize hbs : (bytes (T ++ [X])).length = bn at *
        have Hbs := hid hbs
        clear hbs
        go_wp2_with fail
        refine (refSum_any _ _ _ _ _ L9.out O9.out (by omega)).mono ?_
        rintro e w8 ⟨rfl, rfl⟩
        generalize sumV (bytes (T ++ [X])) = sv at *
        go_wp2_with fail
        refine (len_any _ _ _ S8.out).mono ?_
        rintro e w8 ⟨rfl, rfl⟩
        rw [Hbs.out]
        go_wp2_with fail
        go_roundw
        case rel =>
          refine ⟨k + 1, by omega, by omega, by go_num, ?_⟩
          rw [Hid, HB.out]
          exact ⟨S8.out, by rw [Hbs.out]; exact A8'.out, T8'.out, fun t ht => by rcases List.mem_append.1 ht with h | h; exact K5.out t h; simp at h; subst h; exact HT.out, B8.out⟩
        case measure => simp [intOf]; omega
      · have hd : decide ((k : Int) < 20) = false := by simp; omega
        have hd2 : decide (k < 20) = false := by simp; omega
        obtain ⟨hS, hA, hX, hK, hB⟩ := hI.out
        have HBl := bytes_cutL L k
        generalize cutL L k = T at *
        obtain ⟨a4, cap4, rfl, hl4, _⟩ := owns_lies hA
        obtain ⟨a5, cap5, rfl, hx5⟩ := owns_texts hX (fun t ht => (hK t ht).below hB)
        have O4 := hid hS.oct
        have hwr := hB.size
        have S1 := hid (sumAt_new wr)
        have b1 : Below wr.heap.size wr (wr.alloc (.cells #[.int .i64 0, .int .i64 0] 26)) := balloc (Below.refl _ _) _
        have B1 := hid (bthen hB b1)
        have L1 := hid (hl4.below b1)
        have X1 := hid (hx5.below b1)
        clear hI hS hA hX hK hB hl4 hx5 b1
        generalize (bytes T).length = bn at *
        generalize hTn : T.length = Tn at *
        clear hTn
        go_wp2_with fail
        generalize wr.alloc (.cells #[.int .i64 0, .int .i64 0] 26) = w1 at *
        refine (add_any _ _ _ _ _ _ _ S1.out X1.out (by have := L1.out.1; simp; omega)).mono ?_
        rintro e w2 ⟨rfl, hs2, hg2, hz2⟩
        rw [List.nil_append] at hs2
        have S2 := hid hs2
        have B2 := hid (bgrown B1.out hg2 hwr)
        have L2 := hid (L1.out.grown S1.out.noU8 hg2)
        have X2 := hid (X1.out.grown (sumAt_row S1.out) hg2)
        clear hs2 hg2 hz2 S1 B1 L1 X1
        go_wp2_with fail
        refine (known_any _).mono ?_
        rintro e w3 ⟨rfl, hb3⟩
        have S3 := hid (S2.out.below hb3)
        have B3 := hid (bthen B2.out hb3)
        have L3 := hid (L2.out.below hb3)
        have X3 := hid (X2.out.below hb3)
        clear hb3 S2 B2 L2 X2
        go_wp2_with fail
        refine (value_any _ _ _ S3.out).mono ?_
        rintro e w3 ⟨rfl, rfl⟩
        go_wp2_with fail
        refine (refSum_any _ _ _ _ _ L3.out O4.out (by omega)).mono ?_
        rintro e w3 ⟨rfl, rfl⟩
        have HV := sumV_bd (bytes T)
        generalize hsv : sumV (bytes T) = sv at *
        have Hsv := hid hsv
        clear hsv
        go_wp2_with fail
        refine (of_any _ _ _ _ _ X3.out (by have := L3.out.1; omega)).mono ?_
        rintro e w4 ⟨rfl, hb4⟩
        have B4 := hid (bthen B3.out hb4)
        have L4 := hid (L3.out.below hb4)
        clear hb4 B3 L3 X3 S3
        rw [Hsv.out]
        go_wp2_with fail
        refine (refSum_any _ _ _ _ _ L4.out O4.out (by omega)).mono ?_
        rintro e w4 ⟨rfl, rfl⟩
        rw [Hsv.out]
        go_wp2_with fail
        go_ret
        exact ⟨rfl, B4.out⟩
    · have hd : decide ((k : Int) < (n : Int)) = false := by simp; omega
      have hd2 : decide (k < n) = false := by simp; omega
      obtain ⟨hS, hA, hX, hK, hB⟩ := hI.out
      have HBl := bytes_cutL L k
      generalize cutL L k = T at *
      obtain ⟨a4, cap4, rfl, hl4, _⟩ := owns_lies hA
      obtain ⟨a5, cap5, rfl, hx5⟩ := owns_texts hX (fun t ht => (hK t ht).below hB)
      have O4 := hid hS.oct
      have hwr := hB.size
      have S1 := hid (sumAt_new wr)
      have b1 : Below wr.heap.size wr (wr.alloc (.cells #[.int .i64 0, .int .i64 0] 26)) := balloc (Below.refl _ _) _
      have B1 := hid (bthen hB b1)
      have L1 := hid (hl4.below b1)
      have X1 := hid (hx5.below b1)
      clear hI hS hA hX hK hB hl4 hx5 b1
      generalize (bytes T).length = bn at *
      generalize hTn : T.length = Tn at *
      clear hTn
      go_wp2_with fail
      generalize wr.alloc (.cells #[.int .i64 0, .int .i64 0] 26) = w1 at *
      refine (add_any _ _ _ _ _ _ _ S1.out X1.out (by have := L1.out.1; simp; omega)).mono ?_
      rintro e w2 ⟨rfl, hs2, hg2, hz2⟩
      rw [List.nil_append] at hs2
      have S2 := hid hs2
      have B2 := hid (bgrown B1.out hg2 hwr)
      have L2 := hid (L1.out.grown S1.out.noU8 hg2)
      have X2 := hid (X1.out.grown (sumAt_row S1.out) hg2)
      clear hs2 hg2 hz2 S1 B1 L1 X1
      go_wp2_with fail
      refine (known_any _).mono ?_
      rintro e w3 ⟨rfl, hb3⟩
      have S3 := hid (S2.out.below hb3)
      have B3 := hid (bthen B2.out hb3)
      have L3 := hid (L2.out.below hb3)
      have X3 := hid (X2.out.below hb3)
      clear hb3 S2 B2 L2 X2
      go_wp2_with fail
      refine (value_any _ _ _ S3.out).mono ?_
      rintro e w3 ⟨rfl, rfl⟩
      go_wp2_with fail
      refine (refSum_any _ _ _ _ _ L3.out O4.out (by omega)).mono ?_
      rintro e w3 ⟨rfl, rfl⟩
      have HV := sumV_bd (bytes T)
      generalize hsv : sumV (bytes T) = sv at *
      have Hsv := hid hsv
      clear hsv
      go_wp2_with fail
      refine (of_any _ _ _ _ _ X3.out (by have := L3.out.1; omega)).mono ?_
      rintro e w4 ⟨rfl, hb4⟩
      have B4 := hid (bthen B3.out hb4)
      have L4 := hid (L3.out.below hb4)
      clear hb4 B3 L3 X3 S3
      rw [Hsv.out]
      go_wp2_with fail
      refine (refSum_any _ _ _ _ _ L4.out O4.out (by omega)).mono ?_
      rintro e w4 ⟨rfl, rfl⟩
      rw [Hsv.out]
      go_wp2_with fail
      go_ret
      exact ⟨rfl, B4.out⟩
end Go.Proofs.Ytinfkjnneibklaa
