/- HeaderBytes: the walk, case B. -/
import Derived.Test.YtmpkemlnpmephaaOw2
namespace Go.Proofs.Ytmpkemlnpmephaa
open Go.ChangeShapes Go.WideShapes Go.ChangeAt Go.RowKit
set_option linter.unusedVariables false
set_option linter.unusedSimpArgs false

set_option maxRecDepth 1000000 in
set_option maxHeartbeats 3200000 in
theorem bytes_B (h : Hd) (k : h.ok) (a : Option Addr) (n cap : Nat) (L : List Txt) (w : World) (hL : Texts w a n cap L) (hy : okH h = true) (h2 : h.hp < 2) :
    Calls Try.prog 3 #[.agg h.cs, .slice a n cap] w fun e w' => e = .returned (.bool true) ∧ Below w.heap.size w w' := by
  have hz := zhd
  have HL := hid hL
  have hcm : n ≤ maxLen := Nat.le_trans hL.2.1 hL.2.2.1
  unfold maxLen at hcm
  have HY := hid hy
  have cV : Hid (chkV h = 0) := by rw [Hid, chkV, hy]; rfl
  have pE : Hid (pasE h = 12) := by rw [Hid, pasE, hy, if_pos rfl, if_pos (by omega)]
  have eL : Hid (encL h = hdrL h) := by rw [Hid, encL, hy]; rfl
  have hb := (okH_yes hy).2.2.2.2
  have kP := pasH_ok k
  have R1 := hid (Row.new w 24 h.cs)
  have B1 := hid (balloc (Below.refl w.heap.size w) (.cells h.cs 24))
  clear hL hy
  go_enter Try.func3, Try.ntmps3
  go_upto_region 1 with fail
  generalize w.alloc (.cells h.cs 24) = w1 at *
  go_wp2_with (refine ld24 _ rfl rfl w.heap.size rfl h k 24 R1.out ?_)
  refine (to_any h k _).mono ?_
  rintro e w2 ⟨rfl, hb2⟩
  have R2 := hid (R1.out.below hb2)
  have X3 := hid (lay_new w2 h)
  have R3 := hid (R2.out.below (lay_below w2 28 h))
  have B3 := hid (bthen (bthen B1.out hb2) (lay_below w2 28 h))
  have hgx : w.heap.size < w2.heap.size := R2.out.lt
  clear hb2 R1 B1 R2
  go_wp2_with (first
    | (refine st28 _ _ rfl rfl w2.heap.size h k rfl rfl 28 Hd.zero Hd.zero_ok (Row.new w2 28 _) ?_; generalize (w2.alloc (.cells Hd.zero.cs 28)).setRow w2.heap.size h.cs = w3 at *)
    | (refine ld28 _ rfl rfl w2.heap.size rfl h k 28 X3.out ?_))
  generalize w2.heap.size = gx at *
  refine (encode_any h k _).mono ?_
  rintro e w4 ⟨v4, rfl, hown, hb4⟩
  rw [eL.out] at hown
  rw [cV.out]
  obtain ⟨a4, cap4, rfl, hl4, _⟩ := owns_lies hown
  rw [hdrL_len k] at hl4 ⊢
  have L4 := hid hl4
  have R4 := hid (R3.out.below hb4)
  have X4 := hid (X3.out.below hb4)
  have B4 := hid (bthen B3.out hb4)
  clear hown hb4 hl4 R3 X3 B3 eL
  go_wp2_with (refine ld28 _ rfl rfl gx rfl h k 28 X4.out ?_)
  refine (passed_any h k _).mono ?_
  rintro e w5 ⟨rfl, hb5⟩
  rw [pE.out]
  have R6 := hid ((R4.out.below hb5).below (lay_below w5 28 (pasH h)))
  have X6 := hid ((X4.out.below hb5).below (lay_below w5 28 (pasH h)))
  have L6 := hid ((L4.out.below hb5).below (lay_below w5 28 (pasH h)))
  have B6 := hid (bthen (bthen B4.out hb5) (lay_below w5 28 (pasH h)))
  have P6 := hid (lay_new w5 (pasH h))
  generalize hPh : (pasH h) = Ph at *
  have HPh := hid hPh
  clear hb5 R4 X4 L4 B4 hPh
  go_wp2_with (first
    | (refine st28 _ _ rfl rfl w5.heap.size Ph kP rfl rfl 28 Hd.zero Hd.zero_ok (Row.new w5 28 _) ?_; generalize (w5.alloc (.cells Hd.zero.cs 28)).setRow w5.heap.size Ph.cs = w6 at *)
    | (refine ld24 _ rfl rfl w.heap.size rfl h k 24 R6.out ?_))
  generalize w5.heap.size = gp at *
  refine (refCheck_any h k _).mono ?_
  rintro e w7 ⟨rfl, hb7⟩
  rw [cV.out]
  have R7 := hid (R6.out.below hb7)
  have X7 := hid (X6.out.below hb7)
  have L7 := hid (L6.out.below hb7)
  have P7 := hid (P6.out.below hb7)
  have B7 := hid (bthen B6.out hb7)
  clear hb7 R6 X6 L6 P6 B6
  go_wp2_with (refine ld28 _ rfl rfl gx rfl h k 28 X7.out ?_)
  refine (check_any h k _).mono ?_
  rintro e w8 ⟨rfl, hb8⟩
  rw [cV.out]
  have R8 := hid (R7.out.below hb8)
  have X8 := hid (X7.out.below hb8)
  have L8 := hid (L7.out.below hb8)
  have P8 := hid (P7.out.below hb8)
  have B8 := hid (bthen B7.out hb8)
  clear hb8 R7 X7 L7 P7 B7
  go_wp2_with (refine ld24 _ rfl rfl w.heap.size rfl h k 24 R8.out ?_)
  refine (refEncode_any h k HY.out _).mono ?_
  rintro e w9 ⟨v9, rfl, hown, hb9⟩
  obtain ⟨a9, cap9, rfl, hl9, _⟩ := owns_lies hown
  rw [hdrL_len k] at hl9 ⊢
  have L9 := hid (L8.out.below hb9)
  have M9 := hid hl9
  have R9 := hid (R8.out.below hb9)
  have X9 := hid (X8.out.below hb9)
  have P9 := hid (P8.out.below hb9)
  have B9 := hid (bthen B8.out hb9)
  clear hown hb9 hl9 R8 X8 L8 P8 B8
  go_wp2_with fail
  refine (same_any _ _ _ _ _ _ (hdrL h) (hdrL h) _ L9.out M9.out).mono ?_
  rintro e w10 ⟨rfl, q, rfl⟩
  rw [beq_self_eq_true]
  have RA : Hid (Row (w9.drewN q) w.heap.size 24 h.cs) := R9.out.drewN q
  have XA : Hid (Row (w9.drewN q) gx 28 h.cs) := X9.out.drewN q
  have PA : Hid (Row (w9.drewN q) gp 28 Ph.cs) := P9.out.drewN q
  have BA := hid (bdrew B9.out q)
  clear L9 M9 R9 X9 P9 B9
  generalize w9.drewN q = wa at *
  have b2 := lay_below wa 24 h
  have O2 := hid (lay_new24 wa h)
  have R2 := hid (RA.out.below b2)
  have X2 := hid (XA.out.below b2)
  have P2 := hid (PA.out.below b2)
  have B2 := hid (bthen BA.out b2)
  have l1 := RA.out.lt
  have l2 := XA.out.lt
  have l3 := PA.out.lt
  clear b2 XA PA BA
  go_wp2_with (first
    | (refine ld24 _ rfl rfl w.heap.size rfl h k 24 RA.out ?_)
    | (refine st24 _ _ rfl rfl wa.heap.size h k rfl rfl 24 Hd.zero Hd.zero_ok (Row.new wa 24 _) ?_; generalize (wa.alloc (.cells Hd.zero.cs 24)).setRow wa.heap.size h.cs = wb at *; have c4 := (O2.out.cell 4).trans h.at4; have f4 := O2.out.frozen 4))
  generalize wa.heap.size = go at *
  have O3 : Hid (Row (wb.setCell ⟨go, 4, none⟩ (.int .i64 (h.hp - 1))) go 24 (h.setHp (h.hp - 1)).cs) := by rw [Hid, ← Hd.set4]; exact O2.out.set 4 _
  have R3 := hid (R2.out.other ⟨go, 4, none⟩ (.int .i64 (h.hp - 1)) (by simp; omega))
  have X3 := hid (X2.out.other ⟨go, 4, none⟩ (.int .i64 (h.hp - 1)) (by simp; omega))
  have P3 := hid (P2.out.other ⟨go, 4, none⟩ (.int .i64 (h.hp - 1)) (by simp; omega))
  have B3 := hid (Below.setCell B2.out (p := ⟨go, 4, none⟩) (by simp; omega) (.int .i64 (h.hp - 1)))
  clear c4 f4 O2 R2 X2 P2 B2 RA
  generalize wb.setCell ⟨go, 4, none⟩ (.int .i64 (h.hp - 1)) = wc at *
  have c4 := (R3.out.cell 4).trans h.at4
  have d1 : decide (h.hp < 2) = true := by simp; omega
  have d2 : decide (2 ≤ h.hp) = false := by simp; omega
  go_quiet (fail)
  have R8 : Hid (Row (wc.drewN nq) w.heap.size 24 h.cs) := R3.out.drewN nq
  have X8 : Hid (Row (wc.drewN nq) gx 28 h.cs) := X3.out.drewN nq
  have B8 := hid (bdrew B3.out nq)
  clear d1 d2 c4 O3 R3 X3 P3 B3
  generalize wc.drewN nq = w8 at *
  go_wp2_with fail
  have S0 : Hid (LoopAt w w8 h gx (.slice none 0 0) (.slice none 0 0) (cutL L 0)) := ⟨R8.out, X8.out, World.ownsRow_nil _ _ _ _, World.ownsRow_nil _ _ _ _, (fun t ht => by cases ht), B8.out⟩
  obtain ⟨i5, hi5, hz50, hz51, hz52⟩ := info_parts info5
  obtain ⟨i30, hi30, hz300, hz301, hz302⟩ := info_parts info30
  clear R8 X8 B8
  go_loopw [12, 13, 14] (fun v12 v13 i wr => ∃ j : Nat, j ≤ n ∧ j ≤ 3 ∧ i = .int .i64 j ∧ Hid (LoopAt w wr h gx v12 v13 (cutL L j))) (fun _ _ i _ => n - (intOf i).toNat)
  case atStart => exact ⟨0, Nat.zero_le _, by omega, rfl, S0.out⟩
  case round =>
    obtain ⟨j, hj, hj3, rfl, hI⟩ := hrel
    by_cases hlt : j < n
    · by_cases hlt3 : j < 3
      · have hT := HL.out.below hI.out.bel
        obtain ⟨b, off, rfl, hcell⟩ := hT.2.2.2.1 j hlt
        have hkl : j < L.length := by rw [HL.out.1]; exact hlt
        have hok := HL.out.2.2.2.2 (L.getD j Txt.none) (by simp [hkl])
        have HB := hid (cutL_snoc L j hkl)
        have HBl := bytes_cutL L j
        have HTl := hid (cutL_length L j (Nat.le_of_lt hkl))
        clear hT hkl
        generalize L.getD j Txt.none = t at *
        obtain ⟨ta, tn, tc, tl⟩ := t
        have HT := hid (cutT_ok hok)
        have htm : tn ≤ tc ∧ tc ≤ maxLen := ⟨hok.1.2.1, hok.1.2.2.1⟩
        unfold maxLen at htm
        simp only [Txt.v] at hcell
        clear hok
        generalize cutL L j = T at *
        go_wp2_with fail
        go_region
        rw [show (if (700 : Int) < (tn : Int) then (700 : Int) else (tn : Int)).toNat = min tn 700 by split <;> omega]
        generalize (if (700 : Int) < (tn : Int) then (700 : Int) else (tn : Int)) = mi
        have hm700 : min tn 700 ≤ 700 := Nat.min_le_right ..
        have HC : Hid (cutT ⟨ta, tn, tc, tl⟩ = ⟨ta, min tn 700, tc, tl.take (min tn 700)⟩) := rfl
        rw [HC.out] at HT HB
        generalize min tn 700 = m at *
        generalize tl.take m = ml at *
        generalize hX : (⟨ta, m, tc, ml⟩ : Txt) = X at *
        have HXv : Hid (X.v = .slice ta m tc) := by rw [← hX]; rfl
        have HXl : Hid (X.l = ml) := by rw [← hX]; rfl
        have HXo : Hid (Lies .u8 w ta m tc ml ∧ Oct ml) := by have := HT.out; rw [← hX] at this; exact this
        have hI0 : LoopAt w wr.drew h gx u12 u13 T := ⟨hI.out.hd, hI.out.x, hI.out.all, hI.out.txt, hI.out.oks, bdrew hI.out.bel 1⟩
        have I0 := hid hI0
        clear hX hI hI0 HC hcell
        generalize wr.drew = wr at *
        go_wp2_with (at_builtin; refine wpList_append_own_by _ rfl _ _ 25 rfl w.heap.size 30 i30 (.slice none 0 0) 1 24 Try.underlying25 hi30 hz300 hz301 hz302 rfl (by decide) _ _ _ rfl (I0.out.txt.alloc _) _ 1 1 [.slice ta m tc] rfl rfl ?c1 ?c2 ?c3 ?c4 ?c5 ?c6 ?_)
        case c1 => intro h; cases h
        case c2 =>
          intro ad had j u hj
          obtain rfl := Option.some.inj had
          exact World.news_of_block (heap_alloc_new wr _) j u hj
        case c3 => intro u hu; simp at hu; subst hu; rfl
        case c4 => rw [HTl.out]; unfold maxLen; omega
        case c5 => rw [HTl.out]; omega
        case c6 => have := I0.out.bel.size; simp; omega
        intro v5 w5 hown5 hg5
        have hbA : Below w.heap.size w (wr.alloc (.cells #[.slice ta m tc] 30)) := balloc I0.out.bel _
        have B5 := hid (bown hbA (I0.out.txt.alloc _) hg5)
        have hR1 : Row (wr.alloc (.cells #[.slice ta m tc] 30)) w.heap.size 24 h.cs := I0.out.hd.alloc _
        have hX1 : Row (wr.alloc (.cells #[.slice ta m tc] 30)) gx 28 h.cs := I0.out.x.alloc _
        have R5 := hid (hR1.kept hg5 (fun e => own_row (I0.out.txt.alloc _) hR1 (by decide) e.symm))
        have X5 := hid (hX1.kept hg5 (fun e => own_row (I0.out.txt.alloc _) hX1 (by decide) e.symm))
        have A5 := hid ((I0.out.all.alloc _).kept hg5 (own_apart (I0.out.all.alloc (.cells #[.slice ta m tc] 30)) (I0.out.txt.alloc _) (by decide)))
        have T5 := hid hown5
        have K5 := hid I0.out.oks
        clear hown5 hg5 hbA I0 hR1 hX1
        go_wp2_with (at_builtin; refine wpList_append_own_by _ rfl _ _ 30 rfl w.heap.size 5 i5 (.int .u8 0) 1 1 Try.underlying30 hi5 hz50 hz51 hz52 rfl (by decide) _ _ _ rfl A5.out ta m tc (u8s ml) rfl ?d1 ?d2 ?d3 (ints_oneCell8 _ _) ?d4 ?d5 ?d6 ?_)
        case d1 => simp [u8s]; exact HXo.out.1.1
        case d2 => exact HXo.out.1.isNil
        case d3 => exact (HXo.out.1.below B5.out).cells
        case d4 => unfold maxLen; omega
        case d5 => omega
        case d6 => exact B5.out.size
        intro v6 w6 hown6 hg6
        have B6 := hid (bown B5.out A5.out hg6)
        have R6 := hid (R5.out.kept hg6 (fun e => own_row A5.out R5.out (by decide) e.symm))
        have X6 := hid (X5.out.kept hg6 (fun e => own_row A5.out X5.out (by decide) e.symm))
        have T6 := hid (T5.out.kept hg6 (own_apart T5.out A5.out (by decide)))
        have A6 := hid hown6
        clear hown6 hg6 B5 R5 X5 T5 A5
        have HYb : Hid (bytes T ++ bytes [X] = bytes (T ++ [X])) := (bytes_app T [X]).symm
        have A8' : Hid (w6.ownsRow w.heap.size 5 1 v6 (bytes (T ++ [X])).length (u8s (bytes (T ++ [X])))) := ownsRow_u8 A6.out (by rw [← HYb.out, List.length_append]; simp [bytes, HXl.out, HXo.out.1.1]) (by rw [← HYb.out]; simp [bytes, HXl.out, u8s])
        have T8' : Hid (w6.ownsRow w.heap.size 30 1 v5 (T ++ [X]).length ((T ++ [X]).map Txt.v)) := by
          have := T6.out
          rw [Hid, List.length_append, List.map_append]
          simpa [HXv.out] using this
        go_wp2_with fail
        go_roundw
        case rel =>
          refine ⟨j + 1, by omega, by omega, by go_num, ?_⟩
          rw [Hid, HB.out]
          exact ⟨R6.out, X6.out, A8'.out, T8'.out, fun t ht => by rcases List.mem_append.1 ht with h | h; exact K5.out t h; simp at h; subst h; exact HT.out, B6.out⟩
        case measure => simp [intOf]; omega
      · have hd : decide ((j : Int) < 3) = false := by simp; omega
        have hd2 : decide (j < 3) = false := by simp; omega
        obtain ⟨hH, hX, hA, hXt, hK, hB⟩ := hI.out
        have HBl := bytes_cutL L j
        have oB := bytes_oct hK
        generalize cutL L j = T at *
        obtain ⟨aB, capB, rfl, hlB, _⟩ := owns_lies hA
        obtain ⟨aT, capT, rfl, hT⟩ := owns_texts hXt (fun t ht => (hK t ht).below hB)
        have k0 := Hd.setLn_ok k 0
        have hW := hid (with_any h k aT T.length capT T wr hT)
        have oL := hid (fun (hs : okH (h.setLn 0) = true) => okH_ln (x := ((bytes T).length : Nat)) hs)
        generalize hBs : bytes T = Bs at *
        generalize hbn : Bs.length = bn at *
        have Hbn := hid hbn
        generalize T.length = tn at *
        clear hA hXt hI hBs hbn
        cases hs0 : okH (h.setLn 0)
        · have eW : withE h Bs = 1 := by simp [withE, hs0]
          have eL : withL h Bs = [] := by simp [withL, eW]
          have cV0 : Hid (chkV (h.setLn 0) = 1) := by rw [Hid, chkV, hs0]; rfl
          rw [eW, eL] at hW
          clear eW eL hs0 oL
          go_wp2_with (refine ld28 _ rfl rfl gx rfl h k 28 hX ?_)
          refine hW.out.mono ?_
          rintro e u1 ⟨v1, rfl, hown, hb1⟩
          obtain ⟨a1, cap1, rfl, hl1, _⟩ := owns_lies hown
          rw [List.length_nil] at hl1 ⊢
          have hH1 := hH.below hb1
          clear hown hW
          have b2 := lay_below u1 24 h
          have N2 := hid (lay_new24 u1 h)
          have Hb2 := hid b2
          have HC1 := hid hl1
          have HA1 := hid (hlB.below hb1)
          have HB1 := hid (bthen hB hb1)
          have HH1 := hid hH1
          have gl : w.heap.size < u1.heap.size := hH1.lt
          clear hb1 hl1 hlB b2 hH1 hB hT hX hK hH
          go_wp2_with (first
            | (refine ld24 _ rfl rfl w.heap.size rfl h k 24 HH1.out ?_)
            | (refine st24 _ _ rfl rfl u1.heap.size h k rfl rfl 24 Hd.zero Hd.zero_ok (Row.new u1 24 _) ?_; generalize (u1.alloc (.cells Hd.zero.cs 24)).setRow u1.heap.size h.cs = u2 at *; have cN := (N2.out.cell 2).trans h.at2; have fN := N2.out.frozen 2; have N3 : Hid (Row (u2.setCell ⟨u1.heap.size, 2, none⟩ (.int .i64 0)) u1.heap.size 24 (h.setLn 0).cs) := by rw [Hid, ← Hd.set2]; exact N2.out.set 2 _)
            | (refine ld24 _ rfl rfl u1.heap.size rfl (h.setLn 0) k0 24 N3.out ?_))
          have b3 : Below u1.heap.size u2 (u2.setCell ⟨u1.heap.size, 2, none⟩ (.int .i64 0)) := bset 2 _ (Below.refl _ _) (Nat.le_refl _)
          have b13 := Hb2.out.trans b3
          have B3 := hid (bthen HB1.out b13)
          have C3 := hid (HC1.out.below b13)
          have A3 := hid (HA1.out.below b13)
          clear b3 cN fN N2 Hb2 HC1 HB1 HH1
          clear b13 HA1 C3 A3
          generalize u2.setCell ⟨u1.heap.size, 2, none⟩ (.int .i64 0) = u3 at *
          refine (refCheck_any (h.setLn 0) k0 _).mono ?_
          rintro e u4 ⟨rfl, hb4⟩
          rw [cV0.out]
          have B4 := hid (bthen B3.out hb4)
          clear hb4 B3 N3
          go_wp2_with fail
          refine (known_any _).mono ?_
          rintro e u5 ⟨rfl, hb5⟩
          have B5 := hid (bthen B4.out hb5)
          clear hb5 B4
          go_wp2_with fail
          go_ret
          exact ⟨rfl, B5.out⟩
        · have cV0 : Hid (chkV (h.setLn 0) = 0) := by rw [Hid, chkV, hs0]; rfl
          by_cases hbig : 1240 < bn
          · have eW : withE h Bs = 2 := by simp [withE, hs0, Hbn.out, hbig]
            have eL : withL h Bs = [] := by simp [withL, eW]
            rw [eW, eL] at hW
            have hbig' : (1240 : Int) < (bn : Int) := by omega
            clear eW eL hs0 oL
            go_wp2_with (refine ld28 _ rfl rfl gx rfl h k 28 hX ?_)
            refine hW.out.mono ?_
            rintro e u1 ⟨v1, rfl, hown, hb1⟩
            obtain ⟨a1, cap1, rfl, hl1, _⟩ := owns_lies hown
            rw [List.length_nil] at hl1 ⊢
            have hH1 := hH.below hb1
            clear hown hW
            have b2 := lay_below u1 24 h
            have N2 := hid (lay_new24 u1 h)
            have Hb2 := hid b2
            have HC1 := hid hl1
            have HA1 := hid (hlB.below hb1)
            have HB1 := hid (bthen hB hb1)
            have HH1 := hid hH1
            have gl : w.heap.size < u1.heap.size := hH1.lt
            clear hb1 hl1 hlB b2 hH1 hB hT hX hK hH
            go_wp2_with (first
              | (refine ld24 _ rfl rfl w.heap.size rfl h k 24 HH1.out ?_)
              | (refine st24 _ _ rfl rfl u1.heap.size h k rfl rfl 24 Hd.zero Hd.zero_ok (Row.new u1 24 _) ?_; generalize (u1.alloc (.cells Hd.zero.cs 24)).setRow u1.heap.size h.cs = u2 at *; have cN := (N2.out.cell 2).trans h.at2; have fN := N2.out.frozen 2; have N3 : Hid (Row (u2.setCell ⟨u1.heap.size, 2, none⟩ (.int .i64 0)) u1.heap.size 24 (h.setLn 0).cs) := by rw [Hid, ← Hd.set2]; exact N2.out.set 2 _)
              | (refine ld24 _ rfl rfl u1.heap.size rfl (h.setLn 0) k0 24 N3.out ?_))
            have b3 : Below u1.heap.size u2 (u2.setCell ⟨u1.heap.size, 2, none⟩ (.int .i64 0)) := bset 2 _ (Below.refl _ _) (Nat.le_refl _)
            have b13 := Hb2.out.trans b3
            have B3 := hid (bthen HB1.out b13)
            have C3 := hid (HC1.out.below b13)
            have A3 := hid (HA1.out.below b13)
            clear b3 cN fN N2 Hb2 HC1 HB1 HH1
            clear b13 HA1 C3 A3
            generalize u2.setCell ⟨u1.heap.size, 2, none⟩ (.int .i64 0) = u3 at *
            refine (refCheck_any (h.setLn 0) k0 _).mono ?_
            rintro e u4 ⟨rfl, hb4⟩
            rw [cV0.out]
            have B4 := hid (bthen B3.out hb4)
            clear hb4 B3 N3
            go_wp2_with fail
            refine (known_any _).mono ?_
            rintro e u5 ⟨rfl, hb5⟩
            have B5 := hid (bthen B4.out hb5)
            clear hb5 B4
            go_wp2_with fail
            go_ret
            exact ⟨rfl, B5.out⟩
          · have eW : withE h Bs = 0 := by simp [withE, hs0, Hbn.out]; omega
            have eL : withL h Bs = hdrL (h.setLn (bn : Nat)) ++ Bs := by simp [withL, eW, Hbn.out]
            rw [eW, eL] at hW
            have hbig' : decide ((1240 : Int) < (bn : Int)) = false := by simp; omega
            have kB := Hd.setLn_ok k (bn : Nat)
            have hyB : okH (h.setLn (bn : Nat)) = true := oL.out hs0 (by omega) (by omega)
            have DW := hid (dec_with kB hyB Bs oB (by rw [Hbn.out]; rfl) (by rw [Hbn.out]; omega))
            have oD := hid ((hdrL_oct kB).app oB)
            have q24 := eq24_same (h.setLn (bn : Nat)) kB
            generalize hD : hdrL (h.setLn (bn : Nat)) ++ Bs = D at *
            clear eW eL hs0 oL hD
            go_wp2_with (refine ld28 _ rfl rfl gx rfl h k 28 hX ?_)
            refine hW.out.mono ?_
            rintro e u1 ⟨v1, rfl, hown, hb1⟩
            obtain ⟨a1, cap1, rfl, hl1, _⟩ := owns_lies hown
            have hH1 := hH.below hb1
            clear hown hW
            have b2 := lay_below u1 24 h
            have N2 := hid (lay_new24 u1 h)
            have Hb2 := hid b2
            have HC1 := hid hl1
            have HA1 := hid (hlB.below hb1)
            have HB1 := hid (bthen hB hb1)
            have HH1 := hid hH1
            have gl : w.heap.size < u1.heap.size := hH1.lt
            clear hb1 hl1 hlB b2 hH1 hB hT hX hK hH
            go_wp2_with (first
              | (refine ld24 _ rfl rfl w.heap.size rfl h k 24 HH1.out ?_)
              | (refine st24 _ _ rfl rfl u1.heap.size h k rfl rfl 24 Hd.zero Hd.zero_ok (Row.new u1 24 _) ?_; generalize (u1.alloc (.cells Hd.zero.cs 24)).setRow u1.heap.size h.cs = u2 at *; have cN := (N2.out.cell 2).trans h.at2; have fN := N2.out.frozen 2; have N3 : Hid (Row (u2.setCell ⟨u1.heap.size, 2, none⟩ (.int .i64 0)) u1.heap.size 24 (h.setLn 0).cs) := by rw [Hid, ← Hd.set2]; exact N2.out.set 2 _)
              | (refine ld24 _ rfl rfl u1.heap.size rfl (h.setLn 0) k0 24 N3.out ?_))
            have b3 : Below u1.heap.size u2 (u2.setCell ⟨u1.heap.size, 2, none⟩ (.int .i64 0)) := bset 2 _ (Below.refl _ _) (Nat.le_refl _)
            have b13 := Hb2.out.trans b3
            have B3 := hid (bthen HB1.out b13)
            have C3 := hid (HC1.out.below b13)
            have A3 := hid (HA1.out.below b13)
            clear b3 cN fN N2 Hb2 HC1 HB1 HH1
            have HB13 := hid b13
            clear b13
            generalize u2.setCell ⟨u1.heap.size, 2, none⟩ (.int .i64 0) = u3 at *
            refine (refCheck_any (h.setLn 0) k0 _).mono ?_
            rintro e u4 ⟨rfl, hb4⟩
            rw [cV0.out]
            have N4 := hid (N3.out.below hb4)
            have C4 := hid (C3.out.below hb4)
            have A4 := hid (HA1.out.below (HB13.out.trans (hb4.mono (by have := HB13.out.size; omega))))
            have Q4 := hid (HB13.out.trans (hb4.mono (by have := HB13.out.size; omega)))
            have B4 := hid (bthen B3.out hb4)
            have g4 := N4.out.lt
            clear hb4 B3 N3 C3 A3 HB13
            go_wp2_with fail
            refine (decode_any a1 D.length cap1 D _ C4.out oD.out).mono ?_
            rintro e u5 ⟨v5, rfl, hown, hb5⟩
            obtain ⟨e1, e2, e3⟩ := DW.out
            rw [e1, e2]
            rw [e3, Hbn.out] at hown
            clear e1 e2 e3 DW
            obtain ⟨a5, cap5, rfl, _, _⟩ := owns_lies (show u5.ownsRow u4.heap.size 5 1 v5 Bs.length (u8s Bs) by rw [Hbn.out]; exact hown)
            rw [Hbn.out] at hown ⊢
            generalize hYb : h.setLn (bn : Nat) = Yb at *
            have HYb := hid hYb
            have b6 := lay_below u5 28 Yb
            have N6 := hid ((N4.out.below hb5).below b6)
            have Y6 := hid (lay_new u5 Yb)
            have O6 := hid (own_below hown b6)
            have Q6 := hid (Q4.out.trans ((hb5.trans (b6.mono hb5.size)).mono (by have := Q4.out.size; omega)))
            have B6 := hid (bthen (bthen B4.out hb5) b6)
            have g5 : u4.heap.size ≤ u5.heap.size := hb5.size
            clear hown hb5 b6 N4 C4 A4 Q4 B4 hYb
            go_wp2_with (refine st28 _ _ rfl rfl u5.heap.size Yb kB rfl rfl 28 Hd.zero Hd.zero_ok (Row.new u5 28 _) ?_; generalize (u5.alloc (.cells Hd.zero.cs 28)).setRow u5.heap.size Yb.cs = u6 at *; have cN := (N6.out.cell 2).trans (Hd.at2 _); have fN := N6.out.frozen 2)
            have N7 : Hid (Row (u6.setCell ⟨u1.heap.size, 2, none⟩ (.int .i64 bn)) u1.heap.size 24 Yb.cs) := by rw [Hid, ← HYb.out, ← setLn_setLn h 0 (bn : Nat), ← Hd.set2]; exact N6.out.set 2 _
            have Y7 := hid (Y6.out.other ⟨u1.heap.size, 2, none⟩ (.int .i64 bn) (by simp; omega))
            have O7 := hid (O6.out.kept (grownBy_setCell u6 u1.heap.size 2 (.int .i64 bn)) (.inr (own_row O6.out N6.out (by decide))))
            have b7 : Below u1.heap.size u6 (u6.setCell ⟨u1.heap.size, 2, none⟩ (.int .i64 bn)) := bset 2 _ (Below.refl _ _) (Nat.le_refl _)
            have A7 := hid (HA1.out.below (Q6.out.trans b7))
            have B7 := hid (B6.out.trans (b7.mono (by omega)))
            obtain ⟨a', cap', e', hl7, _⟩ := owns_lies (show (u6.setCell ⟨u1.heap.size, 2, none⟩ (.int .i64 bn)).ownsRow u4.heap.size 5 1 (.slice a5 bn cap5) Bs.length (u8s Bs) by rw [Hbn.out]; exact O7.out)
            rw [Hbn.out] at e' hl7
            simp at e'
            obtain ⟨rfl, rfl⟩ := e'
            have L7 := hid hl7
            generalize u1.heap.size = gn at *
            generalize u5.heap.size = gy at *
            clear b7 hl7 O7 O6 N6 Y6 Q6 B6 cN fN HA1
            generalize u6.setCell ⟨gn, 2, none⟩ (.int .i64 bn) = u7 at *
            refine wp_region_held_drew (S := fun w' => Hid (Row w' gy 28 Yb.cs) ∧ Hid (Row w' gn 24 Yb.cs)) (by kernel_rfl) ?_ (fun hHeld => ?_)
            · exact ⟨Y7.out, N7.out⟩
            refine wpAnyH_ready (rs := [0]) (by kernel_rfl) (by simp) ?_
            refine AllReadyH.cons (o := _) rfl (fun K hK => ?_) AllReadyH.nil
            go_simp
            refine (known_any _).mono ?_
            rintro e u8 ⟨rfl, hb8⟩
            have bb : Below u7.heap.size u7 u8 := bthen (bdrew (Below.refl _ _) 1) hb8
            have Y8 := hid (Y7.out.below bb)
            have N8 := hid (N7.out.below bb)
            have L8 := hid (L7.out.below bb)
            have A8 := hid (A7.out.below bb)
            have B8 := hid (bthen B7.out bb)
            clear hb8 bb Y7 N7 L7 A7 B7
            go_wp2_with fail
            refine hK.out _ _ ⟨Y8.out, N8.out⟩ (fun hHeld => ?_)
            clear hK K
            try simp only [List.getElem_toArray, List.getElem_cons_zero, List.getElem_cons_succ, Act.put, List.setIfInBounds_toArray, List.set_cons_zero, List.set_cons_succ]
            refine wpAnyH_take (i := 1) (oi := _) (v := ?vmp1) rfl (by kernel_rfl) (by kernel_rfl) (by kernel_rfl) (fun _ _ _ h => h) (Or.inl ⟨by rfl, ?hymp1⟩) (by assumption) ?restmp1
            case hymp1 => (intro w hSw; (try dsimp only at hSw); go_split_ands; go_simp; try (with_reducible rfl))
            try simp only [List.getElem_toArray, List.getElem_cons_zero, List.getElem_cons_succ, Act.put, List.setIfInBounds_toArray, List.set_cons_zero, List.set_cons_succ]
            refine wpAnyH_take (i := 2) (oi := _) (v := ?vmp2) rfl (by kernel_rfl) (by kernel_rfl) (by kernel_rfl) (fun _ _ _ h => h) (Or.inl ⟨by rfl, ?hymp2⟩) (by assumption) ?restmp2
            case hymp2 => (intro w hSw; (try dsimp only at hSw); go_split_ands; go_simp; try (with_reducible rfl))
            try simp only [List.getElem_toArray, List.getElem_cons_zero, List.getElem_cons_succ, Act.put, List.setIfInBounds_toArray, List.set_cons_zero, List.set_cons_succ]
            refine wpAnyH_take (i := 3) (oi := _) (v := ?vmp3) rfl (by kernel_rfl) (by kernel_rfl) (by kernel_rfl) (fun _ _ _ h => h) (Or.inl ⟨by rfl, ?hymp3⟩) (by assumption) ?restmp3
            case hymp3 => (intro w hSw; (try dsimp only at hSw); go_split_ands; go_simp; try (with_reducible rfl))
            try simp only [List.getElem_toArray, List.getElem_cons_zero, List.getElem_cons_succ, Act.put, List.setIfInBounds_toArray, List.set_cons_zero, List.set_cons_succ]
            refine wpAnyH_take (i := 4) (oi := _) (v := ?vmp4) rfl (by kernel_rfl) (by kernel_rfl) (by kernel_rfl) (fun _ _ _ h => h) (Or.inl ⟨by rfl, ?hymp4⟩) (by assumption) ?restmp4
            case hymp4 => (intro w hSw; (try dsimp only at hSw); go_split_ands; go_simp; try (with_reducible rfl))
            try simp only [List.getElem_toArray, List.getElem_cons_zero, List.getElem_cons_succ, Act.put, List.setIfInBounds_toArray, List.set_cons_zero, List.set_cons_succ]
            refine wpAnyH_take (i := 5) (oi := _) (v := ?vmp5) rfl (by kernel_rfl) (by kernel_rfl) (by kernel_rfl) (fun _ _ _ h => h) (Or.inl ⟨by rfl, ?hymp5⟩) (by assumption) ?restmp5
            case hymp5 => (intro w hSw; (try dsimp only at hSw); go_split_ands; go_simp; try (with_reducible rfl))
            try simp only [List.getElem_toArray, List.getElem_cons_zero, List.getElem_cons_succ, Act.put, List.setIfInBounds_toArray, List.set_cons_zero, List.set_cons_succ]
            refine wpAnyH_take (i := 6) (oi := _) (v := ?vmp6) rfl (by kernel_rfl) (by kernel_rfl) (by kernel_rfl) (fun _ _ _ h => h) (Or.inl ⟨by rfl, ?hymp6⟩) (by assumption) ?restmp6
            case hymp6 => (intro w hSw; (try dsimp only at hSw); go_split_ands; go_simp; try (with_reducible rfl))
            try simp only [List.getElem_toArray, List.getElem_cons_zero, List.getElem_cons_succ, Act.put, List.setIfInBounds_toArray, List.set_cons_zero, List.set_cons_succ]
            refine wpAnyH_take (i := 7) (oi := _) (v := ?vmp7) rfl (by kernel_rfl) (by kernel_rfl) (by kernel_rfl) (fun _ _ _ h => h) (Or.inl ⟨by rfl, ?hymp7⟩) (by assumption) ?restmp7
            case hymp7 => (intro w hSw; (try dsimp only at hSw); go_split_ands; go_simp; try (with_reducible rfl))
            try simp only [List.getElem_toArray, List.getElem_cons_zero, List.getElem_cons_succ, Act.put, List.setIfInBounds_toArray, List.set_cons_zero, List.set_cons_succ]
            refine wpAnyH_take (i := 8) (oi := _) (v := ?vmp8) rfl (by kernel_rfl) (by kernel_rfl) (by kernel_rfl) (fun _ _ _ h => h) (Or.inl ⟨by rfl, ?hymp8⟩) (by assumption) ?restmp8
            case hymp8 => (intro w hSw; (try dsimp only at hSw); go_split_ands; go_simp; try (with_reducible rfl))
            try simp only [List.getElem_toArray, List.getElem_cons_zero, List.getElem_cons_succ, Act.put, List.setIfInBounds_toArray, List.set_cons_zero, List.set_cons_succ]
            refine wpAnyH_take (i := 9) (oi := _) (v := ?vmp9) rfl (by kernel_rfl) (by kernel_rfl) (by kernel_rfl) (fun _ _ _ h => h) (Or.inl ⟨by rfl, ?hymp9⟩) (by assumption) ?restmp9
            case hymp9 => (intro w hSw; (try dsimp only at hSw); go_split_ands; go_simp; try (with_reducible rfl))
            try simp only [List.getElem_toArray, List.getElem_cons_zero, List.getElem_cons_succ, Act.put, List.setIfInBounds_toArray, List.set_cons_zero, List.set_cons_succ]
            refine wpAnyH_take (i := 10) (oi := _) (v := .agg Yb.cs) rfl (by kernel_rfl) (by kernel_rfl) (by kernel_rfl) (fun _ _ _ h => h) (yields_ld (by rfl) 28 _ rfl gy rfl Yb.cs _ (fun w h => (Hid.out h.1).part) Try.underlying28 rfl (by rw [Hd.size kB]; exact size28)) (by assumption) ?_
            try simp only [List.getElem_toArray, List.getElem_cons_zero, List.getElem_cons_succ, Act.put, List.setIfInBounds_toArray, List.set_cons_zero, List.set_cons_succ]
            refine wpAnyH_take (i := 12) (oi := _) (v := .agg Yb.cs) rfl (by kernel_rfl) (by kernel_rfl) (by kernel_rfl) (fun _ _ _ h => h) (yields_ld (by rfl) 24 _ rfl gn rfl Yb.cs _ (fun w h => (Hid.out h.2).part) Try.underlying24 rfl (by rw [Hd.size kB]; exact size24)) (by assumption) ?_
            try simp only [List.getElem_toArray, List.getElem_cons_zero, List.getElem_cons_succ, Act.put, List.setIfInBounds_toArray, List.set_cons_zero, List.set_cons_succ]
            refine wpAnyH_ready (rs := [11]) (by kernel_rfl) (by simp) ?_
            refine AllReadyH.cons (o := _) rfl (fun K hK => ?_) AllReadyH.nil
            go_simp
            refine (of_any Yb kB _).mono ?_
            rintro e u9 ⟨rfl, hb9⟩
            have Y9 := hid (Y8.out.below hb9)
            have N9 := hid (N8.out.below hb9)
            have L9 := hid (L8.out.below hb9)
            have A9 := hid (A8.out.below hb9)
            have B9 := hid (bthen B8.out hb9)
            clear hb9 Y8 N8 L8 A8 B8
            go_wp2_with fail
            refine hK.out _ _ ⟨Y9.out, N9.out⟩ (fun hHeld => ?_)
            clear hK K
            try simp only [List.getElem_toArray, List.getElem_cons_zero, List.getElem_cons_succ, Act.put, List.setIfInBounds_toArray, List.set_cons_zero, List.set_cons_succ]
            refine wpAnyH_take (i := 13) (oi := _) (v := ?vmp13) rfl (by kernel_rfl) (by kernel_rfl) (by kernel_rfl) (fun _ _ _ h => h) (Or.inl ⟨by rfl, ?hymp13⟩) (by assumption) ?restmp13
            case hymp13 => (intro w hSw; (try dsimp only at hSw); go_split_ands; go_simp; try (with_reducible rfl))
            try simp only [List.getElem_toArray, List.getElem_cons_zero, List.getElem_cons_succ, Act.put, List.setIfInBounds_toArray, List.set_cons_zero, List.set_cons_succ]
            refine wpAnyH_take (i := 14) (oi := _) (v := ?vmp14) rfl (by kernel_rfl) (by kernel_rfl) (by kernel_rfl) (fun _ _ _ h => h) (Or.inl ⟨by rfl, ?hymp14⟩) (by assumption) ?restmp14
            case hymp14 => (intro w hSw; (try dsimp only at hSw); go_split_ands; go_simp; try (with_reducible rfl))
            try simp only [List.getElem_toArray, List.getElem_cons_zero, List.getElem_cons_succ, Act.put, List.setIfInBounds_toArray, List.set_cons_zero, List.set_cons_succ]
            refine wpAnyH_take (i := 15) (oi := _) (v := ?vmp15) rfl (by kernel_rfl) (by kernel_rfl) (by kernel_rfl) (fun _ _ _ h => h) (Or.inl ⟨by rfl, ?hymp15⟩) (by assumption) ?restmp15
            case hymp15 => (intro w hSw; (try dsimp only at hSw); go_split_ands; go_simp; try (with_reducible rfl))
            try simp only [List.getElem_toArray, List.getElem_cons_zero, List.getElem_cons_succ, Act.put, List.setIfInBounds_toArray, List.set_cons_zero, List.set_cons_succ]
            refine wpAnyH_take (i := 16) (oi := _) (v := ?vmp16) rfl (by kernel_rfl) (by kernel_rfl) (by kernel_rfl) (fun _ _ _ h => h) (Or.inl ⟨by rfl, ?hymp16⟩) (by assumption) ?restmp16
            case hymp16 => (intro w hSw; (try dsimp only at hSw); go_split_ands; go_simp; try (with_reducible rfl))
            try simp only [List.getElem_toArray, List.getElem_cons_zero, List.getElem_cons_succ, Act.put, List.setIfInBounds_toArray, List.set_cons_zero, List.set_cons_succ]
            refine wpAnyH_take (i := 17) (oi := _) (v := ?vmp17) rfl (by kernel_rfl) (by kernel_rfl) (by kernel_rfl) (fun _ _ _ h => h) (Or.inl ⟨by rfl, ?hymp17⟩) (by assumption) ?restmp17
            case hymp17 => (intro w hSw; (try dsimp only at hSw); go_split_ands; go_simp; try (with_reducible rfl))
            try simp only [List.getElem_toArray, List.getElem_cons_zero, List.getElem_cons_succ, Act.put, List.setIfInBounds_toArray, List.set_cons_zero, List.set_cons_succ]
            refine wpAnyH_ready (rs := [18]) (by kernel_rfl) (by simp) ?_
            refine AllReadyH.cons (o := _) rfl (fun K hK => ?_) AllReadyH.nil
            go_simp
            refine (same_any _ _ _ _ _ _ Bs Bs _ L9.out A9.out).mono ?_
            rintro e u10 ⟨rfl, q9, rfl⟩
            rw [beq_self_eq_true]
            go_wp2_with fail
            refine hK.out _ _ ⟨Y9.out.drewN q9, N9.out.drewN q9⟩ (fun hHeld => ?_)
            clear hK K
            try simp only [List.getElem_toArray, List.getElem_cons_zero, List.getElem_cons_succ, Act.put, List.setIfInBounds_toArray, List.set_cons_zero, List.set_cons_succ]
            refine wpAnyH_take (i := 19) (oi := _) (v := ?vmp19) rfl (by kernel_rfl) (by kernel_rfl) (by kernel_rfl) (fun _ _ _ h => h) (Or.inl ⟨by rfl, ?hymp19⟩) (by assumption) ?restmp19
            case hymp19 => (intro w hSw; (try dsimp only at hSw); go_split_ands; go_simp; try (with_reducible rfl))
            try simp only [List.getElem_toArray, List.getElem_cons_zero, List.getElem_cons_succ, Act.put, List.setIfInBounds_toArray, List.set_cons_zero, List.set_cons_succ]
            refine wpAnyH_take (i := 20) (oi := _) (v := ?vmp20) rfl (by kernel_rfl) (by kernel_rfl) (by kernel_rfl) (fun _ _ _ h => h) (Or.inl ⟨by rfl, ?hymp20⟩) (by assumption) ?restmp20
            case hymp20 => (intro w hSw; (try dsimp only at hSw); go_split_ands; go_simp; try (with_reducible rfl))
            try simp only [List.getElem_toArray, List.getElem_cons_zero, List.getElem_cons_succ, Act.put, List.setIfInBounds_toArray, List.set_cons_zero, List.set_cons_succ]
            refine wpAnyH_done (by kernel_rfl) ?_ _
            go_wp2_with fail
            go_ret
            exact ⟨rfl, bdrew B9.out q9⟩
    · have hd : decide ((j : Int) < (n : Int)) = false := by simp; omega
      have hd2 : decide (j < n) = false := by simp; omega
      obtain ⟨hH, hX, hA, hXt, hK, hB⟩ := hI.out
      have HBl := bytes_cutL L j
      have oB := bytes_oct hK
      generalize cutL L j = T at *
      obtain ⟨aB, capB, rfl, hlB, _⟩ := owns_lies hA
      obtain ⟨aT, capT, rfl, hT⟩ := owns_texts hXt (fun t ht => (hK t ht).below hB)
      have k0 := Hd.setLn_ok k 0
      have hW := hid (with_any h k aT T.length capT T wr hT)
      have oL := hid (fun (hs : okH (h.setLn 0) = true) => okH_ln (x := ((bytes T).length : Nat)) hs)
      generalize hBs : bytes T = Bs at *
      generalize hbn : Bs.length = bn at *
      have Hbn := hid hbn
      generalize T.length = tn at *
      clear hA hXt hI hBs hbn
      cases hs0 : okH (h.setLn 0)
      · have eW : withE h Bs = 1 := by simp [withE, hs0]
        have eL : withL h Bs = [] := by simp [withL, eW]
        have cV0 : Hid (chkV (h.setLn 0) = 1) := by rw [Hid, chkV, hs0]; rfl
        rw [eW, eL] at hW
        clear eW eL hs0 oL
        go_wp2_with (refine ld28 _ rfl rfl gx rfl h k 28 hX ?_)
        refine hW.out.mono ?_
        rintro e u1 ⟨v1, rfl, hown, hb1⟩
        obtain ⟨a1, cap1, rfl, hl1, _⟩ := owns_lies hown
        rw [List.length_nil] at hl1 ⊢
        have hH1 := hH.below hb1
        clear hown hW
        have b2 := lay_below u1 24 h
        have N2 := hid (lay_new24 u1 h)
        have Hb2 := hid b2
        have HC1 := hid hl1
        have HA1 := hid (hlB.below hb1)
        have HB1 := hid (bthen hB hb1)
        have HH1 := hid hH1
        have gl : w.heap.size < u1.heap.size := hH1.lt
        clear hb1 hl1 hlB b2 hH1 hB hT hX hK hH
        go_wp2_with (first
          | (refine ld24 _ rfl rfl w.heap.size rfl h k 24 HH1.out ?_)
          | (refine st24 _ _ rfl rfl u1.heap.size h k rfl rfl 24 Hd.zero Hd.zero_ok (Row.new u1 24 _) ?_; generalize (u1.alloc (.cells Hd.zero.cs 24)).setRow u1.heap.size h.cs = u2 at *; have cN := (N2.out.cell 2).trans h.at2; have fN := N2.out.frozen 2; have N3 : Hid (Row (u2.setCell ⟨u1.heap.size, 2, none⟩ (.int .i64 0)) u1.heap.size 24 (h.setLn 0).cs) := by rw [Hid, ← Hd.set2]; exact N2.out.set 2 _)
          | (refine ld24 _ rfl rfl u1.heap.size rfl (h.setLn 0) k0 24 N3.out ?_))
        have b3 : Below u1.heap.size u2 (u2.setCell ⟨u1.heap.size, 2, none⟩ (.int .i64 0)) := bset 2 _ (Below.refl _ _) (Nat.le_refl _)
        have b13 := Hb2.out.trans b3
        have B3 := hid (bthen HB1.out b13)
        have C3 := hid (HC1.out.below b13)
        have A3 := hid (HA1.out.below b13)
        clear b3 cN fN N2 Hb2 HC1 HB1 HH1
        clear b13 HA1 C3 A3
        generalize u2.setCell ⟨u1.heap.size, 2, none⟩ (.int .i64 0) = u3 at *
        refine (refCheck_any (h.setLn 0) k0 _).mono ?_
        rintro e u4 ⟨rfl, hb4⟩
        rw [cV0.out]
        have B4 := hid (bthen B3.out hb4)
        clear hb4 B3 N3
        go_wp2_with fail
        refine (known_any _).mono ?_
        rintro e u5 ⟨rfl, hb5⟩
        have B5 := hid (bthen B4.out hb5)
        clear hb5 B4
        go_wp2_with fail
        go_ret
        exact ⟨rfl, B5.out⟩
      · have cV0 : Hid (chkV (h.setLn 0) = 0) := by rw [Hid, chkV, hs0]; rfl
        by_cases hbig : 1240 < bn
        · have eW : withE h Bs = 2 := by simp [withE, hs0, Hbn.out, hbig]
          have eL : withL h Bs = [] := by simp [withL, eW]
          rw [eW, eL] at hW
          have hbig' : (1240 : Int) < (bn : Int) := by omega
          clear eW eL hs0 oL
          go_wp2_with (refine ld28 _ rfl rfl gx rfl h k 28 hX ?_)
          refine hW.out.mono ?_
          rintro e u1 ⟨v1, rfl, hown, hb1⟩
          obtain ⟨a1, cap1, rfl, hl1, _⟩ := owns_lies hown
          rw [List.length_nil] at hl1 ⊢
          have hH1 := hH.below hb1
          clear hown hW
          have b2 := lay_below u1 24 h
          have N2 := hid (lay_new24 u1 h)
          have Hb2 := hid b2
          have HC1 := hid hl1
          have HA1 := hid (hlB.below hb1)
          have HB1 := hid (bthen hB hb1)
          have HH1 := hid hH1
          have gl : w.heap.size < u1.heap.size := hH1.lt
          clear hb1 hl1 hlB b2 hH1 hB hT hX hK hH
          go_wp2_with (first
            | (refine ld24 _ rfl rfl w.heap.size rfl h k 24 HH1.out ?_)
            | (refine st24 _ _ rfl rfl u1.heap.size h k rfl rfl 24 Hd.zero Hd.zero_ok (Row.new u1 24 _) ?_; generalize (u1.alloc (.cells Hd.zero.cs 24)).setRow u1.heap.size h.cs = u2 at *; have cN := (N2.out.cell 2).trans h.at2; have fN := N2.out.frozen 2; have N3 : Hid (Row (u2.setCell ⟨u1.heap.size, 2, none⟩ (.int .i64 0)) u1.heap.size 24 (h.setLn 0).cs) := by rw [Hid, ← Hd.set2]; exact N2.out.set 2 _)
            | (refine ld24 _ rfl rfl u1.heap.size rfl (h.setLn 0) k0 24 N3.out ?_))
          have b3 : Below u1.heap.size u2 (u2.setCell ⟨u1.heap.size, 2, none⟩ (.int .i64 0)) := bset 2 _ (Below.refl _ _) (Nat.le_refl _)
          have b13 := Hb2.out.trans b3
          have B3 := hid (bthen HB1.out b13)
          have C3 := hid (HC1.out.below b13)
          have A3 := hid (HA1.out.below b13)
          clear b3 cN fN N2 Hb2 HC1 HB1 HH1
          clear b13 HA1 C3 A3
          generalize u2.setCell ⟨u1.heap.size, 2, none⟩ (.int .i64 0) = u3 at *
          refine (refCheck_any (h.setLn 0) k0 _).mono ?_
          rintro e u4 ⟨rfl, hb4⟩
          rw [cV0.out]
          have B4 := hid (bthen B3.out hb4)
          clear hb4 B3 N3
          go_wp2_with fail
          refine (known_any _).mono ?_
          rintro e u5 ⟨rfl, hb5⟩
          have B5 := hid (bthen B4.out hb5)
          clear hb5 B4
          go_wp2_with fail
          go_ret
          exact ⟨rfl, B5.out⟩
        · have eW : withE h Bs = 0 := by simp [withE, hs0, Hbn.out]; omega
          have eL : withL h Bs = hdrL (h.setLn (bn : Nat)) ++ Bs := by simp [withL, eW, Hbn.out]
          rw [eW, eL] at hW
          have hbig' : decide ((1240 : Int) < (bn : Int)) = false := by simp; omega
          have kB := Hd.setLn_ok k (bn : Nat)
          have hyB : okH (h.setLn (bn : Nat)) = true := oL.out hs0 (by omega) (by omega)
          have DW := hid (dec_with kB hyB Bs oB (by rw [Hbn.out]; rfl) (by rw [Hbn.out]; omega))
          have oD := hid ((hdrL_oct kB).app oB)
          have q24 := eq24_same (h.setLn (bn : Nat)) kB
          generalize hD : hdrL (h.setLn (bn : Nat)) ++ Bs = D at *
          clear eW eL hs0 oL hD
          go_wp2_with (refine ld28 _ rfl rfl gx rfl h k 28 hX ?_)
          refine hW.out.mono ?_
          rintro e u1 ⟨v1, rfl, hown, hb1⟩
          obtain ⟨a1, cap1, rfl, hl1, _⟩ := owns_lies hown
          have hH1 := hH.below hb1
          clear hown hW
          have b2 := lay_below u1 24 h
          have N2 := hid (lay_new24 u1 h)
          have Hb2 := hid b2
          have HC1 := hid hl1
          have HA1 := hid (hlB.below hb1)
          have HB1 := hid (bthen hB hb1)
          have HH1 := hid hH1
          have gl : w.heap.size < u1.heap.size := hH1.lt
          clear hb1 hl1 hlB b2 hH1 hB hT hX hK hH
          go_wp2_with (first
            | (refine ld24 _ rfl rfl w.heap.size rfl h k 24 HH1.out ?_)
            | (refine st24 _ _ rfl rfl u1.heap.size h k rfl rfl 24 Hd.zero Hd.zero_ok (Row.new u1 24 _) ?_; generalize (u1.alloc (.cells Hd.zero.cs 24)).setRow u1.heap.size h.cs = u2 at *; have cN := (N2.out.cell 2).trans h.at2; have fN := N2.out.frozen 2; have N3 : Hid (Row (u2.setCell ⟨u1.heap.size, 2, none⟩ (.int .i64 0)) u1.heap.size 24 (h.setLn 0).cs) := by rw [Hid, ← Hd.set2]; exact N2.out.set 2 _)
            | (refine ld24 _ rfl rfl u1.heap.size rfl (h.setLn 0) k0 24 N3.out ?_))
          have b3 : Below u1.heap.size u2 (u2.setCell ⟨u1.heap.size, 2, none⟩ (.int .i64 0)) := bset 2 _ (Below.refl _ _) (Nat.le_refl _)
          have b13 := Hb2.out.trans b3
          have B3 := hid (bthen HB1.out b13)
          have C3 := hid (HC1.out.below b13)
          have A3 := hid (HA1.out.below b13)
          clear b3 cN fN N2 Hb2 HC1 HB1 HH1
          have HB13 := hid b13
          clear b13
          generalize u2.setCell ⟨u1.heap.size, 2, none⟩ (.int .i64 0) = u3 at *
          refine (refCheck_any (h.setLn 0) k0 _).mono ?_
          rintro e u4 ⟨rfl, hb4⟩
          rw [cV0.out]
          have N4 := hid (N3.out.below hb4)
          have C4 := hid (C3.out.below hb4)
          have A4 := hid (HA1.out.below (HB13.out.trans (hb4.mono (by have := HB13.out.size; omega))))
          have Q4 := hid (HB13.out.trans (hb4.mono (by have := HB13.out.size; omega)))
          have B4 := hid (bthen B3.out hb4)
          have g4 := N4.out.lt
          clear hb4 B3 N3 C3 A3 HB13
          go_wp2_with fail
          refine (decode_any a1 D.length cap1 D _ C4.out oD.out).mono ?_
          rintro e u5 ⟨v5, rfl, hown, hb5⟩
          obtain ⟨e1, e2, e3⟩ := DW.out
          rw [e1, e2]
          rw [e3, Hbn.out] at hown
          clear e1 e2 e3 DW
          obtain ⟨a5, cap5, rfl, _, _⟩ := owns_lies (show u5.ownsRow u4.heap.size 5 1 v5 Bs.length (u8s Bs) by rw [Hbn.out]; exact hown)
          rw [Hbn.out] at hown ⊢
          generalize hYb : h.setLn (bn : Nat) = Yb at *
          have HYb := hid hYb
          have b6 := lay_below u5 28 Yb
          have N6 := hid ((N4.out.below hb5).below b6)
          have Y6 := hid (lay_new u5 Yb)
          have O6 := hid (own_below hown b6)
          have Q6 := hid (Q4.out.trans ((hb5.trans (b6.mono hb5.size)).mono (by have := Q4.out.size; omega)))
          have B6 := hid (bthen (bthen B4.out hb5) b6)
          have g5 : u4.heap.size ≤ u5.heap.size := hb5.size
          clear hown hb5 b6 N4 C4 A4 Q4 B4 hYb
          go_wp2_with (refine st28 _ _ rfl rfl u5.heap.size Yb kB rfl rfl 28 Hd.zero Hd.zero_ok (Row.new u5 28 _) ?_; generalize (u5.alloc (.cells Hd.zero.cs 28)).setRow u5.heap.size Yb.cs = u6 at *; have cN := (N6.out.cell 2).trans (Hd.at2 _); have fN := N6.out.frozen 2)
          have N7 : Hid (Row (u6.setCell ⟨u1.heap.size, 2, none⟩ (.int .i64 bn)) u1.heap.size 24 Yb.cs) := by rw [Hid, ← HYb.out, ← setLn_setLn h 0 (bn : Nat), ← Hd.set2]; exact N6.out.set 2 _
          have Y7 := hid (Y6.out.other ⟨u1.heap.size, 2, none⟩ (.int .i64 bn) (by simp; omega))
          have O7 := hid (O6.out.kept (grownBy_setCell u6 u1.heap.size 2 (.int .i64 bn)) (.inr (own_row O6.out N6.out (by decide))))
          have b7 : Below u1.heap.size u6 (u6.setCell ⟨u1.heap.size, 2, none⟩ (.int .i64 bn)) := bset 2 _ (Below.refl _ _) (Nat.le_refl _)
          have A7 := hid (HA1.out.below (Q6.out.trans b7))
          have B7 := hid (B6.out.trans (b7.mono (by omega)))
          obtain ⟨a', cap', e', hl7, _⟩ := owns_lies (show (u6.setCell ⟨u1.heap.size, 2, none⟩ (.int .i64 bn)).ownsRow u4.heap.size 5 1 (.slice a5 bn cap5) Bs.length (u8s Bs) by rw [Hbn.out]; exact O7.out)
          rw [Hbn.out] at e' hl7
          simp at e'
          obtain ⟨rfl, rfl⟩ := e'
          have L7 := hid hl7
          generalize u1.heap.size = gn at *
          generalize u5.heap.size = gy at *
          clear b7 hl7 O7 O6 N6 Y6 Q6 B6 cN fN HA1
          generalize u6.setCell ⟨gn, 2, none⟩ (.int .i64 bn) = u7 at *
          refine wp_region_held_drew (S := fun w' => Hid (Row w' gy 28 Yb.cs) ∧ Hid (Row w' gn 24 Yb.cs)) (by kernel_rfl) ?_ (fun hHeld => ?_)
          · exact ⟨Y7.out, N7.out⟩
          refine wpAnyH_ready (rs := [0]) (by kernel_rfl) (by simp) ?_
          refine AllReadyH.cons (o := _) rfl (fun K hK => ?_) AllReadyH.nil
          go_simp
          refine (known_any _).mono ?_
          rintro e u8 ⟨rfl, hb8⟩
          have bb : Below u7.heap.size u7 u8 := bthen (bdrew (Below.refl _ _) 1) hb8
          have Y8 := hid (Y7.out.below bb)
          have N8 := hid (N7.out.below bb)
          have L8 := hid (L7.out.below bb)
          have A8 := hid (A7.out.below bb)
          have B8 := hid (bthen B7.out bb)
          clear hb8 bb Y7 N7 L7 A7 B7
          go_wp2_with fail
          refine hK.out _ _ ⟨Y8.out, N8.out⟩ (fun hHeld => ?_)
          clear hK K
          try simp only [List.getElem_toArray, List.getElem_cons_zero, List.getElem_cons_succ, Act.put, List.setIfInBounds_toArray, List.set_cons_zero, List.set_cons_succ]
          refine wpAnyH_take (i := 1) (oi := _) (v := ?vmq1) rfl (by kernel_rfl) (by kernel_rfl) (by kernel_rfl) (fun _ _ _ h => h) (Or.inl ⟨by rfl, ?hymq1⟩) (by assumption) ?restmq1
          case hymq1 => (intro w hSw; (try dsimp only at hSw); go_split_ands; go_simp; try (with_reducible rfl))
          try simp only [List.getElem_toArray, List.getElem_cons_zero, List.getElem_cons_succ, Act.put, List.setIfInBounds_toArray, List.set_cons_zero, List.set_cons_succ]
          refine wpAnyH_take (i := 2) (oi := _) (v := ?vmq2) rfl (by kernel_rfl) (by kernel_rfl) (by kernel_rfl) (fun _ _ _ h => h) (Or.inl ⟨by rfl, ?hymq2⟩) (by assumption) ?restmq2
          case hymq2 => (intro w hSw; (try dsimp only at hSw); go_split_ands; go_simp; try (with_reducible rfl))
          try simp only [List.getElem_toArray, List.getElem_cons_zero, List.getElem_cons_succ, Act.put, List.setIfInBounds_toArray, List.set_cons_zero, List.set_cons_succ]
          refine wpAnyH_take (i := 3) (oi := _) (v := ?vmq3) rfl (by kernel_rfl) (by kernel_rfl) (by kernel_rfl) (fun _ _ _ h => h) (Or.inl ⟨by rfl, ?hymq3⟩) (by assumption) ?restmq3
          case hymq3 => (intro w hSw; (try dsimp only at hSw); go_split_ands; go_simp; try (with_reducible rfl))
          try simp only [List.getElem_toArray, List.getElem_cons_zero, List.getElem_cons_succ, Act.put, List.setIfInBounds_toArray, List.set_cons_zero, List.set_cons_succ]
          refine wpAnyH_take (i := 4) (oi := _) (v := ?vmq4) rfl (by kernel_rfl) (by kernel_rfl) (by kernel_rfl) (fun _ _ _ h => h) (Or.inl ⟨by rfl, ?hymq4⟩) (by assumption) ?restmq4
          case hymq4 => (intro w hSw; (try dsimp only at hSw); go_split_ands; go_simp; try (with_reducible rfl))
          try simp only [List.getElem_toArray, List.getElem_cons_zero, List.getElem_cons_succ, Act.put, List.setIfInBounds_toArray, List.set_cons_zero, List.set_cons_succ]
          refine wpAnyH_take (i := 5) (oi := _) (v := ?vmq5) rfl (by kernel_rfl) (by kernel_rfl) (by kernel_rfl) (fun _ _ _ h => h) (Or.inl ⟨by rfl, ?hymq5⟩) (by assumption) ?restmq5
          case hymq5 => (intro w hSw; (try dsimp only at hSw); go_split_ands; go_simp; try (with_reducible rfl))
          try simp only [List.getElem_toArray, List.getElem_cons_zero, List.getElem_cons_succ, Act.put, List.setIfInBounds_toArray, List.set_cons_zero, List.set_cons_succ]
          refine wpAnyH_take (i := 6) (oi := _) (v := ?vmq6) rfl (by kernel_rfl) (by kernel_rfl) (by kernel_rfl) (fun _ _ _ h => h) (Or.inl ⟨by rfl, ?hymq6⟩) (by assumption) ?restmq6
          case hymq6 => (intro w hSw; (try dsimp only at hSw); go_split_ands; go_simp; try (with_reducible rfl))
          try simp only [List.getElem_toArray, List.getElem_cons_zero, List.getElem_cons_succ, Act.put, List.setIfInBounds_toArray, List.set_cons_zero, List.set_cons_succ]
          refine wpAnyH_take (i := 7) (oi := _) (v := ?vmq7) rfl (by kernel_rfl) (by kernel_rfl) (by kernel_rfl) (fun _ _ _ h => h) (Or.inl ⟨by rfl, ?hymq7⟩) (by assumption) ?restmq7
          case hymq7 => (intro w hSw; (try dsimp only at hSw); go_split_ands; go_simp; try (with_reducible rfl))
          try simp only [List.getElem_toArray, List.getElem_cons_zero, List.getElem_cons_succ, Act.put, List.setIfInBounds_toArray, List.set_cons_zero, List.set_cons_succ]
          refine wpAnyH_take (i := 8) (oi := _) (v := ?vmq8) rfl (by kernel_rfl) (by kernel_rfl) (by kernel_rfl) (fun _ _ _ h => h) (Or.inl ⟨by rfl, ?hymq8⟩) (by assumption) ?restmq8
          case hymq8 => (intro w hSw; (try dsimp only at hSw); go_split_ands; go_simp; try (with_reducible rfl))
          try simp only [List.getElem_toArray, List.getElem_cons_zero, List.getElem_cons_succ, Act.put, List.setIfInBounds_toArray, List.set_cons_zero, List.set_cons_succ]
          refine wpAnyH_take (i := 9) (oi := _) (v := ?vmq9) rfl (by kernel_rfl) (by kernel_rfl) (by kernel_rfl) (fun _ _ _ h => h) (Or.inl ⟨by rfl, ?hymq9⟩) (by assumption) ?restmq9
          case hymq9 => (intro w hSw; (try dsimp only at hSw); go_split_ands; go_simp; try (with_reducible rfl))
          try simp only [List.getElem_toArray, List.getElem_cons_zero, List.getElem_cons_succ, Act.put, List.setIfInBounds_toArray, List.set_cons_zero, List.set_cons_succ]
          refine wpAnyH_take (i := 10) (oi := _) (v := .agg Yb.cs) rfl (by kernel_rfl) (by kernel_rfl) (by kernel_rfl) (fun _ _ _ h => h) (yields_ld (by rfl) 28 _ rfl gy rfl Yb.cs _ (fun w h => (Hid.out h.1).part) Try.underlying28 rfl (by rw [Hd.size kB]; exact size28)) (by assumption) ?_
          try simp only [List.getElem_toArray, List.getElem_cons_zero, List.getElem_cons_succ, Act.put, List.setIfInBounds_toArray, List.set_cons_zero, List.set_cons_succ]
          refine wpAnyH_take (i := 12) (oi := _) (v := .agg Yb.cs) rfl (by kernel_rfl) (by kernel_rfl) (by kernel_rfl) (fun _ _ _ h => h) (yields_ld (by rfl) 24 _ rfl gn rfl Yb.cs _ (fun w h => (Hid.out h.2).part) Try.underlying24 rfl (by rw [Hd.size kB]; exact size24)) (by assumption) ?_
          try simp only [List.getElem_toArray, List.getElem_cons_zero, List.getElem_cons_succ, Act.put, List.setIfInBounds_toArray, List.set_cons_zero, List.set_cons_succ]
          refine wpAnyH_ready (rs := [11]) (by kernel_rfl) (by simp) ?_
          refine AllReadyH.cons (o := _) rfl (fun K hK => ?_) AllReadyH.nil
          go_simp
          refine (of_any Yb kB _).mono ?_
          rintro e u9 ⟨rfl, hb9⟩
          have Y9 := hid (Y8.out.below hb9)
          have N9 := hid (N8.out.below hb9)
          have L9 := hid (L8.out.below hb9)
          have A9 := hid (A8.out.below hb9)
          have B9 := hid (bthen B8.out hb9)
          clear hb9 Y8 N8 L8 A8 B8
          go_wp2_with fail
          refine hK.out _ _ ⟨Y9.out, N9.out⟩ (fun hHeld => ?_)
          clear hK K
          try simp only [List.getElem_toArray, List.getElem_cons_zero, List.getElem_cons_succ, Act.put, List.setIfInBounds_toArray, List.set_cons_zero, List.set_cons_succ]
          refine wpAnyH_take (i := 13) (oi := _) (v := ?vmq13) rfl (by kernel_rfl) (by kernel_rfl) (by kernel_rfl) (fun _ _ _ h => h) (Or.inl ⟨by rfl, ?hymq13⟩) (by assumption) ?restmq13
          case hymq13 => (intro w hSw; (try dsimp only at hSw); go_split_ands; go_simp; try (with_reducible rfl))
          try simp only [List.getElem_toArray, List.getElem_cons_zero, List.getElem_cons_succ, Act.put, List.setIfInBounds_toArray, List.set_cons_zero, List.set_cons_succ]
          refine wpAnyH_take (i := 14) (oi := _) (v := ?vmq14) rfl (by kernel_rfl) (by kernel_rfl) (by kernel_rfl) (fun _ _ _ h => h) (Or.inl ⟨by rfl, ?hymq14⟩) (by assumption) ?restmq14
          case hymq14 => (intro w hSw; (try dsimp only at hSw); go_split_ands; go_simp; try (with_reducible rfl))
          try simp only [List.getElem_toArray, List.getElem_cons_zero, List.getElem_cons_succ, Act.put, List.setIfInBounds_toArray, List.set_cons_zero, List.set_cons_succ]
          refine wpAnyH_take (i := 15) (oi := _) (v := ?vmq15) rfl (by kernel_rfl) (by kernel_rfl) (by kernel_rfl) (fun _ _ _ h => h) (Or.inl ⟨by rfl, ?hymq15⟩) (by assumption) ?restmq15
          case hymq15 => (intro w hSw; (try dsimp only at hSw); go_split_ands; go_simp; try (with_reducible rfl))
          try simp only [List.getElem_toArray, List.getElem_cons_zero, List.getElem_cons_succ, Act.put, List.setIfInBounds_toArray, List.set_cons_zero, List.set_cons_succ]
          refine wpAnyH_take (i := 16) (oi := _) (v := ?vmq16) rfl (by kernel_rfl) (by kernel_rfl) (by kernel_rfl) (fun _ _ _ h => h) (Or.inl ⟨by rfl, ?hymq16⟩) (by assumption) ?restmq16
          case hymq16 => (intro w hSw; (try dsimp only at hSw); go_split_ands; go_simp; try (with_reducible rfl))
          try simp only [List.getElem_toArray, List.getElem_cons_zero, List.getElem_cons_succ, Act.put, List.setIfInBounds_toArray, List.set_cons_zero, List.set_cons_succ]
          refine wpAnyH_take (i := 17) (oi := _) (v := ?vmq17) rfl (by kernel_rfl) (by kernel_rfl) (by kernel_rfl) (fun _ _ _ h => h) (Or.inl ⟨by rfl, ?hymq17⟩) (by assumption) ?restmq17
          case hymq17 => (intro w hSw; (try dsimp only at hSw); go_split_ands; go_simp; try (with_reducible rfl))
          try simp only [List.getElem_toArray, List.getElem_cons_zero, List.getElem_cons_succ, Act.put, List.setIfInBounds_toArray, List.set_cons_zero, List.set_cons_succ]
          refine wpAnyH_ready (rs := [18]) (by kernel_rfl) (by simp) ?_
          refine AllReadyH.cons (o := _) rfl (fun K hK => ?_) AllReadyH.nil
          go_simp
          refine (same_any _ _ _ _ _ _ Bs Bs _ L9.out A9.out).mono ?_
          rintro e u10 ⟨rfl, q9, rfl⟩
          rw [beq_self_eq_true]
          go_wp2_with fail
          refine hK.out _ _ ⟨Y9.out.drewN q9, N9.out.drewN q9⟩ (fun hHeld => ?_)
          clear hK K
          try simp only [List.getElem_toArray, List.getElem_cons_zero, List.getElem_cons_succ, Act.put, List.setIfInBounds_toArray, List.set_cons_zero, List.set_cons_succ]
          refine wpAnyH_take (i := 19) (oi := _) (v := ?vmq19) rfl (by kernel_rfl) (by kernel_rfl) (by kernel_rfl) (fun _ _ _ h => h) (Or.inl ⟨by rfl, ?hymq19⟩) (by assumption) ?restmq19
          case hymq19 => (intro w hSw; (try dsimp only at hSw); go_split_ands; go_simp; try (with_reducible rfl))
          try simp only [List.getElem_toArray, List.getElem_cons_zero, List.getElem_cons_succ, Act.put, List.setIfInBounds_toArray, List.set_cons_zero, List.set_cons_succ]
          refine wpAnyH_take (i := 20) (oi := _) (v := ?vmq20) rfl (by kernel_rfl) (by kernel_rfl) (by kernel_rfl) (fun _ _ _ h => h) (Or.inl ⟨by rfl, ?hymq20⟩) (by assumption) ?restmq20
          case hymq20 => (intro w hSw; (try dsimp only at hSw); go_split_ands; go_simp; try (with_reducible rfl))
          try simp only [List.getElem_toArray, List.getElem_cons_zero, List.getElem_cons_succ, Act.put, List.setIfInBounds_toArray, List.set_cons_zero, List.set_cons_succ]
          refine wpAnyH_done (by kernel_rfl) ?_ _
          go_wp2_with fail
          go_ret
          exact ⟨rfl, bdrew B9.out q9⟩
end Go.Proofs.Ytmpkemlnpmephaa
