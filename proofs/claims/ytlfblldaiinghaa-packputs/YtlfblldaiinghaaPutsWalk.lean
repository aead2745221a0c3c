/- The walk of PackPuts. -/
import Derived.Test.YtlfblldaiinghaaDigits
namespace Go.Proofs.Ytlfblldaiinghaa
open Go.ChangeShapes Go.WideShapes Go.ChangeAt Go.RowKit
set_option linter.unusedVariables false
set_option linter.unusedSimpArgs false

theorem cut_len (n : Nat) (k : Int) (hk : 0 ≤ k) : (if k < (n : Int) then k else (n : Int)).toNat ≤ n ∧ ((if k < (n : Int) then k else (n : Int)).toNat : Int) ≤ k := by split <;> omega

theorem numOf_digs (size n : Int) (hz : sizeB size = true) (h : okB size n = true) : numOf (digs size n) = n := by
  rcases sizeB_cases hz with rfl | rfl | rfl <;> simp [okB, top] at h <;> simp [numOf, digs] <;> omega

theorem chunk (size : Int) (hz : sizeB size = true) : ∀ (l : List Int) (i : Nat), i < l.length → ((bytesOf size l).drop (size.toNat * i)).take size.toNat = digs size (l.getD i 0)
  | [], i, h => by simp at h
  | x :: l, 0, h => by
    simp only [bytesOf, List.flatMap_cons, Nat.mul_zero, List.drop_zero]
    rw [List.take_append_of_le_length (by rw [digs_length size x hz]; exact Nat.le_refl _)]
    rw [List.take_of_length_le (by rw [digs_length size x hz]; exact Nat.le_refl _)]
    simp
  | x :: l, i + 1, h => by
    have ih := chunk size hz l i (by simpa using h)
    simp only [bytesOf, List.flatMap_cons] at ih ⊢
    rw [show size.toNat * (i + 1) = (digs size x).length + size.toNat * i by rw [digs_length size x hz, Nat.mul_add]; omega, List.drop_length_add_append]
    rw [ih]; simp

theorem nums_back (size : Int) (l : List Int) (h : fitsB size l = true) : numsTo size.toNat (bytesOf size l) l.length = l := by
  have hz : sizeB size = true := by simp [fitsB] at h; exact h.1
  have ha : ∀ x ∈ l, okB size x = true := by simp [fitsB, hz] at h; exact h
  apply List.ext_getElem
  · simp [numsTo]
  · intro i h1 h2
    simp only [numsTo, List.getElem_map, List.getElem_range]
    rw [chunk size hz l i h2, numOf_digs size _ hz (ha _ (by simp [h2]))]
    simp [h2]

theorem wf_u8 {n : Int} (h : (Lit.int .u8 n).wf = true) : 0 ≤ n ∧ n < 256 := by
  simp [Lit.wf, IntKind.min, IntKind.max, IntKind.bits, IntKind.signed] at h; omega

theorem put_facts (size : Int) (bs l : List Int) (h : putE size bs.length l = 0) : fitsB size l = true ∧ putL size bs l = bs ++ bytesOf size l ∧ bs.length + size.toNat * l.length ≤ 1280 ∧ (putL size bs l).length = bs.length + size.toNat * l.length := by
  have hL : putL size bs l = bs ++ bytesOf size l := by rw [putL, if_pos h]
  unfold putE at h
  split at h
  · rename_i hf
    split at h
    · omega
    · have hz : sizeB size = true := by simp [fitsB] at hf; exact hf.1
      refine ⟨hf, hL, by omega, ?_⟩
      rw [hL, List.length_append, bytesOf_length size l hz]
  · omega

theorem rd_ok (size n : Int) (left : Nat) (hz : sizeB size = true) (hn : 0 ≤ n) (hl : size * n ≤ left) : rdE size n left 0 = 0 ∧ rdN size n left 0 = (size * n).toNat := by
  have hE : rdE size n left 0 = 0 := by simp [rdE, hz, Int.not_lt.2 hl]; omega
  exact ⟨hE, by rw [rdN, if_pos hE]⟩

set_option maxHeartbeats 1000000 in
theorem puts_walk0 (size : Int) (ab al : Option Addr) (lb cb ll cl : Nat) (bs l : List Int) (w : World) (hb : Lies .u8 w ab lb cb bs) (hl : Lies .i64 w al ll cl l) (ho : Oct bs) (hwf : ∀ x ∈ l, (Lit.int .i64 x).wf = true) :
    Calls Try.prog 3 #[.slice ab lb cb, .int .i64 size, .slice al ll cl] w fun e w' => e = .returned (.bool true) ∧ Below w.heap.size w w' := by
  have hcb := hb.2.2.1
  have hcl := hl.2.2.1
  have hlb := hb.2.1
  have hll := hl.2.1
  unfold maxLen at hcb hcl
  have HB := hid hb
  have HL := hid hl
  clear hb hl
  go_enter Try.func3, Try.ntmps3
  go_wp2
  go_region
  have hnb := cut_len lb 1300 (by omega)
  have hnl := cut_len ll 700 (by omega)
  generalize hx : (if (1300 : Int) < (lb : Int) then (1300 : Int) else (lb : Int)).toNat = nb at *
  generalize hy : (if (700 : Int) < (ll : Int) then (700 : Int) else (ll : Int)).toNat = nl at *
  generalize (if (1300 : Int) < (lb : Int) then (1300 : Int) else (lb : Int)) = zb at *
  generalize (if (700 : Int) < (ll : Int) then (700 : Int) else (ll : Int)) = zl at *
  clear hx hy
  have PB0 := hid (HB.out.pre nb hnb.1)
  have PL0 := hid (HL.out.pre nl hnl.1)
  have HO : Hid (Oct (bs.take nb)) := fun x hx => ho x (List.mem_of_mem_take hx)
  have HW : Hid (∀ x ∈ l.take nl, (Lit.int .i64 x).wf = true) := fun x hx => hwf x (List.mem_of_mem_take hx)
  generalize bs.take nb = bs' at *
  generalize l.take nl = l' at *
  clear HB HL ho hwf
  have B0 := hid (bdrew (Below.refl w.heap.size w) 1)
  rw [World.drew_is_drewN]
  have PB1 := hid (PB0.out.drewN 1)
  have PL1 := hid (PL0.out.drewN 1)
  generalize w.drewN 1 = w1 at *
  have hbl := hid PB1.out.1
  have hll2 := hid PL1.out.1
  go_wp2_with fail
  refine (put_any ab al nb cb nl cl size bs' l' _ PB1.out PL1.out (by omega) (by omega)).mono ?_
  rintro e w2 ⟨v2, rfl, hown2, hb2⟩
  obtain ⟨a2, cap2, rfl, hl2, _⟩ := owns_lies hown2
  have X2 := hid hl2
  have PB2 := hid (PB1.out.below hb2)
  have PL2 := hid (PL1.out.below hb2)
  have B2 := hid (bthen B0.out hb2)
  clear hown2 hb2 hl2 PB1 PL1 B0
  generalize hNL : (putL size bs' l').length = NL at *
  have HNL := hid hNL
  clear hNL
  go_wp2_with fail
  refine (refPut_any ab al nb cb nl cl size bs' l' _ PB2.out PL2.out HW.out (by omega) (by omega)).mono ?_
  rintro e w3 ⟨v3, rfl, hown3, hb3⟩
  obtain ⟨a3, cap3, rfl, hl3, _⟩ := owns_lies hown3
  rw [HNL.out] at hl3 ⊢
  have X3 := hid (X2.out.below hb3)
  have Y3 := hid hl3
  have PB3 := hid (PB2.out.below hb3)
  have PL3 := hid (PL2.out.below hb3)
  have B3 := hid (bthen B2.out hb3)
  clear hown3 hb3 hl3 PB2 PL2 B2 X2
  generalize hEE : putE size bs'.length l' = er at *
  have HEE := hid hEE
  clear hEE
  have hee : (er != er) = false := by simp
  go_wp2_with fail
  refine (refSize_any _ _).mono ?_
  rintro e w3 ⟨rfl, rfl⟩
  cases hz : sizeB size
  · have hf : fitsB size l' = false := by simp [fitsB, hz]
    have h1 : er = 1 := by rw [← HEE.out]; exact putE_no hf
    have hf2 := hid hf
    have HZ := hid hz
    clear hf hz
    subst h1
    by_cases h0 : 0 < nl
    all_goals
      go_wp2
      refine wp_loop_rounds 1 ?_
      rw [rounds_succ]
      go_wp2_with (first | (go_at_call 9; refine (refSize_any _ _).mono ?_; rintro e w3 ⟨rfl, rfl⟩; rw [HZ.out]) | (go_at_call 11; refine (same_any _ _ _ _ _ _ _ _ _ X3.out Y3.out).mono ?_; rintro e w4 ⟨rfl, q, rfl⟩; rw [beq_self_eq_true]) | (go_at_call 12; refine (fits_any _ _ _ _ _ _ (PL3.out.drewN q)).mono ?_; rintro e w4 ⟨rfl, rfl⟩; rw [hf2.out]) | (go_at_call 13; refine (known_any _).mono ?_; rintro e w5 ⟨rfl, hb5⟩))
      go_ret
      exact ⟨rfl, bthen (bdrew B3.out q) hb5⟩
  · have HZ := hid hz
    have HF : Hid (fitsB size l' = l'.all (okB size)) := by simp only [Hid, fitsB, hz]; rfl
    clear hz
    go_wp2
    go_loopw [11, 12] (fun v i wr => ∃ k : Nat, k ≤ nl ∧ i = .int .i64 k ∧ (∃ o : Bool, v = .bool o ∧ Hid (o = (l'.take k).all (okB size))) ∧ Below w3.heap.size w3 wr) (fun _ i _ => nl - (intOf i).toNat)
    case atStart => exact ⟨0, Nat.zero_le _, rfl, ⟨true, rfl, rfl⟩, Below.refl _ _⟩
    case round =>
      obtain ⟨k, hk, rfl, ⟨o, rfl, Ho⟩, hbr⟩ := hrel
      by_cases hlt : k < nl
      · obtain ⟨b, off, rfl, hcell0⟩ := PL3.out.2.2.2.2 k hlt
        have hcell : wr.cell? ⟨b, off + k, none⟩ = _ := (hbr.cell (p := ⟨b, off + k, none⟩) (World.block_lt_of_cell? w3 _ hcell0)).trans hcell0
        clear hcell0
        have hkl : k < l'.length := by rw [hll2.out]; exact hlt
        have hwx := hid (HW.out (l'.getD k 0) (by simp [hkl]))
        have HT := hid (all_take_succ l' k hkl (okB size))
        generalize l'.getD k 0 = x at *
        clear hkl
        have hlt' : (k : Int) < (nl : Int) := by omega
        go_wp2_with (go_at_call 9; refine (refSize_any _ _).mono ?_; rintro e wr ⟨rfl, rfl⟩; rw [HZ.out])
        refine (digits_any size x _ HZ.out hwx.out).mono ?_
        rintro e w4 ⟨a4, k4, c4, rfl, hb4, hl4⟩
        have hb4' := bthen hbr hb4
        clear hl4 hb4
        cases o
        all_goals
          go_wp2
          go_roundw
          case rel => exact ⟨k + 1, by omega, by go_num, ⟨_, rfl, by rw [Hid, HT.out, ← Ho.out]; rfl⟩, hb4'⟩
          case measure => simp [intOf]; omega
      · obtain rfl : k = nl := by omega
        have ho : o = fitsB size l' := by rw [HF.out, Ho.out, List.take_of_length_le (by rw [hll2.out]; exact Nat.le_refl _)]
        have X4 := hid (X3.out.below hbr)
        have Y4 := hid (Y3.out.below hbr)
        have PB4 := hid (PB3.out.below hbr)
        have PL4 := hid (PL3.out.below hbr)
        have B4 := hid (bthen B3.out hbr)
        clear Ho X3 Y3 PB3 PL3 B3 hbr
        subst ho
        have hoo : (fitsB size l' != fitsB size l') = false := by simp
        by_cases her : er = 0
        · have hpf := put_facts size bs' l' (by rw [HEE.out, her])
          subst her
          obtain ⟨hf, hPL, hle, hNL⟩ := hpf
          rw [hbl.out, hll2.out] at hle hNL
          have hoct : Hid (Oct (putL size bs' l')) := by rw [Hid, hPL]; exact HO.out.app (bytesOf_oct _ _)
          have HPL := hid hPL
          have HF2 := hid hf
          have hNLe : NL = nb + size.toNat * k := by rw [← HNL.out]; exact hNL
          have HNE := hid hNLe
          have hNb : NL ≤ 1280 := by omega
          have hnbN : nb ≤ NL := by omega
          clear hPL hNL hf hNLe hle
          rw [HF2.out] at hoo ⊢
          go_wp2_with (first | (go_at_call 11; refine (same_any _ _ _ _ _ _ _ _ _ X4.out Y4.out).mono ?_; rintro e w4 ⟨rfl, q, rfl⟩; rw [beq_self_eq_true]) | (go_at_call 12; refine (fits_any _ _ _ _ _ _ (PL4.out.drewN q)).mono ?_; rintro e w4 ⟨rfl, rfl⟩; rw [HF2.out]))
          have X5 := hid (X4.out.drewN q)
          have PB5 := hid (PB4.out.drewN q)
          have PL5 := hid (PL4.out.drewN q)
          have B5 := hid (bdrew B4.out q)
          generalize wr.drewN q = w5 at *
          clear X4 Y4 PB4 PL4 B4
          refine (over_any a2 NL cap2 _ _ X5.out hoct.out (by omega)).mono ?_
          rintro e w6 ⟨c, a6, cap6, rfl, hc6, hb6, hlo6, hhi6⟩
          have C6 := hid hc6
          have PB6 := hid (PB5.out.below hb6)
          have PL6 := hid (PL5.out.below hb6)
          have B6 := hid (bthen B5.out hb6)
          have hcw : w.heap.size ≤ c := by have := B5.out.size; omega
          clear hc6 hb6 hlo6 hhi6 X5 PB5 PL5 B5
          generalize putL size bs' l' = L at *
          go_wp2_with fail
          refine (bytes_any _ c a6 NL cap6 0 L 0 nb C6.out).mono ?_
          rintro e w7 ⟨v7, rfl, hown7, hc7, hg7⟩
          obtain ⟨r1, r2⟩ := rd_ok 1 nb (NL - 0) (by decide) (by omega) (by rw [Nat.sub_zero]; omega)
          rw [r2] at hown7 hc7
          rw [r1] at hc7
          rw [show ((1 : Int) * (nb : Int)).toNat = nb by omega] at hown7 hc7
          rw [Nat.zero_add] at hc7
          have hb' : (L.drop 0).take nb = bs' := by rw [HPL.out, List.drop_zero, List.take_left' hbl.out]
          rw [hb'] at hown7
          have hown7' : w7.ownsRow w6.heap.size 5 1 v7 bs'.length (u8s bs') := by rw [hbl.out]; exact hown7
          obtain ⟨a7, cap7, rfl, hl7, _⟩ := owns_lies hown7'
          rw [hbl.out] at hl7 ⊢
          have S7 := hid hl7
          have C7 := hid hc7
          have B7 := hid (bgrown B6.out hg7 hcw)
          have PB7 := hid (PB0.out.below B7.out)
          clear hown7 hown7' hc7 hg7 hl7 r1 r2 hb' PB6 PL6 B6 C6
          go_wp2_with fail
          refine (same_any _ _ _ _ _ _ _ _ _ S7.out PB7.out).mono ?_
          rintro e w8 ⟨rfl, q8, rfl⟩
          rw [beq_self_eq_true]
          have C8 := hid (C7.out.drewN q8)
          have B8 := hid (bdrew B7.out q8)
          generalize w7.drewN q8 = w8 at *
          clear C7 B7 PB7 S7
          go_wp2_with fail
          have hsz : (size.toNat : Int) = size := by rcases sizeB_cases HZ.out with rfl | rfl | rfl <;> rfl
          have hsk : size * (k : Int) = ((size.toNat * k : Nat) : Int) := by rw [Int.natCast_mul, hsz]
          obtain ⟨r1, r2⟩ := rd_ok size k (NL - nb) HZ.out (by omega) (by have := HNE.out; rw [hsk]; omega)
          have hML : manyL size k L nb NL 0 = l' := by
            rw [manyL, if_pos r1, HPL.out, List.drop_left' hbl.out, Int.toNat_natCast, ← hll2.out]
            exact nums_back size l' HF2.out
          have hwk : (Lit.int .i64 (k : Int)).wf = true := by
            have : (k : Int) ≤ 700 := hnl.2
            simp [Lit.wf, IntKind.min, IntKind.max, IntKind.bits, IntKind.signed]; omega
          refine (many_any _ c a6 NL cap6 nb L 0 size k C8.out hwk).mono ?_
          rintro e w9 ⟨v9, rfl, hown9, hc9, hg9⟩
          rw [hML] at hown9
          rw [r1, r2] at hc9
          rw [show nb + (size * (k : Int)).toNat = NL by have := HNE.out; rw [hsk]; omega] at hc9
          obtain ⟨a9, cap9, rfl, hl9⟩ := owns_liesk (kd := .i64) (e := 3) (l := l') hown9
          rw [hll2.out] at hl9 ⊢
          have M9 := hid hl9
          have C9 := hid hc9
          have B9 := hid (bgrown B8.out hg9 hcw)
          clear hown9 hc9 hg9 hl9 r1 r2 hML hwk hsk hsz C8 B8
          go_wp2_with fail
          refine (close_any _ c a6 NL cap6 NL L 0 C9.out).mono ?_
          rintro e w10 ⟨rfl, q10, rfl⟩
          rw [show closeV (NL - NL) 0 = 0 by rw [Nat.sub_self]; rfl]
          have M10 := hid (M9.out.drewN q10)
          have B10 := hid (bdrew B9.out q10)
          generalize w9.drewN q10 = w10 at *
          have PL10 := hid (PL0.out.below B10.out)
          clear M9 B9 C9
          go_wp2_with fail
          go_loopw [17] (fun i wr => ∃ j : Nat, j ≤ k ∧ i = .int .i64 j ∧ ∃ q, wr = w10.drewN q) (fun i _ => k - (intOf i).toNat)
          case atStart => exact ⟨0, Nat.zero_le _, rfl, 0, rfl⟩
          case round =>
            obtain ⟨j, hj, rfl, q, rfl⟩ := hrel
            by_cases hjk : j < k
            · obtain ⟨b1, off1, rfl, hc1⟩ := M10.out.2.2.2.2 j hjk
              obtain ⟨b2, off2, rfl, hc2⟩ := PL10.out.2.2.2.2 j hjk
              generalize l'.getD j 0 = x at *
              have hxx : (x != x) = false := by simp
              have hjk' : (j : Int) < (k : Int) := by omega
              go_wp2
              go_quiet (fail)
              go_wp2
              go_roundw
              case rel => exact ⟨j + 1, by omega, by go_num, q + nq, by first | rfl | exact World.drewN_drewN ..⟩
              case measure => simp [intOf]; omega
            · go_wp2_with (go_at_call 13; refine (known_any _).mono ?_; rintro e w11 ⟨rfl, hb11⟩)
              go_ret
              exact ⟨rfl, bthen (bdrew B10.out q) hb11⟩
        · have her' : (er != 0) = true := by rw [bne_iff_ne]; exact her
          go_wp2_with (first | (go_at_call 11; refine (same_any _ _ _ _ _ _ _ _ _ X4.out Y4.out).mono ?_; rintro e w4 ⟨rfl, q, rfl⟩; rw [beq_self_eq_true]) | (go_at_call 12; refine (fits_any _ _ _ _ _ _ (PL4.out.drewN q)).mono ?_; rintro e w4 ⟨rfl, rfl⟩) | (go_at_call 13; refine (known_any _).mono ?_; rintro e w5 ⟨rfl, hb5⟩))
          go_ret
          exact ⟨rfl, bthen (bdrew B4.out q) hb5⟩

theorem puts_walk (ab : Option Addr) (lb cb : Nat) (bs : List Int) (size : Int) (al : Option Addr) (ll cl : Nat) (l : List Int) (w : World) (hb : IsRow .u8 w ab lb cb bs) (w0 : (Lit.int .i64 size).wf = true) (hl : IsRow .i64 w al ll cl l) :
    Calls Try.prog 3 #[.slice ab lb cb, .int .i64 size, .slice al ll cl] w fun e w' => e = .returned (.bool true) ∧ Below w.heap.size w w' :=
  puts_walk0 size ab al lb cb ll cl _ _ w hb.lies hl.lies (fun x hx => wf_u8 (hb.wf x (List.mem_of_mem_take hx))) (fun x hx => hl.wf x (List.mem_of_mem_take hx))
end Go.Proofs.Ytlfblldaiinghaa
