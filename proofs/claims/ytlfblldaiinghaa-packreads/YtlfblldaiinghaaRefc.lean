/- What the document's own cursor answers: contracts. -/
import Derived.Test.YtlfblldaiinghaaDigits
namespace Go.Proofs.Ytlfblldaiinghaa
open Go.ChangeShapes Go.WideShapes Go.ChangeAt Go.RowKit
set_option linter.unusedVariables false
set_option linter.unusedSimpArgs false

/-- The document's cursor in memory: the bytes that are left, how many were read, what was wrong. -/
structure RefAt (w : World) (d : Nat) (a : Option Addr) (len cap : Nat) (l : List Int) (at_ : Nat) (er : Int) : Prop where
  block : w.heap[d]? = some (.cells #[.slice a len cap, .int .i64 at_, .int .i64 er] 44 (0, 0))
  lies : Lies .u8 w a len cap l
  oct : Oct l
  small : len ≤ 100000
  at_small : at_ + len ≤ 100000

section
variable {w : World} {d : Nat} {a : Option Addr} {len cap : Nat} {l : List Int} {at_ : Nat} {er : Int}
theorem RefAt.cell0 (h : RefAt w d a len cap l at_ er) : w.cell? ⟨d, 0, none⟩ = some (.slice a len cap) := by rw [cell_of_row w d 0 _ _ _ h.block]; rfl
theorem RefAt.cell1 (h : RefAt w d a len cap l at_ er) : w.cell? ⟨d, 1, none⟩ = some (.int .i64 at_) := by rw [cell_of_row w d 1 _ _ _ h.block]; rfl
theorem RefAt.cell2 (h : RefAt w d a len cap l at_ er) : w.cell? ⟨d, 2, none⟩ = some (.int .i64 er) := by rw [cell_of_row w d 2 _ _ _ h.block]; rfl
theorem RefAt.soft (h : RefAt w d a len cap l at_ er) : ∀ j, w.frozen? ⟨d, j, none⟩ = false := by intro j; simp [World.frozen?, h.block]
theorem RefAt.noU8 (h : RefAt w d a len cap l at_ er) : NoU8 w d := noU8_of h.block
theorem RefAt.lt (h : RefAt w d a len cap l at_ er) : d < w.heap.size := (Array.getElem?_eq_some_iff.1 h.block).1
theorem RefAt.drewN (h : RefAt w d a len cap l at_ er) (q : Nat) : RefAt (w.drewN q) d a len cap l at_ er := ⟨h.block, h.lies, h.oct, h.small, h.at_small⟩
theorem RefAt.below {w' : World} (h : RefAt w d a len cap l at_ er) (hb : Below w.heap.size w w') : RefAt w' d a len cap l at_ er :=
  ⟨(hb.block d h.lt).trans h.block, h.lies.below hb, h.oct, h.small, h.at_small⟩
theorem RefAt.grown {w' : World} {c : Nat} (h : RefAt w d a len cap l at_ er) (hn : NoU8 w c) (hcd : d ≠ c) (hg : w.grownBy w' (some c)) : RefAt w' d a len cap l at_ er :=
  ⟨(hg.block d h.lt (fun e => hcd (Option.some.inj e))).trans h.block, h.lies.grown hn hg, h.oct, h.small, h.at_small⟩
theorem RefAt.setEr (h : RefAt w d a len cap l at_ er) (n : Int) : RefAt (w.setCell ⟨d, 2, none⟩ (.int .i64 n)) d a len cap l at_ n :=
  ⟨by rw [heap_setCell_same w d 2 _ _ _ h.block]; rfl, h.lies.grown h.noU8 (grownBy_setCell ..), h.oct, h.small, h.at_small⟩
theorem RefAt.pass (h : RefAt w d a len cap l at_ er) (m cap2 : Nat) (a2 : Option Addr) (hm : m ≤ len) (hl : Lies .u8 w a2 (len - m) cap2 (l.drop m)) :
    RefAt ((w.setCell ⟨d, 0, none⟩ (.slice a2 (len - m) cap2)).setCell ⟨d, 1, none⟩ (.int .i64 (at_ + m : Nat))) d a2 (len - m) cap2 (l.drop m) (at_ + m) er := by
  have h1 := heap_setCell_same w d 0 _ _ (.slice a2 (len - m) cap2) h.block
  have h2 := heap_setCell_same (w.setCell ⟨d, 0, none⟩ (.slice a2 (len - m) cap2)) d 1 _ _ (.int .i64 (at_ + m : Nat)) h1
  have hn1 : NoU8 (w.setCell ⟨d, 0, none⟩ (.slice a2 (len - m) cap2)) d := noU8_of (x := at_) (y := er) (by rw [h1]; rfl)
  refine ⟨by rw [h2]; rfl, ?_, fun x hx => h.oct x (List.mem_of_mem_drop hx), by have := h.small; omega, by have := h.at_small; omega⟩
  exact (hl.grown h.noU8 (grownBy_setCell ..)).grown hn1 (grownBy_setCell ..)
end

/-- What the document's reading leaves. -/
def RefOk (w : World) (d : Nat) (a : Option Addr) (len at_ : Nat) (l : List Int) (m : Nat) (er' : Int) (w' : World) : Prop :=
  ∃ a2 cap2, RefAt w' d a2 (len - m) cap2 (l.drop m) (at_ + m) er' ∧ w.grownBy w' (some d) ∧ w'.heap.size = w.heap.size ∧ ∀ x, a2 = some x → ∃ y, a = some y ∧ x.block = y.block

theorem add_block (x : Addr) (n : Nat) : (x.add n).block = x.block := by unfold Addr.add; split <;> rfl

theorem refOk_no {w w' : World} {d : Nat} {a : Option Addr} {len cap : Nat} {l : List Int} {at_ : Nat} {er : Int} (h : RefAt w' d a len cap l at_ er) (hg : w.grownBy w' (some d)) (hs : w'.heap.size = w.heap.size) : RefOk w d a len at_ l 0 er w' := ⟨a, cap, by simpa using h, hg, hs, fun x hx => ⟨x, hx, rfl⟩⟩

theorem rdE_bytes (n : Int) (len : Nat) : rdE 1 n len 0 = if n < 0 then 1 else if (len : Int) < n then 4 else 0 := by
  have : sizeB 1 = true := rfl
  simp [rdE, this]

theorem refBytes_was (w : World) (d : Nat) (a : Option Addr) (len cap : Nat) (l : List Int) (at_ : Nat) (er n : Int) (h : RefAt w d a len cap l at_ er) (her : er ≠ 0) :
    Calls Try.prog 21 #[.pointer (some ⟨d, 0, none⟩), .int .i64 n] w fun e w' => e = .returned (.slice none 0 0) ∧ w' = w := by
  have h2 := h.cell2
  have h' : (er == 0) = false := by simp [her]
  have h'' : (er != 0) = true := by rw [bne_iff_ne]; exact her
  clear h
  go_enter Try.func21, Try.ntmps21
  go_wp2
  go_ret
  exact ⟨rfl, rfl⟩

theorem refBytes_neg (w : World) (d : Nat) (a : Option Addr) (len cap : Nat) (l : List Int) (at_ : Nat) (n : Int) (h : RefAt w d a len cap l at_ 0) (hn : n < 0) :
    Calls Try.prog 21 #[.pointer (some ⟨d, 0, none⟩), .int .i64 n] w fun e w' => e = .returned (.slice none 0 0) ∧ w' = w.setCell ⟨d, 2, none⟩ (.int .i64 1) := by
  have h2 := h.cell2
  have hsf := h.soft 2
  clear h
  go_enter Try.func21, Try.ntmps21
  go_wp2
  go_ret
  exact ⟨rfl, rfl⟩

theorem refBytes_end (w : World) (d : Nat) (a : Option Addr) (len cap : Nat) (l : List Int) (at_ : Nat) (n : Int) (h : RefAt w d a len cap l at_ 0) (hn : 0 ≤ n) (hlt : (len : Int) < n) :
    Calls Try.prog 21 #[.pointer (some ⟨d, 0, none⟩), .int .i64 n] w fun e w' => e = .returned (.slice none 0 0) ∧ w' = w.setCell ⟨d, 2, none⟩ (.int .i64 4) := by
  have h2 := h.cell2
  have h0 := h.cell0
  have hsf := h.soft 2
  have hn' : decide (n < 0) = false := by simp; omega
  clear h
  go_enter Try.func21, Try.ntmps21
  go_wp2
  go_ret
  exact ⟨rfl, rfl⟩

theorem refBytes_ok (w : World) (d : Nat) (a : Option Addr) (len cap : Nat) (l : List Int) (at_ n : Nat) (h : RefAt w d a len cap l at_ 0) (hn : n ≤ len) :
    Calls Try.prog 21 #[.pointer (some ⟨d, 0, none⟩), .int .i64 n] w fun e w' => e = .returned (.slice a n cap) ∧ RefOk w d a len at_ l n 0 w' := by
  have h2 := h.cell2
  have h1 := h.cell1
  have h0 := h.cell0
  have hs0 := h.soft 0
  have hs1 := h.soft 1
  have hlc := h.lies.2.1
  have hsm := h.at_small
  have hcm := h.lies.2.2.1
  unfold maxLen at hcm
  have hn' : decide ((n : Int) < 0) = false := by simp
  have hn2 : decide ((len : Int) < (n : Int)) = false := by simp; omega
  have H := hid h
  clear h
  have HR : ∀ a', (¬ cap = n → a' = a.map (·.add n)) → (cap = n → a' = a) → Hid (RefOk w d a len at_ l n 0 ((w.setCell ⟨d, 0, none⟩ (.slice a' (len - n) (cap - n))).setCell ⟨d, 1, none⟩ (.int .i64 ((at_ : Int) + n)))) := by
    intro a' h1 h2
    have hl := H.out.lies.cut n (len - n) cap (by omega) (by omega) (Nat.le_refl _) (a' := a') h1 h2
    rw [List.take_of_length_le (by rw [List.length_drop, H.out.lies.1]; omega)] at hl
    have hp := H.out.pass n (cap - n) a' hn hl
    rw [Int.natCast_add] at hp
    refine ⟨a', cap - n, hp, (grownBy_setCell ..).trans (grownBy_setCell ..), by simp, fun x hx => ?_⟩
    by_cases hcn : cap = n
    · exact ⟨x, (h2 hcn).symm.trans hx, rfl⟩
    · rw [h1 hcn] at hx
      cases a with
      | none => simp at hx
      | some y => exact ⟨y, rfl, by simp at hx; rw [← hx, add_block]⟩
  by_cases hcn : cap = n
  · have HR1 := HR a (fun h => absurd hcn h) (fun _ => rfl)
    subst hcn
    clear HR
    rw [Nat.sub_self, show len - cap = 0 by omega] at HR1
    go_enter Try.func21, Try.ntmps21
    go_wp2
    go_ret
    exact ⟨rfl, HR1.out⟩
  · have HR1 := HR (a.map (·.add n)) (fun _ => rfl) (fun h => absurd h hcn)
    clear HR
    go_enter Try.func21, Try.ntmps21
    go_wp2
    go_ret
    exact ⟨rfl, HR1.out⟩

theorem refBytes_any (w : World) (d : Nat) (a : Option Addr) (len cap : Nat) (l : List Int) (at_ : Nat) (er n : Int) (h : RefAt w d a len cap l at_ er) :
    Calls Try.prog 21 #[.pointer (some ⟨d, 0, none⟩), .int .i64 n] w fun e w' => ∃ a1 c1, e = .returned (.slice a1 (rdN 1 n len er) c1) ∧ Lies .u8 w' a1 (rdN 1 n len er) c1 (l.take (rdN 1 n len er)) ∧ RefOk w d a len at_ l (rdN 1 n len er) (rdE 1 n len er) w' := by
  by_cases her : er = 0
  · subst her
    by_cases hn : n < 0
    · have hE : rdE 1 n len 0 = 1 := by rw [rdE_bytes, if_pos hn]
      have hN : rdN 1 n len 0 = 0 := by rw [rdN, hE]; rfl
      rw [hE, hN]
      refine (refBytes_neg w d a len cap l at_ n h hn).mono ?_
      rintro e w' ⟨rfl, rfl⟩
      exact ⟨none, 0, rfl, Lies.nil _ _, refOk_no (h.setEr 1) (grownBy_setCell ..) (by simp)⟩
    · by_cases hlt : (len : Int) < n
      · have hE : rdE 1 n len 0 = 4 := by rw [rdE_bytes, if_neg hn, if_pos hlt]
        have hN : rdN 1 n len 0 = 0 := by rw [rdN, hE]; rfl
        rw [hE, hN]
        refine (refBytes_end w d a len cap l at_ n h (by omega) hlt).mono ?_
        rintro e w' ⟨rfl, rfl⟩
        exact ⟨none, 0, rfl, Lies.nil _ _, refOk_no (h.setEr 4) (grownBy_setCell ..) (by simp)⟩
      · have hE : rdE 1 n len 0 = 0 := by rw [rdE_bytes, if_neg hn, if_neg hlt]
        obtain ⟨m, rfl⟩ := Int.eq_ofNat_of_zero_le (show 0 ≤ n by omega)
        have hN : rdN 1 m len 0 = m := by rw [rdN, if_pos hE]; omega
        rw [hE, hN]
        refine (refBytes_ok w d a len cap l at_ m h (by omega)).mono ?_
        rintro e w' ⟨rfl, a2, cap2, hr, hg, hs, hk⟩
        exact ⟨a, cap, rfl, (h.lies.pre m (by omega)).grown h.noU8 hg, a2, cap2, hr, hg, hs, hk⟩
  · have hE : rdE 1 n len er = er := by simp [rdE, her]
    have hN : rdN 1 n len er = 0 := by rw [rdN, hE, if_neg her]
    rw [hE, hN]
    refine (refBytes_was w d a len cap l at_ er n h her).mono ?_
    rintro e w' ⟨rfl, rfl⟩
    exact ⟨none, 0, rfl, Lies.nil _ _, refOk_no h (World.grownBy.refl _ _) rfl⟩

theorem refClose_any (w : World) (d : Nat) (a : Option Addr) (len cap : Nat) (l : List Int) (at_ : Nat) (er : Int) (h : RefAt w d a len cap l at_ er) :
    Calls Try.prog 28 #[.pointer (some ⟨d, 0, none⟩)] w fun e w' => e = .returned (.int .i64 (closeV len er)) ∧ w' = w := by
  have h0 := h.cell0
  have h2 := h.cell2
  clear h
  by_cases her : er = 0
  · subst her
    by_cases hl : 0 < len
    · have HV : Hid (closeV len 0 = 3) := by simp [Hid, closeV, hl]
      go_enter Try.func28, Try.ntmps28
      go_wp2
      go_ret
      exact ⟨ret_int HV.out.symm, rfl⟩
    · have HV : Hid (closeV len 0 = 0) := by simp [Hid, closeV, hl]
      obtain rfl : len = 0 := by omega
      go_enter Try.func28, Try.ntmps28
      go_wp2
      go_ret
      exact ⟨ret_int HV.out.symm, rfl⟩
  · have HV : Hid (closeV len er = er) := by simp [Hid, closeV, her]
    have h' : (er == 0) = false := by simp [her]
    go_enter Try.func28, Try.ntmps28
    go_wp2
    go_ret
    exact ⟨ret_int HV.out.symm, rfl⟩

theorem rd_take (size : Int) (len : Nat) (hz : sizeB size = true) (er : Int) : rdE 1 size len er = rdE size 1 len er ∧ rdN 1 size len er = rdN size 1 len er := by
  have h1 : sizeB 1 = true := rfl
  have hE : rdE 1 size len er = rdE size 1 len er := by
    unfold rdE
    rw [h1, hz]
    rcases sizeB_cases hz with rfl | rfl | rfl <;> simp
  exact ⟨hE, by unfold rdN; rw [hE, Int.one_mul, Int.mul_one]⟩

set_option maxHeartbeats 800000 in
theorem refTake_size (w : World) (d : Nat) (a : Option Addr) (len cap : Nat) (l : List Int) (at_ : Nat) (er size : Int) (h : RefAt w d a len cap l at_ er) (hz : sizeB size = true) :
    Calls Try.prog 19 #[.pointer (some ⟨d, 0, none⟩), .int .i64 size] w fun e w' => e = .returned (.int .i64 (numOf (l.take (rdN size 1 len er)))) ∧ RefOk w d a len at_ l (rdN size 1 len er) (rdE size 1 len er) w' := by
  have h2 := h.cell2
  have H := hid h
  have HZ := hid hz
  have hm4 := rdN_one size len er
  have HO : Hid (Oct (l.take (rdN size 1 len er))) := fun x hx => h.oct x (List.mem_of_mem_take hx)
  obtain ⟨r1, r2⟩ := rd_take size len hz er
  have R1 := hid r1
  have R2 := hid r2
  clear h hz r1 r2
  cases her' : (er == 0)
  all_goals
    go_enter Try.func19, Try.ntmps19
    go_wp2_with (go_at_call 9; refine (refSize_any _ _).mono ?_; rintro e w ⟨rfl, rfl⟩; rw [HZ.out])
    refine (refBytes_any _ d a len cap l at_ er size H.out).mono ?_
    rintro e w1 ⟨a1, c1, rfl, hl1, hr1⟩
    rw [R2.out] at hl1 hr1 ⊢
    rw [R1.out] at hr1
    have L1 := hid hl1
    have RF := hid hr1
    have hlc := hl1.2.1
    have hcm := hl1.2.2.1
    have hln := hid hl1.1
    unfold maxLen at hcm
    generalize hX : l.take (rdN size 1 len er) = X at *
    have HX := hid hX
    generalize hM : rdN size 1 len er = m at *
    have HM := hid hM
    clear hl1 hr1 hX hM
    go_wp2
    go_loop [6, 7] (fun v i => ∃ k : Nat, k ≤ m ∧ i = .int .i64 k ∧ v = .int .i64 (numOf (X.take k))) (fun _ i => m - (intOf i).toNat)
    case atStart => exact ⟨0, Nat.zero_le _, rfl, rfl⟩
    case round =>
      obtain ⟨k, hk, rfl, rfl⟩ := hrel
      by_cases hlt : k < m
      · obtain ⟨b, off, rfl, hcell⟩ := L1.out.2.2.2.2 k hlt
        have hx := HO.out.at k (by rw [hln.out]; exact hlt)
        have hn := numOf_bd X HO.out k (by rw [hln.out]; omega)
        have hp := pow_le3 k (by omega)
        have HS := hid (numOf_snoc X k (by rw [hln.out]; exact hlt))
        generalize (256 : Int) ^ k = P at *
        generalize numOf (X.take k) = n at *
        generalize X.getD k 0 = x at *
        have hn' : n < 16777216 := by omega
        clear hp
        go_wp2
        go_round
        case rel => exact ⟨k + 1, by omega, by go_num, by rw [HS.out]⟩
        case measure => simp [intOf]; omega
      · obtain rfl : k = m := by omega
        go_wp2
        go_ret
        rw [HM.out, HX.out]
        exact ⟨ret_int (by rw [List.take_of_length_le (by rw [hln.out]; omega)]), RF.out⟩

set_option maxHeartbeats 800000 in
theorem refTake_bad (w : World) (d : Nat) (a : Option Addr) (len cap : Nat) (l : List Int) (at_ : Nat) (er size : Int) (h : RefAt w d a len cap l at_ er) (hz : sizeB size = false) :
    Calls Try.prog 19 #[.pointer (some ⟨d, 0, none⟩), .int .i64 size] w fun e w' => e = .returned (.int .i64 (numOf (l.take (rdN size 1 len er)))) ∧ RefOk w d a len at_ l (rdN size 1 len er) (rdE size 1 len er) w' := by
  have h2 := h.cell2
  have hsf := h.soft 2
  have H := hid h
  have HZ := hid hz
  clear h
  by_cases her : er = 0
  · subst her
    have hE : rdE size 1 len 0 = 1 := by simp [rdE, hz]
    have hN : rdN size 1 len 0 = 0 := by rw [rdN, hE]; rfl
    rw [hE, hN]
    clear hE hN hz
    go_enter Try.func19, Try.ntmps19
    go_wp2_with (go_at_call 9; refine (refSize_any _ _).mono ?_; rintro e w ⟨rfl, rfl⟩; rw [HZ.out])
    refine (refBytes_was _ d a len cap l at_ 1 size (H.out.setEr 1) (by omega)).mono ?_
    rintro e w1 ⟨rfl, rfl⟩
    go_wp2
    refine wp_loop_rounds 1 ?_
    rw [rounds_succ]
    go_wp2
    go_ret
    exact ⟨rfl, refOk_no (H.out.setEr 1) (grownBy_setCell ..) (by simp)⟩
  · have her' : (er == 0) = false := by simp [her]
    have hE : rdE size 1 len er = er := by simp [rdE, her]
    have hN : rdN size 1 len er = 0 := by rw [rdN, hE, if_neg her]
    rw [hE, hN]
    clear hE hN hz
    go_enter Try.func19, Try.ntmps19
    go_wp2_with (go_at_call 21; refine (refBytes_was _ d a len cap l at_ er size H.out her).mono ?_; rintro e w ⟨rfl, rfl⟩)
    refine wp_loop_rounds 1 ?_
    rw [rounds_succ]
    go_wp2
    go_ret
    exact ⟨rfl, refOk_no H.out (World.grownBy.refl _ _) rfl⟩

theorem refTake_any (w : World) (d : Nat) (a : Option Addr) (len cap : Nat) (l : List Int) (at_ : Nat) (er size : Int) (h : RefAt w d a len cap l at_ er) :
    Calls Try.prog 19 #[.pointer (some ⟨d, 0, none⟩), .int .i64 size] w fun e w' => e = .returned (.int .i64 (numOf (l.take (rdN size 1 len er)))) ∧ RefOk w d a len at_ l (rdN size 1 len er) (rdE size 1 len er) w' := by
  cases hz : sizeB size
  · exact refTake_bad w d a len cap l at_ er size h hz
  · exact refTake_size w d a len cap l at_ er size h hz
end Go.Proofs.Ytlfblldaiinghaa
