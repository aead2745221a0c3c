/- The walk of PackJoins. -/
import Derived.Test.YtlfblldaiinghaaAny
namespace Go.Proofs.Ytlfblldaiinghaa
open Go.ChangeShapes Go.WideShapes Go.ChangeAt Go.RowKit
set_option linter.unusedVariables false
set_option linter.unusedSimpArgs false

theorem cut_len (n : Nat) (k : Int) (hk : 0 ≤ k) : (if k < (n : Int) then k else (n : Int)).toNat ≤ n ∧ ((if k < (n : Int) then k else (n : Int)).toNat : Int) ≤ k := by split <;> omega

theorem joins_errs (size : Int) (l m : List Int) (hl : l.length ≤ 100) (hm : m.length ≤ 100) :
    (putE size 0 l = 0 ∧ putE size (putL size [] l).length m = 0 → putE size 0 (l ++ m) = 0 ∧ putL size (putL size [] l) m = putL size [] (l ++ m)) ∧
    (putE size 0 l ≠ 0 ∨ putE size (putL size [] l).length m ≠ 0 → putE size 0 (l ++ m) = 1) := by
  have key : ∀ k : Nat, k ≤ 400 → ∀ x : List Int, x.length ≤ 200 → putE size k x = if fitsB size x = true then 0 else 1 := by
    intro k hk x hx
    unfold putE
    cases hf : fitsB size x
    · simp
    · have := size_le hf
      have : size.toNat * x.length ≤ 4 * 200 := Nat.mul_le_mul this hx
      rw [if_pos rfl, if_pos rfl, if_neg (by omega)]
  have hL : (putL size [] l).length ≤ 400 := by
    unfold putL
    split
    · rename_i h
      have hf : fitsB size l = true := by rw [List.length_nil, key 0 (by omega) l (by omega)] at h; cases hf : fitsB size l <;> simp_all
      have hz : sizeB size = true := by simp [fitsB] at hf; exact hf.1
      rw [List.nil_append, bytesOf_length size l hz]
      exact Nat.mul_le_mul (size_le hf) hl
    · simp
  rw [key 0 (by omega) l (by omega), key _ hL m (by omega), key 0 (by omega) (l ++ m) (by simp; omega), fitsB_append]
  constructor
  · rintro ⟨h1, h2⟩
    have hf1 : fitsB size l = true := by cases h : fitsB size l <;> simp_all
    have hf2 : fitsB size m = true := by cases h : fitsB size m <;> simp_all
    refine ⟨by simp [hf1, hf2], ?_⟩
    have e1 : putL size [] l = bytesOf size l := by unfold putL; rw [List.length_nil, key 0 (by omega) l (by omega), hf1]; simp
    have e3 : putL size [] (l ++ m) = bytesOf size (l ++ m) := by unfold putL; rw [List.length_nil, key 0 (by omega) _ (by simp; omega), fitsB_append, hf1, hf2]; simp
    rw [e1] at hL
    rw [e3, e1]
    unfold putL
    rw [key _ hL m (by omega), hf2]
    simp [bytesOf]
  · intro h
    cases hf1 : fitsB size l <;> cases hf2 : fitsB size m <;> simp_all

set_option maxHeartbeats 1000000 in
theorem joins_walk0 (size : Int) (al am : Option Addr) (ll cl lm cm : Nat) (l m : List Int) (w : World) (hl : Lies .i64 w al ll cl l) (hm : Lies .i64 w am lm cm m) :
    Calls Try.prog 6 #[.int .i64 size, .slice al ll cl, .slice am lm cm] w fun e w' => e = .returned (.bool true) ∧ Below w.heap.size w w' := by
  have hcl := hl.2.2.1
  have hcm := hm.2.2.1
  have hll := hl.2.1
  have hlm := hm.2.1
  unfold maxLen at hcl hcm
  have HL := hid hl
  have HM := hid hm
  clear hl hm
  obtain ⟨i0, hi, hz0, hz1, hz2⟩ := info_parts info3
  go_enter Try.func6, Try.ntmps6
  go_wp2
  go_region
  have hcl' := cut_len ll 100 (by omega)
  have hcm' := cut_len lm 100 (by omega)
  generalize hnl : (if (100 : Int) < (ll : Int) then (100 : Int) else (ll : Int)).toNat = nl at *
  generalize hnm : (if (100 : Int) < (lm : Int) then (100 : Int) else (lm : Int)).toNat = nm at *
  generalize (if (100 : Int) < (ll : Int) then (100 : Int) else (ll : Int)) = zl at *
  generalize (if (100 : Int) < (lm : Int) then (100 : Int) else (lm : Int)) = zm at *
  clear hnl hnm
  have L0 := hid (HL.out.pre nl hcl'.1)
  have M0 := hid (HM.out.pre nm hcm'.1)
  have hErr := hid (joins_errs size (l.take nl) (m.take nm) (by simp; omega) (by simp; omega))
  generalize l.take nl = l' at *
  generalize m.take nm = m' at *
  clear HL HM
  have B0 := hid (bdrew (Below.refl w.heap.size w) 1)
  rw [World.drew_is_drewN]
  have L1 := hid (L0.out.drewN 1)
  have M1 := hid (M0.out.drewN 1)
  generalize w.drewN 1 = w1 at *
  clear L0 M0
  go_wp2_with fail
  refine (put_any none al 0 0 nl cl size [] l' _ (Lies.nil _ _) L1.out (by omega) (by omega)).mono ?_
  rintro e w2 ⟨v2, rfl, hown2, hb2⟩
  obtain ⟨a2, cap2, rfl, hl2, _⟩ := owns_lies hown2
  have L2 := hid (L1.out.below hb2)
  have M2 := hid (M1.out.below hb2)
  have A2 := hid hl2
  have B2 := hid (bthen B0.out hb2)
  clear hown2 hb2 hl2 L1 M1 B0
  have hX := putL_le size [] l'
  generalize putL size [] l' = X at *
  go_wp2_with fail
  refine (put_any a2 am _ cap2 nm cm size X m' _ A2.out M2.out (by omega) (by omega)).mono ?_
  rintro e w3 ⟨v3, rfl, hown3, hb3⟩
  obtain ⟨a3, cap3, rfl, hl3, _⟩ := owns_lies hown3
  have L3 := hid (L2.out.below hb3)
  have M3 := hid (M2.out.below hb3)
  have A3 := hid hl3
  have B3 := hid (bthen B2.out hb3)
  clear hown3 hb3 hl3 L2 M2 B2 A2
  have hb4 : Below w3.heap.size w3 (w3.alloc (.cells #[] 3)) := balloc (Below.refl _ _) _
  have L4 := hid (L3.out.below hb4)
  have O4 := hid (World.ownsRow_made (e := 3) (size := 1) (base := w3.heap.size) w3 #[] 0 (Nat.le_refl _) (by decide) (by simp))
  go_wp2_with (at_builtin; refine wpList_append_own_any _ rfl _ _ 23 rfl w3.heap.size 3 i0 (.int .i64 0) 1 8 Try.underlying23 hi hz0 hz1 hz2 rfl (by decide) _ _ _ rfl O4.out al nl cl (i64s l') rfl ?c1 L4.out.isNil L4.out.cells (ints_oneCell8 _ _) ?c2 ?c3 ?c4 ?_)
  case c1 => simp [i64s]; exact L4.out.1
  case c2 => unfold maxLen; omega
  case c3 => omega
  case c4 => simp
  intro v5 w5 hown5 hb5
  have hb5' : Below w3.heap.size w3 w5 := hb4.trans hb5
  have M5 := hid (M3.out.below hb5')
  have O5 := hid hown5
  clear hb5 hown5 hb4 L4 O4
  go_wp2_with (at_builtin; refine wpList_append_own_any _ rfl _ _ 23 rfl w3.heap.size 3 i0 (.int .i64 0) 1 8 Try.underlying23 hi hz0 hz1 hz2 rfl (by decide) _ _ _ rfl O5.out am nm cm (i64s m') rfl ?d1 M5.out.isNil M5.out.cells (ints_oneCell8 _ _) ?d2 ?d3 ?d4 ?_)
  case d1 => simp [i64s]; exact M5.out.1
  case d2 => unfold maxLen; omega
  case d3 => omega
  case d4 => exact hb5'.size
  intro v6 w6 hown6 hb6
  have hb6' : Below w3.heap.size w3 w6 := hb5'.trans hb6
  obtain ⟨a6, cap6, rfl, hl6⟩ := owns_liesk (kd := .i64) (e := 3) (l := l' ++ m') (ownsRow_i64 hown6 rfl (by rw [List.length_append, L3.out.1, M5.out.1]) (by simp [i64s]))
  have A6 := hid (A3.out.below hb6')
  have B6 := hid (bthen B3.out hb6')
  have S6 := hid hl6
  have hlen : (l' ++ m').length ≤ 200 := by rw [List.length_append, L3.out.1, M5.out.1]; omega
  clear hb6 hown6 hb5' hb6' hl6 M5 O5 A3 B3 L3 M3
  generalize (l' ++ m').length = N at *
  generalize (putL size X m').length = N3 at *
  go_wp2_with fail
  refine (put_any none a6 0 0 _ cap6 size [] (l' ++ m') _ (Lies.nil _ _) S6.out (by omega) (by omega)).mono ?_
  rintro e w7 ⟨v7, rfl, hown7, hb7⟩
  obtain ⟨a7, cap7, rfl, hl7, _⟩ := owns_lies hown7
  generalize (putL size [] (l' ++ m')).length = N7 at *
  have A7 := hid (A6.out.below hb7)
  have C7 := hid hl7
  have B7 := hid (bthen B6.out hb7)
  clear hown7 hb7 hl7 A6 B6 S6
  simp only [List.length_nil]
  by_cases hok : putE size 0 l' = 0 ∧ putE size X.length m' = 0
  · obtain ⟨h1, h2⟩ := hErr.out.1 hok
    have H2 := hid h2
    rw [h1, hok.1, hok.2]
    clear h1 h2 hok hErr
    go_wp2_with fail
    refine (known_any _).mono ?_
    rintro e w8 ⟨rfl, hb8⟩
    have A8 := hid (A7.out.below hb8)
    have C8 := hid (C7.out.below hb8)
    have B8 := hid (bthen B7.out hb8)
    clear hb8 A7 C7 B7
    go_wp2_with fail
    refine (same_any _ _ _ _ _ _ _ _ _ A8.out C8.out).mono ?_
    rintro e w9 ⟨rfl, q, rfl⟩
    rw [H2.out, beq_self_eq_true]
    go_wp2_with fail
    go_ret
    exact ⟨rfl, bdrew B8.out q⟩
  · have h1 := hErr.out.2 (by omega)
    rw [h1]
    clear h1 hErr
    by_cases he1 : putE size 0 l' = 0
    · have he2 : (putE size X.length m' != 0) = true := by rw [bne_iff_ne]; exact fun h => hok ⟨he1, h⟩
      rw [he1]
      clear he1 hok
      generalize putE size X.length m' = z at *
      go_wp2_with (go_at_call 13; refine (known_any _).mono ?_; rintro e w8 ⟨rfl, hb8⟩)
      go_ret
      exact ⟨rfl, bthen B7.out hb8⟩
    · have he2 : (putE size 0 l' != 0) = true := by rw [bne_iff_ne]; exact he1
      clear he1 hok
      generalize putE size 0 l' = z at *
      generalize putE size X.length m' = z2 at *
      go_wp2_with (go_at_call 13; refine (known_any _).mono ?_; rintro e w8 ⟨rfl, hb8⟩)
      go_ret
      exact ⟨rfl, bthen B7.out hb8⟩

theorem joins_walk (size : Int) (al : Option Addr) (ll cl : Nat) (l : List Int) (am : Option Addr) (lm cm : Nat) (m : List Int) (w : World) (w0 : (Lit.int .i64 size).wf = true) (hl : IsRow .i64 w al ll cl l) (hm : IsRow .i64 w am lm cm m) :
    Calls Try.prog 6 #[.int .i64 size, .slice al ll cl, .slice am lm cm] w fun e w' => e = .returned (.bool true) ∧ Below w.heap.size w w' :=
  joins_walk0 size al am ll cl lm cm _ _ w hl.lies hm.lies
end Go.Proofs.Ytlfblldaiinghaa
