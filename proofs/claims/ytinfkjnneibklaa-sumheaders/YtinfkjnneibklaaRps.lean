/- What the document's own Pseudo answers: a contract. -/
import Derived.Test.YtinfkjnneibklaaPseu
namespace Go.Proofs.Ytinfkjnneibklaa
open Go.ChangeShapes Go.WideShapes Go.ChangeAt Go.RowKit
set_option linter.unusedVariables false
set_option linter.unusedSimpArgs false

set_option maxHeartbeats 1000000 in
theorem digits4 (n : Int) (w : World) (h0 : 0 ≤ n) (h63 : n ≤ 9223372036854775807) :
    Calls Try.prog 21 #[.int .i64 4, .int .i64 n] w fun e w' => e = .returned (.tuple #[.slice (some ⟨w.heap.size, 0, none⟩) 4 4, .bool (okB 4 n)]) ∧ w' = w.alloc (.cells (u8s (digs 4 n)).toArray 5) := by
  have hmk : ∀ w, (Instr.makeSlice 27 (.int .i64 4) (.int .i64 4)).run Try.prog w = .ok (.slice (some ⟨w.heap.size, 0, none⟩) 4 4) (w.alloc (.cells #[.int .u8 0, .int .u8 0, .int .u8 0, .int .u8 0] 5)) := fun _ => by kernel_rfl
  have hn : decide (n < 0) = false := by simp; omega
  have HD : Hid ((u8s (digs 4 n)).toArray = #[.int .u8 (n / 256 / 256 / 256 % 256), .int .u8 (n / 256 / 256 % 256), .int .u8 (n / 256 % 256), .int .u8 (n % 256)]) := by simp [Hid, u8s, digs]; omega
  have HK : Hid (okB 4 n = (n / 256 / 256 / 256 / 256 == 0)) := by
    rw [Hid, Bool.eq_iff_iff]; simp [okB, top]; omega
  go_enter Try.func21, Try.ntmps21
  go_wp2
  refine wp_loop_rounds 5 ?_
  repeat (rw [rounds_succ]; go_wp2)
  go_ret2
  exact ⟨by rw [HK.out]; rfl, by rw [HD.out]⟩

theorem ownsRow_below {w w' : World} {base : Nat} {e : TypeId} {size : Nat} {v : Value} {n : Nat} {xs : List Value} (h : w.ownsRow base e size v n xs) (hb : Below w.heap.size w w') : w'.ownsRow base e size v n xs := by
  refine ⟨h.1, ?_⟩
  rcases h.2 with hn | ⟨g, cap, cur, rfl, hbb, hgg, rest⟩
  · exact .inl hn
  · exact .inr ⟨g, cap, cur, rfl, hbb, by rw [hb.block g (Array.getElem?_eq_some_iff.1 hgg).1]; exact hgg, rest⟩


/-- The next header, as the document writes it: three bytes 0, then it. -/
theorem digs_next (next : Int) (h : 0 ≤ next ∧ next ≤ 255) : digs 4 next = [0, 0, 0, next] := by
  simp [digs]; omega
theorem hdr_parts (f t : List Int) (next len : Int) (h : 0 ≤ next ∧ next ≤ 255) : hdr f t next len = f ++ t ++ digs 4 len ++ [0, 0, 0, next] := by
  rw [hdr, bytesOf, ← digs_next next h]; simp

set_option maxHeartbeats 1600000 in
theorem refPseudo_any (f t : List Int) (next : Int) (a : Option Addr) (n cap : Nat) (l : List Int) (w : World) (hf : Adr f) (ht : Adr t) (h : Lies .u8 w a n cap l) (ho : Oct l) :
    Calls Try.prog 14 #[.agg (arr f), .agg (arr t), .int .i64 next, .slice a n cap] w fun e w' => e = .returned (.tuple #[.int .i64 (psV f t next l), .int .i64 (psE next l.length)]) ∧ Below w.heap.size w w' := by
  obtain ⟨f1, t1, b1, z1⟩ := box2 w 34 f t
  have hln := h.1
  have HV : Hid (∀ x, psE next l.length = x → x ≠ 0 → psV f t next l = 0) := by intro x hx h0; rw [psV, if_neg (by rw [hx]; exact h0)]
  have hnm : n ≤ maxLen := Nat.le_trans h.2.1 h.2.2.1
  unfold maxLen at hnm
  have HB1 := hid b1
  have HLn := hid hln
  have HL := hid h
  have HF := hid hf
  have HT := hid ht
  have HO := hid ho
  by_cases hx0 : next < 0
  · have HE : Hid (psE next l.length = 1) := by rw [Hid, psE, if_neg (by omega)]
    clear HO f1 t1 b1 z1 hf ht ho h hln
    go_enter Try.func14, Try.ntmps14
    go_wp2_with fail
    go_ret2
    exact ⟨ret_two (HV.out 1 HE.out (by decide)).symm HE.out.symm, HB1.out⟩
  by_cases hx1 : 255 < next
  · have HE : Hid (psE next l.length = 1) := by rw [Hid, psE, if_neg (by omega)]
    clear HO f1 t1 b1 z1 hf ht ho h hln
    go_enter Try.func14, Try.ntmps14
    go_wp2_with fail
    go_ret2
    exact ⟨ret_two (HV.out 1 HE.out (by decide)).symm HE.out.symm, HB1.out⟩
  have hx : 0 ≤ next ∧ next ≤ 255 := by omega
  by_cases hlong : 1280 < n
  · have HE : Hid (psE next l.length = 2) := by rw [Hid, psE, if_pos hx, if_pos (by omega)]
    clear HO f1 t1 b1 z1 hf ht ho h hln
    go_enter Try.func14, Try.ntmps14
    go_wp2_with fail
    go_ret2
    exact ⟨ret_two (HV.out 2 HE.out (by decide)).symm HE.out.symm, HB1.out⟩
  have HE : Hid (psE next l.length = 0) := by rw [Hid, psE, if_pos hx, if_neg (by omega)]
  have HE2 : Hid (65535 - sumV (hdr f t next l.length ++ l) = psV f t next l) := by rw [Hid, psV, if_pos HE.out]
  rw [hln, hdr_parts f t next n hx] at HE2
  have HXo : Hid (Oct (f ++ t ++ digs 4 n ++ [0, 0, 0, next])) := by
    rw [Hid, ← hdr_parts f t next n hx]; exact hdr_oct f t next n hf ht
  obtain ⟨i0, hi, hz0, hz1, hz2⟩ := info_parts info5
  have b2 : Below ((w.alloc (.cells (arr f) 34)).alloc (.cells (arr t) 34)).heap.size ((w.alloc (.cells (arr f) 34)).alloc (.cells (arr t) 34)) (((w.alloc (.cells (arr f) 34)).alloc (.cells (arr t) 34)).drew.alloc (.cells #[] 5)) := balloc (bdrew (Below.refl _ _) 1) _
  have F2 := hid (f1.ok hf |>.below b2)
  have T1 := hid (t1.ok ht)
  have HB2 := hid b2
  have HZ1 := hid z1
  have B2 := hid (bthen b1 b2)
  have O2 : Hid ((((w.alloc (.cells (arr f) 34)).alloc (.cells (arr t) 34)).drew.alloc (.cells #[] 5)).ownsRow w.heap.size 5 1 (.slice (some ⟨w.heap.size + 1 + 1, 0, none⟩) 0 0) 0 []) := by
    have := World.ownsRow_made (e := 5) (size := 1) (base := w.heap.size) ((w.alloc (.cells (arr f) 34)).alloc (.cells (arr t) 34)).drew #[] 0 (by show w.heap.size ≤ ((w.alloc (.cells (arr f) 34)).alloc (.cells (arr t) 34)).heap.size; omega) (by decide) (by simp)
    rw [show ((w.alloc (.cells (arr f) 34)).alloc (.cells (arr t) 34)).drew.heap.size = w.heap.size + 1 + 1 from z1] at this
    exact this
  have hfl := hf.1
  have htl := ht.1
  have hd : decide ((1280 : Int) < (n : Int)) = false := by simp; omega
  have hd2 : decide ((255 : Int) < next) = false := by simp; omega
  clear f1 t1 b1 z1 hf ht ho h b2 HV hln
  go_enter Try.func14, Try.ntmps14
  go_wp2_with fail
  refine wp_region_held_drew (S := fun _ => True) (by kernel_rfl) ?_ (fun hHeld => ?_)
  · trivial
  refine wpAnyH_take (i := 1) (oi := _) (v := ?vp1) rfl (by kernel_rfl) (by kernel_rfl) (by kernel_rfl) (fun _ _ _ h => h) (Or.inl ⟨by rfl, ?hyp1⟩) (by assumption) ?restp1
  case hyp1 => (intro w hSw; (try dsimp only at hSw); go_split_ands; go_simp; try (with_reducible rfl))
  try simp only [List.getElem_toArray, List.getElem_cons_zero, List.getElem_cons_succ, Act.put, List.setIfInBounds_toArray, List.set_cons_zero, List.set_cons_succ]
  refine wpAnyH_take (i := 3) (oi := _) (v := ?vp3) rfl (by kernel_rfl) (by kernel_rfl) (by kernel_rfl) (fun _ _ _ h => h) (Or.inl ⟨by rfl, ?hyp3⟩) (by assumption) ?restp3
  case hyp3 => (intro w hSw; (try dsimp only at hSw); go_split_ands; go_simp; try (with_reducible rfl))
  try simp only [List.getElem_toArray, List.getElem_cons_zero, List.getElem_cons_succ, Act.put, List.setIfInBounds_toArray, List.set_cons_zero, List.set_cons_succ]
  refine wpAnyH_ready (rs := [0]) (by kernel_rfl) (by simp) ?_
  refine AllReadyH.cons (o := _) rfl (fun K hK => ?_) AllReadyH.nil
  go_simp
  refine hK.out _ _ trivial (fun hHeld => ?_)
  clear hK K
  try simp only [List.getElem_toArray, List.getElem_cons_zero, List.getElem_cons_succ, Act.put, List.setIfInBounds_toArray, List.set_cons_zero, List.set_cons_succ]
  refine wpAnyH_ready (rs := [2]) (by kernel_rfl) (by simp) ?_
  refine AllReadyH.cons (o := _) rfl (fun K hK => ?_) AllReadyH.nil
  refine wp_append_own _ _ _ 27 rfl w.heap.size 5 i0 (.int .u8 0) 1 1 Try.underlying27 hi hz0 hz1 hz2 rfl (by decide) _ _ _ rfl O2.out ⟨w.heap.size, 0, none⟩ 16 16 (u8s f) rfl ?c31 (F2.out.1.cells _ rfl) (ints_oneCell8 _ _) ?c33 ?c34 ?c35 ?_
  case c31 => simp only [u8s, List.length_map, Nat.mul_one]; exact F2.out.1.1
  case c33 => unfold maxLen; omega
  case c34 => omega
  case c35 => exact B2.out.size
  intro v3 w3 ho3 hg3 _
  have O3 := hid ho3
  have B3 := hid (bown B2.out O2.out hg3)
  have G3 : Hid (Below _ _ w3) := Below.grown HB2.out hg3 HB2.out.size (fun k hk => by cases hk; rw [HZ1.out]; exact Nat.le_refl _)
  clear ho3 hg3
  refine hK.out _ _ trivial (fun hHeld => ?_)
  clear hK K
  try simp only [List.getElem_toArray, List.getElem_cons_zero, List.getElem_cons_succ, Act.put, List.setIfInBounds_toArray, List.set_cons_zero, List.set_cons_succ]
  refine wpAnyH_ready (rs := [4]) (by kernel_rfl) (by simp) ?_
  refine AllReadyH.cons (o := _) rfl (fun K hK => ?_) AllReadyH.nil
  refine wp_append_own _ _ _ 27 rfl w.heap.size 5 i0 (.int .u8 0) 1 1 Try.underlying27 hi hz0 hz1 hz2 rfl (by decide) _ _ _ rfl O3.out ⟨w.heap.size + 1, 0, none⟩ 16 16 (u8s t) rfl ?c41 ((Lies.below T1.out.1 G3.out).cells _ rfl) (ints_oneCell8 _ _) ?c43 ?c44 ?c45 ?_
  case c41 => simp only [u8s, List.length_map, Nat.mul_one]; exact (Lies.below T1.out.1 G3.out).1
  case c43 => unfold maxLen; omega
  case c44 => omega
  case c45 => exact B3.out.size
  intro v4 w4 ho4 hg4 _
  have O4 := hid ho4
  have B4 := hid (bown B3.out O3.out hg4)
  clear ho4 hg4
  refine hK.out _ _ trivial (fun hHeld => ?_)
  clear hK K
  try simp only [List.getElem_toArray, List.getElem_cons_zero, List.getElem_cons_succ, Act.put, List.setIfInBounds_toArray, List.set_cons_zero, List.set_cons_succ]
  refine wpAnyH_take (i := 5) (oi := _) (v := ?vp5) rfl (by kernel_rfl) (by kernel_rfl) (by kernel_rfl) (fun _ _ _ h => h) (Or.inl ⟨by rfl, ?hyp5⟩) (by assumption) ?restp5
  case hyp5 => (intro w hSw; (try dsimp only at hSw); go_split_ands; go_simp; try (with_reducible rfl))
  try simp only [List.getElem_toArray, List.getElem_cons_zero, List.getElem_cons_succ, Act.put, List.setIfInBounds_toArray, List.set_cons_zero, List.set_cons_succ]
  refine wpAnyH_done (by kernel_rfl) ?_ _
  clear F2 T1 B2 O2 B3 O3 G3 HB2 HZ1 HB1
  go_wp2_with fail
  refine (digits4 n _ (by omega) (by omega)).mono ?_
  rintro e w5 ⟨rfl, rfl⟩
  have D5 : Hid (Lies .u8 (w4.alloc (.cells (u8s (digs 4 n)).toArray 5)) (some ⟨w4.heap.size, 0, none⟩) 4 4 (digs 4 n)) := lies_new .u8 w4 _ 5 (digs 4 n) (by simp [u8s]) (by show 4 ≤ 100; omega)
  have b5 : Below w4.heap.size w4 (w4.alloc (.cells (u8s (digs 4 n)).toArray 5)) := balloc (Below.refl _ _) _
  have O5 : Hid ((w4.alloc (.cells (u8s (digs 4 n)).toArray 5)).ownsRow w.heap.size 5 1 v4 32 (u8s (f ++ t))) := ownsRow_u8 (O4.out.alloc _) rfl (by simp [u8s])
  have B5 := hid (bthen B4.out b5)
  have HX4 : Hid ((digs 4 n).length = 4) := rfl
  clear b5 O4 B4
  generalize digs 4 n = D at *
  generalize okB 4 n = ok
  generalize w4.alloc (.cells (u8s D).toArray 5) = w5 at *
  go_wp2_with (at_builtin; refine wpList_append_own_any _ rfl _ _ 27 rfl w.heap.size 5 i0 (.int .u8 0) 1 1 Try.underlying27 hi hz0 hz1 hz2 rfl (by decide) _ _ _ rfl O5.out (some ⟨w4.heap.size, 0, none⟩) 4 4 (u8s D) rfl ?d1 D5.out.isNil D5.out.cells (ints_oneCell8 _ _) ?d2 ?d3 ?d4 ?_)
  case d1 => simp [u8s]; exact HX4.out
  case d2 => unfold maxLen; omega
  case d3 => omega
  case d4 => exact B5.out.size
  intro v6 w6 ho6 hb6
  have O6 : Hid (w6.ownsRow w.heap.size 5 1 v6 36 (u8s (f ++ t ++ D))) := ownsRow_u8 ho6 rfl (by simp [u8s])
  have B6 := hid (B5.out.trans hb6)
  clear ho6 hb6 O5 D5 B5
  go_wp2_with (at_builtin; refine wpList_push rfl _ _ rfl rfl rfl O6.out ?e1 B6.out.size ?e2 ?_)
  case e1 => first | rfl | exact ⟨rfl, rfl⟩ | exact ⟨rfl, rfl, rfl⟩ | exact ⟨rfl, rfl, rfl, rfl⟩
  case e2 => simp
  intro v7 w7 ho7 hb7
  have O7 : Hid (w7.ownsRow w.heap.size 5 1 v7 40 (u8s (f ++ t ++ D ++ [0, 0, 0, next]))) := ownsRow_u8 ho7 rfl (by simp [u8s])
  have B7 := hid (B6.out.trans hb7)
  have L7 := hid (HL.out.below B7.out)
  clear ho7 hb7 O6 B6
  go_wp2_with (at_builtin; refine wpList_append_own_any _ rfl _ _ 27 rfl w.heap.size 5 i0 (.int .u8 0) 1 1 Try.underlying27 hi hz0 hz1 hz2 rfl (by decide) _ _ _ rfl O7.out a n cap (u8s l) rfl ?g1 L7.out.isNil L7.out.cells (ints_oneCell8 _ _) ?g2 ?g3 ?g4 ?_)
  case g1 => simp [u8s]; exact HLn.out
  case g2 => unfold maxLen; omega
  case g3 => omega
  case g4 => exact B7.out.size
  intro v8 w8 ho8 hb8
  have HXl : Hid ((f ++ t ++ D ++ [0, 0, 0, next] ++ l).length = 40 + n) := by simp only [Hid, List.length_append, hfl, htl, HX4.out, HLn.out]; rfl
  have O8 : w8.ownsRow w.heap.size 5 1 v8 (f ++ t ++ D ++ [0, 0, 0, next] ++ l).length (u8s (f ++ t ++ D ++ [0, 0, 0, next] ++ l)) := ownsRow_u8 ho8 HXl.out.symm (by simp [u8s])
  obtain ⟨a9, cap9, rfl, hl9, _⟩ := owns_lies O8
  rw [HXl.out] at hl9 ⊢
  have L9 := hid hl9
  have O9 := hid (HXo.out.app HO.out)
  have B8 := hid (B7.out.trans hb8)
  have HS9 := sumV_bd (f ++ t ++ D ++ [0, 0, 0, next] ++ l)
  clear ho8 hb8 O8 hl9 O7 L7 B7
  generalize f ++ t ++ D ++ [0, 0, 0, next] ++ l = M at *
  go_wp2_with fail
  refine (refSum_any _ _ _ M _ L9.out O9.out (by omega)).mono ?_
  rintro e w8 ⟨rfl, rfl⟩
  generalize sumV M = sm at *
  go_wp2_with fail
  go_ret2
  exact ⟨ret_two HE2.out HE.out.symm, B8.out⟩
end Go.Proofs.Ytinfkjnneibklaa
