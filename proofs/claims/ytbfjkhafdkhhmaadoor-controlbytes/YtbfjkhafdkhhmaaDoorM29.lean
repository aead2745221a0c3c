/- Options: what is written is read, and what is read is written. · What is read without fault comes out again when it is written. -/
import Derived.Test.YtbfjkhafdkhhmaaDoorM28
import Derived.Test.YtbfjkhafdkhhmaaDoorM27
namespace Go.Proofs.YtbfjkhafdkhhmaaDoor
open Go.ChangeShapes Go.WideShapes Go.ChangeAt Go.RowKit Go.Deep
set_option linter.unusedVariables false
set_option linter.unusedSimpArgs false

theorem prt_any : ∀ k, k < 10 → (prt k).any (fun p => p.1 == 16) = hasA k ∧ ((prt k).filter (fun p => p.1 == 16)).length ≤ 1 := by decide
theorem prt_txb : ∀ k, k < 10 → txb k = true → prt k = [] ∧ hasA k = false ∧ zer k = false := by decide
theorem zer_hasA : ∀ k, k < 10 → zer k = true → hasA k = false ∧ txb k = false ∧ k = 1 := by decide
theorem anyN_zeros (n : Nat) : anyN (List.replicate n 0) = false := by simp [anyN]
theorem zeros_anyN (l : List Int) (h : anyN l = false) : l = List.replicate l.length 0 := by
  apply List.eq_replicate_iff.2
  refine ⟨rfl, fun x hx => ?_⟩
  simp [anyN] at h
  exact h x hx
theorem frm_parts {k : Nat} {o : Po} (h : frmB k o = true) : o.n.length = (nmb (prt k)).length ∧ (o.ad = zeros ∨ hasA k = true) ∧ (o.t = [] ∨ txb k = true) := by
  simp only [frmB, Bool.and_eq_true, Bool.or_eq_true, beq_iff_eq] at h
  exact ⟨h.1, h.2.1, h.2.2.imp List.eq_nil_of_length_eq_zero id⟩
/-- What is behind the length, read. -/
theorem fil_con {o : Po} {k : Nat} (hk : k < 10) (hok : o.k = k) (h : chkP o = 0) (ha : o.ad.length = 16) : filE k (conP k o) 0 = 0 ∧ filP k (conP k o) 0 = o := by
  obtain ⟨h1, h2, h3, h4⟩ := chk0 h
  rw [hok, Int.toNat_natCast] at h2 h3
  obtain ⟨f1, f2, f3⟩ := frm_parts h2
  obtain ⟨ok, on, oad, ot⟩ := o
  simp only at *
  subst hok
  cases hz : zer k
  · cases ht : txb k
    · have hT : ot = [] := by rcases f3 with e | e; · exact e
                              · rw [ht] at e; cases e
      subst hT
      have hc : conP k ⟨k, on, oad, []⟩ = partsB (prt k) on oad := by rw [conP, hz]; simp
      have hs := partsB_length (prt k) (fun p hp => (prt_sizes k hk p hp).imp id (·.1)) on oad ha
      have hf := fold_parts (prt k) (prt_sizes k hk) [] on oad [] zeros [] f1 h3 ha
      simp only [List.nil_append, List.append_nil, List.length_nil, Nat.zero_add] at hf
      have hst : stps (partsB (prt k) on oad) (prt k) = ((partsB (prt k) on oad).length, on, oad) := by
        rw [stps, hf, (prt_any k hk).1]
        rcases f2 with e | e
        · rw [e]; simp
        · rw [e]; simp
      rw [hc]
      refine ⟨?_, ?_⟩
      · simp [filE, hz, ht, hs]
      · simp [filP, hz, ht, hs, hst]
    · obtain ⟨g1, g2, _⟩ := prt_txb k hk ht
      have hA : oad = zeros := by rcases f2 with e | e; · exact e
                                  · rw [g2] at e; cases e
      have hN : on = [] := List.eq_nil_of_length_eq_zero (by rw [f1, g1]; rfl)
      subst hA hN
      have hc : conP k ⟨k, [], zeros, ot⟩ = ot := by rw [conP, hz, g1]; simp [partsB]
      rw [hc]
      exact ⟨by simp [filE, hz, ht], by simp [filP, hz, ht]⟩
  · obtain ⟨g1, g2, rfl⟩ := zer_hasA k hk hz
    have hA : oad = zeros := by rcases f2 with e | e; · exact e
                                · rw [g1] at e; cases e
    have hT : ot = [] := by rcases f3 with e | e; · exact e
                            · rw [g2] at e; cases e
    obtain ⟨m, hm, _⟩ := pads_num f1 h3
    subst hA hT hm
    have hc : conP 1 ⟨((1 : Nat) : Int), [(m : Int)], zeros, []⟩ = List.replicate m 0 := by rw [conP, hz]; simp
    rw [hc]
    refine ⟨by simp [filE, hz, zerE, anyN_zeros], by simp [filP, hz]⟩
/-- One option, read. -/
theorem nx_enc (n : Nat) (o : Po) (rest : List Int) (hn : n ≠ 16) (h : chkP o = 0) (ha : o.ad.length = 16) : nxE n (encP o ++ rest) = 0 ∧ nxP (encP o ++ rest) = o ∧ nxN (encP o ++ rest) = (encP o).length := by
  obtain ⟨h1, h2, h3, h4⟩ := chk0 h
  obtain ⟨k, hk, hk10⟩ := knd_nat h1
  by_cases h0 : k = 0
  · subst h0
    have hk : o.k = 0 := hk
    have e : encP o = [0] := by rw [encP, if_pos hk]
    rw [hk] at h2 h3
    obtain ⟨f1, f2, f3⟩ := frm_parts h2
    obtain ⟨ok, on, oad, ot⟩ := o
    simp only at *
    have hN : on = [] := List.eq_nil_of_length_eq_zero (by rw [f1]; rfl)
    have hA : oad = zeros := by rcases f2 with e | e; · exact e
                                · cases e
    have hT : ot = [] := by rcases f3 with e | e; · exact e
                            · cases e
    subst hN hA hT hk
    rw [e]
    obtain ⟨p1, p2, p3⟩ := nx_pad rest
    exact ⟨nxE_pad n rest hn, p2, p3⟩
  · have e : encP o = (k : Int) :: ((conP k o).length : Int) :: conP k o := by rw [encP, hk, if_neg (by omega), Int.toNat_natCast]
    obtain ⟨q1, q2⟩ := fil_con hk10 hk h ha
    have hlen := conP_le hk10 hk h ha
    obtain ⟨e1, e2, e3⟩ := nxE_long n k ((conP k o).length : Int) (conP k o ++ rest) hn hk10 h0 (by omega) (by simp; omega)
    rw [Int.toNat_natCast, List.take_left' rfl] at e1 e2
    rw [e]
    refine ⟨?_, ?_, ?_⟩
    · rw [List.cons_append, List.cons_append, e1, q1, q2, h]; rfl
    · rw [List.cons_append, List.cons_append, e2, q2]
    · rw [List.cons_append, List.cons_append, e3]; simp; omega
theorem encP_ne (o : Po) : encP o ≠ [] := by unfold encP; split <;> simp
/-- Options that are right, read. -/
theorem dec_enc (L : List Po) : ∀ n, n + L.length ≤ 16 → (∀ o ∈ L, chkP o = 0 ∧ o.ad.length = 16) → dec n (encs L) = (L, 0) := by
  induction L with
  | nil => intro n _ _; exact dec_nil n
  | cons o L ih =>
    intro n hn h
    obtain ⟨h1, h2⟩ := h o (by simp)
    rw [List.length_cons] at hn
    have e : encs (o :: L) = encP o ++ encs L := by simp [encs]
    obtain ⟨e1, e2, e3⟩ := nx_enc n o (encs L) (by omega) h1 h2
    rw [e, decO_ok (by simp [encP_ne]) e1, e2, e3, List.drop_left' rfl, ih (n + 1) (by omega) (fun x hx => h x (by simp [hx]))]
theorem bad_all {L : List Po} (h : bad L = 0) : ∀ o ∈ L, chkP o = 0 := by
  induction L with
  | nil => intro o ho; cases ho
  | cons p L ih =>
    rw [bad] at h
    split at h
    · rename_i hc
      intro o ho
      rcases List.mem_cons.1 ho with e | e
      · rw [e]; exact hc
      · exact ih h o e
    · rename_i hc; exact absurd h hc
theorem bad_of {L : List Po} (h : ∀ o ∈ L, chkP o = 0) : bad L = 0 := by
  induction L with
  | nil => rfl
  | cons p L ih => rw [bad, if_pos (h p (by simp))]; exact ih (fun o ho => h o (by simp [ho]))
theorem encE_0 {L : List Po} (h : encE L = 0) : L.length ≤ 16 ∧ (∀ o ∈ L, chkP o = 0) ∧ (encs L).length ≤ 1280 := by
  unfold encE at h
  split at h
  · cases h
  · split at h
    · rename_i h2; exact absurd h h2
    · rename_i h2
      split at h
      · cases h
      · exact ⟨by omega, bad_all (by simpa using h2), by omega⟩
theorem dec_of {L : List Po} (h : encE L = 0) (ha : ∀ o ∈ L, o.ad.length = 16) : dec 0 (encsL L) = (L, 0) := by
  obtain ⟨h1, h2, h3⟩ := encE_0 h
  rw [encsL, if_pos h]
  exact dec_enc L 0 (by omega) (fun o ho => ⟨h2 o ho, ha o ho⟩)
/-- What is behind the length, written. -/
theorem con_fil {k : Nat} (hk : k < 10) (l : List Int) (ho : Oct l) (h : filE k l 0 = 0) : conP k (filP k l 0) = l ∧ (filP k l 0).k = k := by
  cases hz : zer k
  · cases ht : txb k
    · by_cases hs : sumP (prt k) = l.length
      · have hP : filP k l 0 = ⟨k, (stps l (prt k)).2.1, (stps l (prt k)).2.2, []⟩ := by simp [filP, hz, ht, hs]
        obtain ⟨_, n', e1, e2, e3⟩ := fold_back l ho (prt k) (prt_all k hk).1 (prt_any k hk).2 0 [] zeros (by omega)
        rw [List.nil_append] at e1
        rw [hP]
        refine ⟨?_, rfl⟩
        rw [conP, hz, if_neg (by simp), List.append_nil, stps, e1, e3, hs, List.drop_zero, Int.toNat_natCast, List.take_length]
      · simp [filE, hz, ht, hs] at h
    · obtain ⟨g1, _, _⟩ := prt_txb k hk ht
      have hP : filP k l 0 = ⟨k, [], zeros, l⟩ := by simp [filP, hz, ht]
      rw [hP]
      exact ⟨by rw [conP, hz, g1]; simp [partsB], rfl⟩
  · have hP : filP k l 0 = ⟨k, [(l.length : Int)], zeros, []⟩ := by simp [filP, hz]
    have hA : anyN l = false := by
      cases hx : anyN l
      · rfl
      · simp [filE, hz, zerE, hx] at h
    rw [hP]
    refine ⟨?_, rfl⟩
    rw [conP, hz]
    simp only [List.getD_cons_zero, Int.toNat_natCast, if_true]
    exact (zeros_anyN l hA).symm
theorem spE_both {a b : Int} (h : spE a b = 0) : a = 0 ∧ b = 0 := by
  unfold spE at h
  split at h
  · rename_i e; exact ⟨e, h⟩
  · rename_i e; exact absurd h e
/-- One option, written. -/
theorem enc_nx (n : Nat) (m : List Int) (hm : m ≠ []) (ho : Oct m) (h : nxE n m = 0) : encP (nxP m) = m.take (nxN m) ∧ chkP (nxP m) = 0 ∧ n ≠ 16 := by
  have hn : n ≠ 16 := fun e => by rw [e, nxE_full] at h; cases h
  have hkb : kndB (nxK m) = true := by
    cases hx : kndB (nxK m)
    · rw [nxE_kind n m hn hx] at h; cases h
    · rfl
  obtain ⟨k, hk, hk10⟩ := knd_nat hkb
  match m, hm with
  | x :: t, _ =>
    rw [nxK_cons] at hk
    subst hk
    by_cases h0 : k = 0
    · subst h0
      obtain ⟨p1, p2, p3⟩ := nx_pad t
      have e0 : ((0 : Nat) : Int) :: t = 0 :: t := rfl
      rw [e0, p2, p3]
      exact ⟨rfl, chk_pad, hn⟩
    · match t with
      | [] => rw [nxE_cut n k _ hn hk10 h0 (nxK_cons _ _) (nx_none _)] at h; cases h
      | y :: t =>
        have hy := ho y (by simp)
        by_cases hl : y ≤ t.length
        · obtain ⟨e1, e2, e3⟩ := nxE_long n k y t hn hk10 h0 hy.1 hl
          rw [e1] at h
          obtain ⟨h1, h2⟩ := spE_both h
          have hoc : Oct (t.take y.toNat) := fun z hz => ho z (by have := List.mem_of_mem_take hz; simp [this])
          obtain ⟨c1, c2⟩ := con_fil hk10 _ hoc h1
          rw [e2, e3]
          refine ⟨?_, h2, hn⟩
          rw [encP, c2, if_neg (by omega), Int.toNat_natCast, c1]
          have hlen : ((t.take y.toNat).length : Int) = y := by rw [List.length_take]; omega
          rw [hlen, Nat.add_comm 2]
          simp
        · rw [nxE_cut n k _ hn hk10 h0 (nxK_cons _ _) (nx_cut _ _ _ hy.1 (by omega))] at h; cases h
theorem enc_dec : ∀ (f : Nat) (n : Nat) (m : List Int), m.length ≤ f → n ≤ 16 → Oct m → (dec n m).2 = 0 → encs (dec n m).1 = m ∧ n + (dec n m).1.length ≤ 16 ∧ ∀ o ∈ (dec n m).1, chkP o = 0 := by
  intro f
  induction f with
  | zero =>
    intro n m hf hn ho h
    have : m = [] := List.eq_nil_of_length_eq_zero (by omega)
    subst this
    rw [dec_nil]
    exact ⟨rfl, by simpa using hn, fun o ho => by cases ho⟩
  | succ f ih =>
    intro n m hf hn ho h
    by_cases hm : m = []
    · subst hm
      rw [dec_nil]
      exact ⟨rfl, by simpa using hn, fun o ho => by cases ho⟩
    · by_cases hE : nxE n m = 0
      · obtain ⟨e1, e2, e3⟩ := enc_nx n m hm ho hE
        rw [decO_ok hm hE] at h ⊢
        have hp := nxN_pos m
        have hml : 0 < m.length := List.length_pos_iff.2 hm
        obtain ⟨i1, i2, i3⟩ := ih (n + 1) (m.drop (nxN m)) (by rw [List.length_drop]; omega) (by omega) (fun x hx => ho x (List.mem_of_mem_drop hx)) h
        refine ⟨?_, ?_, ?_⟩
        · have : encs (nxP m :: (dec (n + 1) (m.drop (nxN m))).1) = encP (nxP m) ++ encs (dec (n + 1) (m.drop (nxN m))).1 := by simp [encs]
          rw [this, i1, e1, List.take_append_drop]
        · rw [List.length_cons]; omega
        · intro o ho'
          rcases List.mem_cons.1 ho' with e | e
          · rw [e]; exact e2
          · exact i3 o e
      · rw [dec_bad hm hE] at h
        exact absurd h hE
theorem enc_of (m : List Int) (ho : Oct m) (hl : m.length ≤ 1280) (h : (dec 0 m).2 = 0) : encE (dec 0 m).1 = 0 ∧ encsL (dec 0 m).1 = m := by
  obtain ⟨h1, h2, h3⟩ := enc_dec m.length 0 m (Nat.le_refl _) (by omega) ho h
  have : encE (dec 0 m).1 = 0 := by
    rw [encE, if_neg (by omega), if_neg (by rw [bad_of h3]; simp), h1, if_neg (by omega)]
  exact ⟨this, by rw [encsL, if_pos this, h1]⟩
end Go.Proofs.YtbfjkhafdkhhmaaDoor

namespace Go.Proofs.YtbfjkhafdkhhmaaDoor
set_option linter.unusedVariables false
set_option linter.unusedSimpArgs false

theorem rdz_ok (z left : Nat) (er : Int) (h : rdE z 1 left er = 0) : er = 0 ∧ z ≤ left ∧ rdN z 1 left er = z := by
  have h0 := h
  unfold rdE at h
  split at h
  · rename_i e
    split at h
    · exact absurd h (by decide)
    · split at h
      · exact absurd h (by decide)
      · refine ⟨e, by omega, ?_⟩
        rw [rdN, if_pos h0]; simp
  · rename_i e; exact absurd h e
theorem spE3 (E : Int) : spE E 3 ≠ 0 := by unfold spE; split <;> omega
/-- What was read of the bytes at a place. -/
structure Was (l : List Int) (s : Nat × Int × List Int) (z : Nat) (n : Int) : Prop where
  er : s.2.1 = 0
  le : s.1 + z ≤ l.length
  bytes : bytesOf z [n] = (l.drop s.1).take z
theorem was_of (l : List Int) (ho : Oct l) (s : Nat × Int × List Int) (z : Nat) (hz : z = 1 ∨ z = 2) (h : rdE z 1 (l.length - s.1) s.2.1 = 0) : Was l s z (takeV z l s.1 l.length s.2.1) ∧ rdN z 1 (l.length - s.1) s.2.1 = z := by
  obtain ⟨h1, h2, h3⟩ := rdz_ok z _ _ h
  have hle : s.1 + z ≤ l.length := by omega
  refine ⟨⟨h1, hle, ?_⟩, h3⟩
  rw [takeV, h3, bytesOf, List.flatMap_singleton]
  refine digs_numOf z _ ?_ ?_ (ho.cut _ _)
  · rcases hz with rfl | rfl <;> rfl
  · rw [List.length_take, List.length_drop]; simp; omega
theorem st_full (l : List Int) (ho : Oct l) (s : Nat × Int × List Int) (z j lst : Nat) (hz : (z = 1 ∧ lst = 255) ∨ (z = 2 ∧ lst = 65535)) (h : (ptStep l s ⟨z, [⟨j, 0, lst⟩]⟩).2.1 = 0) :
    ∃ x : Int, ptStep l s ⟨z, [⟨j, 0, lst⟩]⟩ = (s.1 + z, 0, s.2.2.set j x) ∧ 0 ≤ x ∧ x ≤ lst ∧ Was l s z x := by
  have hb := takeV_bd1 l ho z s.1 l.length s.2.1 (by omega)
  rw [pt_full l ho s z j lst hz] at h ⊢
  obtain ⟨h1, h2⟩ := was_of l ho s z (by omega) h
  refine ⟨_, by rw [h2, show rdE z 1 (l.length - s.1) s.2.1 = 0 from h], hb.1, ?_, h1⟩
  rcases hz with ⟨e, e2⟩ | ⟨e, e2⟩
  · have := hb.2.2 e; omega
  · omega
theorem st_none (l : List Int) (ho : Oct l) (s : Nat × Int × List Int) (z : Nat) (hz : z = 1 ∨ z = 2) (h : (ptStep l s ⟨z, []⟩).2.1 = 0) :
    ptStep l s ⟨z, []⟩ = (s.1 + z, 0, s.2.2) ∧ Was l s z 0 := by
  have e0 : takeV z l s.1 l.length s.2.1 = numOf ((l.drop s.1).take (rdN z 1 (l.length - s.1) s.2.1)) := rfl
  rw [pt_none l s z] at h ⊢
  by_cases hn : numOf ((l.drop s.1).take (rdN z 1 (l.length - s.1) s.2.1)) = 0
  · have h' : zE (l.drop s.1) (l.length - s.1) s.2.1 z = rdE z 1 (l.length - s.1) s.2.1 := by rw [zE, if_pos hn]
    rw [h'] at h ⊢
    obtain ⟨h1, h2⟩ := was_of l ho s z hz h
    rw [e0, hn] at h1
    exact ⟨by rw [h2, show rdE z 1 (l.length - s.1) s.2.1 = 0 from h], h1⟩
  · have h' : zE (l.drop s.1) (l.length - s.1) s.2.1 z = spE (rdE z 1 (l.length - s.1) s.2.1) 3 := by rw [zE, if_neg hn]
    rw [h'] at h
    exact absurd h (spE3 _)
theorem st_fl1 (l : List Int) (ho : Oct l) (s : Nat × Int × List Int) (h : (ptStep l s ⟨1, [⟨3, 7, 1⟩, ⟨4, 3, 7⟩, ⟨5, 0, 7⟩]⟩).2.1 = 0) :
    ∃ g mo pf : Int, ptStep l s ⟨1, [⟨3, 7, 1⟩, ⟨4, 3, 7⟩, ⟨5, 0, 7⟩]⟩ = (s.1 + 1, 0, ((s.2.2.set 3 g).set 4 mo).set 5 pf) ∧ (g = 0 ∨ g = 1) ∧ (0 ≤ mo ∧ mo ≤ 7) ∧ (0 ≤ pf ∧ pf ≤ 7) ∧ Was l s 1 (g * 128 + mo * 8 + pf) := by
  have hb := takeV_bd1 l ho 1 s.1 l.length s.2.1 (.inl rfl)
  have hb2 := hb.2.2 rfl
  have hW := was_of l ho s 1 (.inl rfl)
  rw [pt_fl1 l ho s _ rfl] at h ⊢
  simp only [Int.natCast_one] at hb hb2 hW h ⊢
  generalize takeV 1 l s.1 l.length s.2.1 = b at *
  split at h
  · exact absurd h (spE3 _)
  · rename_i hbit
    obtain ⟨h1, h2⟩ := hW h
    refine ⟨b / 128, b / 8 % 8, b % 8, ?_, by omega, by omega, by omega, ?_⟩
    · rw [h2, if_neg hbit, show rdE 1 1 (l.length - s.1) s.2.1 = 0 from h]
    · have : b / 128 * 128 + b / 8 % 8 * 8 + b % 8 = b := by omega
      rw [this]; exact h1
theorem st_fl2 (l : List Int) (ho : Oct l) (s : Nat × Int × List Int) (h : (ptStep l s ⟨1, [⟨7, 7, 1⟩, ⟨10, 6, 1⟩]⟩).2.1 = 0) :
    ∃ a t : Int, ptStep l s ⟨1, [⟨7, 7, 1⟩, ⟨10, 6, 1⟩]⟩ = (s.1 + 1, 0, (s.2.2.set 7 a).set 10 t) ∧ (a = 0 ∨ a = 1) ∧ (t = 0 ∨ t = 1) ∧ Was l s 1 (a * 128 + t * 64) := by
  have hb := takeV_bd1 l ho 1 s.1 l.length s.2.1 (.inl rfl)
  have hb2 := hb.2.2 rfl
  have hW := was_of l ho s 1 (.inl rfl)
  rw [pt_fl2 l ho s _ rfl] at h ⊢
  simp only [Int.natCast_one] at hb hb2 hW h ⊢
  generalize takeV 1 l s.1 l.length s.2.1 = b at *
  split at h
  · rename_i hbit
    obtain ⟨h1, h2⟩ := hW h
    refine ⟨b / 128, b / 64 % 2, ?_, by omega, by omega, ?_⟩
    · rw [h2, if_pos hbit, show rdE 1 1 (l.length - s.1) s.2.1 = 0 from h]
    · have : b / 128 * 128 + b / 64 % 2 * 64 = b := by omega
      rw [this]; exact h1
  · exact absurd h (spE3 _)
theorem st_fl3 (l : List Int) (ho : Oct l) (s : Nat × Int × List Int) (h : (ptStep l s ⟨1, [⟨10, 7, 1⟩]⟩).2.1 = 0) :
    ∃ t : Int, ptStep l s ⟨1, [⟨10, 7, 1⟩]⟩ = (s.1 + 1, 0, s.2.2.set 10 t) ∧ (t = 0 ∨ t = 1) ∧ Was l s 1 (t * 128) := by
  have hb := takeV_bd1 l ho 1 s.1 l.length s.2.1 (.inl rfl)
  have hb2 := hb.2.2 rfl
  have hW := was_of l ho s 1 (.inl rfl)
  rw [pt_fl3 l ho s _ rfl] at h ⊢
  simp only [Int.natCast_one] at hb hb2 hW h ⊢
  generalize takeV 1 l s.1 l.length s.2.1 = b at *
  split at h
  · rename_i hbit
    obtain ⟨h1, h2⟩ := hW h
    refine ⟨b / 128, ?_, by omega, ?_⟩
    · rw [h2, if_pos hbit, show rdE 1 1 (l.length - s.1) s.2.1 = 0 from h]
    · have : b / 128 * 128 = b := by omega
      rw [this]; exact h1
  · exact absurd h (spE3 _)
theorem Was.next {l : List Int} {s : Nat × Int × List Int} {z : Nat} {n : Int} (h : Was l s z n) {A : List Int} (hA : A = l.take s.1) : A ++ bytesOf z [n] = l.take (s.1 + z) := by
  rw [hA, h.bytes, List.take_add]
/-- What a message's head was read of. -/
structure HdOf (k : Nat) (l : List Int) (at_ : Nat) (v : List Int) : Prop where
  len : v.length = 11
  le : at_ ≤ l.length
  good : ∀ t : Int, t = (if (crt k || v.getD 10 0 == 1) = true then 1 else 0) → frmV k (v.set 10 t) = true ∧ witV k (v.set 10 t) = true ∧ hdV (v.set 10 t) (cpa k) = l.take at_ ∧ [v.getD 0 0, v.getD 1 0, v.getD 2 0, bitI (v.getD 3 0 == 1), v.getD 4 0, v.getD 5 0, v.getD 6 0, bitI (v.getD 7 0 == 1), v.getD 8 0, v.getD 9 0, t] = v.set 10 t
theorem bit1 {g : Int} (h : g = 0 ∨ g = 1) : bitI (g == 1) = g := by rcases h with rfl | rfl <;> rfl
theorem hd_0 (l : List Int) (ho : Oct l) (h : (rdP l (cpa 0)).2.1 = 0) : ∃ at_ v, rdP l (cpa 0) = (at_, 0, v) ∧ HdOf 0 l at_ v := by
  have e : rdP l (cpa 0) = ptStep l (0, 0, zer11) ⟨2, []⟩ := rfl
  rw [e] at h ⊢
  obtain ⟨e1, w1⟩ := st_none l ho _ 2 (.inr rfl) h
  rw [e1]
  refine ⟨_, _, rfl, rfl, w1.le, fun t ht => ?_⟩
  have ht' : t = 0 := by rw [ht]; rfl
  subst ht'
  refine ⟨rfl, rfl, ?_, rfl⟩
  have := w1.next (A := []) rfl
  simpa [hdV, hdP, cpa, cpas, orF] using this
theorem hd_1 (l : List Int) (ho : Oct l) (h : (rdP l (cpa 1)).2.1 = 0) : ∃ at_ v, rdP l (cpa 1) = (at_, 0, v) ∧ HdOf 1 l at_ v := by
  have e : rdP l (cpa 1) = ptStep l (ptStep l (ptStep l (ptStep l (ptStep l (ptStep l (0, 0, zer11) ⟨1, [⟨0, 0, 255⟩]⟩) ⟨1, [⟨1, 0, 255⟩]⟩) ⟨2, [⟨2, 0, 65535⟩]⟩) ⟨1, [⟨3, 7, 1⟩, ⟨4, 3, 7⟩, ⟨5, 0, 7⟩]⟩) ⟨1, [⟨6, 0, 255⟩]⟩) ⟨2, []⟩ := rfl
  rw [e] at h ⊢
  obtain ⟨e6, w6⟩ := st_none l ho _ 2 (.inr rfl) h
  obtain ⟨x6, e5, a5, b5, w5⟩ := st_full l ho _ 1 6 255 (.inl ⟨rfl, rfl⟩) w6.er
  obtain ⟨g, mo, pf, e4, hg, hmo, hpf, w4⟩ := st_fl1 l ho _ w5.er
  obtain ⟨x2, e3, a3, b3, w3⟩ := st_full l ho _ 2 2 65535 (.inr ⟨rfl, rfl⟩) w4.er
  obtain ⟨x1, e2, a2, b2, w2⟩ := st_full l ho _ 1 1 255 (.inl ⟨rfl, rfl⟩) w3.er
  obtain ⟨x0, e1, a1, b1, w1⟩ := st_full l ho _ 1 0 255 (.inl ⟨rfl, rfl⟩) w2.er
  have n1 := w1.next (A := []) rfl
  rw [e1] at e2 w2
  have n2 := w2.next n1
  rw [e1, e2] at e3 w3
  have n3 := w3.next n2
  rw [e1, e2, e3] at e4 w4
  have n4 := w4.next n3
  rw [e1, e2, e3, e4] at e5 w5
  have n5 := w5.next n4
  rw [e1, e2, e3, e4, e5] at e6 w6
  have n6 := w6.next n5
  rw [e1, e2, e3, e4, e5, e6]
  refine ⟨_, _, rfl, rfl, w6.le, fun t ht => ?_⟩
  have ht' : t = 1 := by rw [ht]; rfl
  subst ht'
  clear ht e1 e2 e3 e4 e5 e6 w1 w2 w3 w4 w5 w6 n1 n2 n3 n4 n5
  refine ⟨?_, ?_, ?_, ?_⟩
  · simp [frmV, crt, cpa, cpas, clrP, clrF, zer11]
  · simp [witV, inP, inF, crt, cpa, cpas, zer11]
    omega
  · simp [hdV, hdP, cpa, cpas, orF, zer11] at n6 ⊢
    exact n6
  · simp [zer11, bit1 hg]; rfl
theorem hd_2 (l : List Int) (ho : Oct l) (h : (rdP l (cpa 2)).2.1 = 0) : ∃ at_ v, rdP l (cpa 2) = (at_, 0, v) ∧ HdOf 2 l at_ v := by
  have e : rdP l (cpa 2) = ptStep l (ptStep l (ptStep l (ptStep l (0, 0, zer11) ⟨1, [⟨0, 0, 255⟩]⟩) ⟨1, [⟨7, 7, 1⟩, ⟨10, 6, 1⟩]⟩) ⟨1, []⟩) ⟨1, [⟨8, 0, 255⟩]⟩ := rfl
  rw [e] at h ⊢
  obtain ⟨x8, e4, a4, b4, w4⟩ := st_full l ho _ 1 8 255 (.inl ⟨rfl, rfl⟩) h
  obtain ⟨e3, w3⟩ := st_none l ho _ 1 (.inl rfl) w4.er
  obtain ⟨a, t0, e2, ha, ht0, w2⟩ := st_fl2 l ho _ w3.er
  obtain ⟨x0, e1, a1, b1, w1⟩ := st_full l ho _ 1 0 255 (.inl ⟨rfl, rfl⟩) w2.er
  have n1 := w1.next (A := []) rfl
  rw [e1] at e2 w2
  have n2 := w2.next n1
  rw [e1, e2] at e3 w3
  have n3 := w3.next n2
  rw [e1, e2, e3] at e4 w4
  have n4 := w4.next n3
  rw [e1, e2, e3, e4]
  refine ⟨_, _, rfl, rfl, w4.le, fun t ht => ?_⟩
  have ht' : t = t0 := by
    rw [ht]
    rcases ht0 with rfl | rfl <;> rfl
  subst ht'
  clear ht e1 e2 e3 e4 w1 w2 w3 w4 n1 n2 n3
  refine ⟨?_, ?_, ?_, ?_⟩
  · simp [frmV, crt, cpa, cpas, clrP, clrF, zer11]
  · simp [witV, inP, inF, crt, cpa, cpas, zer11]
    omega
  · simp [hdV, hdP, cpa, cpas, orF, zer11] at n4 ⊢
    exact n4
  · simp [zer11, bit1 ha]; rfl
theorem hd_3 (l : List Int) (ho : Oct l) (h : (rdP l (cpa 3)).2.1 = 0) : ∃ at_ v, rdP l (cpa 3) = (at_, 0, v) ∧ HdOf 3 l at_ v := by
  have e : rdP l (cpa 3) = ptStep l (ptStep l (ptStep l (ptStep l (0, 0, zer11) ⟨1, [⟨0, 0, 255⟩]⟩) ⟨1, [⟨10, 7, 1⟩]⟩) ⟨1, [⟨8, 0, 255⟩]⟩) ⟨1, [⟨9, 0, 255⟩]⟩ := rfl
  rw [e] at h ⊢
  obtain ⟨x9, e4, a4, b4, w4⟩ := st_full l ho _ 1 9 255 (.inl ⟨rfl, rfl⟩) h
  obtain ⟨x8, e3, a3, b3, w3⟩ := st_full l ho _ 1 8 255 (.inl ⟨rfl, rfl⟩) w4.er
  obtain ⟨t0, e2, ht0, w2⟩ := st_fl3 l ho _ w3.er
  obtain ⟨x0, e1, a1, b1, w1⟩ := st_full l ho _ 1 0 255 (.inl ⟨rfl, rfl⟩) w2.er
  have n1 := w1.next (A := []) rfl
  rw [e1] at e2 w2
  have n2 := w2.next n1
  rw [e1, e2] at e3 w3
  have n3 := w3.next n2
  rw [e1, e2, e3] at e4 w4
  have n4 := w4.next n3
  rw [e1, e2, e3, e4]
  refine ⟨_, _, rfl, rfl, w4.le, fun t ht => ?_⟩
  have ht' : t = t0 := by
    rw [ht]
    rcases ht0 with rfl | rfl <;> rfl
  subst ht'
  clear ht e1 e2 e3 e4 w1 w2 w3 w4 n1 n2 n3
  refine ⟨?_, ?_, ?_, ?_⟩
  · simp [frmV, crt, cpa, cpas, clrP, clrF, zer11]
  · simp [witV, inP, inF, crt, cpa, cpas, zer11]
    omega
  · simp [hdV, hdP, cpa, cpas, orF, zer11] at n4 ⊢
    exact n4
  · simp [zer11]; rfl
theorem hd_of (k : Nat) (hk : k < 4) (l : List Int) (ho : Oct l) (h : (rdP l (cpa k)).2.1 = 0) : ∃ at_ v, rdP l (cpa k) = (at_, 0, v) ∧ HdOf k l at_ v := by
  have hk' : k = 0 ∨ k = 1 ∨ k = 2 ∨ k = 3 := by omega
  rcases hk' with rfl | rfl | rfl | rfl
  · exact hd_0 l ho h
  · exact hd_1 l ho h
  · exact hd_2 l ho h
  · exact hd_3 l ho h
theorem opE_0 {c : Int} {l : List Int} {at_ : Nat} {er : Int} (h : opE c l at_ er = 0) : er = 0 ∧ (dec 0 (l.drop at_)).2 = 0 ∧ allM c (dec 0 (l.drop at_)).1 = true ∧ opP l at_ er = (dec 0 (l.drop at_)).1 := by
  by_cases he : er = 0
  · subst he
    simp only [opE, opP, rst, if_true, spE] at h ⊢
    by_cases h5 : (dec 0 (l.drop at_)).2 = 0
    · simp only [h5, if_true] at h ⊢
      refine ⟨trivial, trivial, ?_, trivial⟩
      by_cases ha : allM c (dec 0 (l.drop at_)).1 = true
      · exact ha
      · rw [if_neg ha] at h; exact absurd h (by decide)
    · simp only [h5, if_false, if_true] at h
      simp [allM] at h
      exact absurd h h5
  · exfalso
    simp only [opE, opP, rst, if_neg he, spE] at h
    rw [dec_nil] at h
    simp [allM, he] at h
/-- What Decode answers without fault, Encode gives back. -/
theorem round_trip (k : Nat) (hk : k < 4) (l : List Int) (ho : Oct l) (hl : l.length ≤ 1280) (h : dcE k l = 0) : eE (dcM k l) = 0 ∧ eL (dcM k l) = l := by
  obtain ⟨h1, h2, h3, h4⟩ := opE_0 h
  have hE1 : (rdP l (cpa k)).2.1 = 0 := by
    rw [rdT] at h1
    split at h1
    · by_cases hh : rdE 1 16 (l.length - (rdP l (cpa k)).1) (rdP l (cpa k)).2.1 = 0
      · unfold rdE at hh
        split at hh
        · assumption
        · exact hh
      · exfalso
        revert h1
        simp only [adE, spE, if_neg hh]
        split <;> exact hh
    · exact h1
  obtain ⟨at_, v, hr, hd⟩ := hd_of k hk l ho hE1
  have hro : ∃ ro at3, rdT k l = (at3, 0, ro) ∧ thr ro = (if (crt k || v.getD 10 0 == 1) = true then 1 else 0) ∧ (if thr ro = 1 then ro else []) = (l.drop at_).take (at3 - at_) ∧ at_ ≤ at3 ∧ at3 ≤ l.length := by
    have hB : rdB k (rdP l (cpa k)) = (crt k || v.getD 10 0 == 1) := by rw [rdB, hr]
    have hT : rdT k l = if (crt k || v.getD 10 0 == 1) = true then (adA l at_ 0, adE l at_ 0, adR l at_ 0) else (at_, 0, zeros) := by rw [rdT, hB, hr]
    rw [hT] at h1 ⊢
    split
    · rename_i hb
      rw [if_pos hb] at h1
      have h1 : adE l at_ 0 = 0 := h1
      by_cases hz : adR l at_ 0 = zeros
      · exfalso
        simp only [adE, if_pos hz, spE] at h1
        split at h1
        · exact absurd h1 (by decide)
        · rename_i hn; exact hn h1
      · simp only [adE, if_neg hz] at h1
        obtain ⟨_, g1, g2⟩ : (0 : Int) = 0 ∧ 16 ≤ l.length - at_ ∧ rdN 1 16 (l.length - at_) 0 = 16 := by
          have h0 := h1
          unfold rdE at h1
          rw [if_pos rfl] at h1
          split at h1
          · exact absurd h1 (by decide)
          · split at h1
            · exact absurd h1 (by decide)
            · refine ⟨rfl, by omega, ?_⟩
              rw [rdN, if_pos h0]; rfl
        have hR : adR l at_ 0 = (l.drop at_).take 16 := by rw [adR, if_pos h1]
        have ht : thr (adR l at_ 0) = 1 := by rw [thr_1]; exact hz
        refine ⟨adR l at_ 0, adA l at_ 0, ?_, ht, ?_, ?_, ?_⟩
        · rw [adE, if_neg hz, h1]
        · rw [if_pos ht, hR, adA, g2]; congr 1; omega
        · rw [adA]; omega
        · rw [adA, g2]; omega
    · refine ⟨zeros, at_, rfl, rfl, ?_, Nat.le_refl _, hd.le⟩
      rw [if_neg (by decide)]; simp
  obtain ⟨ro, at3, hT, ht, hb, hle, hle3⟩ := hro
  obtain ⟨g1, g2, g3, g4⟩ := hd.good (thr ro) ht
  have h2' : (dec 0 (l.drop at3)).2 = 0 := by rw [hT] at h2; exact h2
  have h3' : allM k (dec 0 (l.drop at3)).1 = true := by rw [hT] at h3; exact h3
  have hP : dcP k l = (dec 0 (l.drop at3)).1 := by rw [dcP, h4, hT]
  obtain ⟨n1, n2⟩ := enc_of (l.drop at3) (fun x hx => ho x (List.mem_of_mem_drop hx)) (by rw [List.length_drop]; omega) h2'
  generalize (dec 0 (l.drop at3)).1 = P at *
  have hM : dcM k l = { (vm v k).p with ro := ro, o := P } := by rw [dcM, hP, hT, hr]
  have hvs : (dcM k l).vs = v.set 10 (thr ro) := by rw [hM, ← g4]; rfl
  have hc : (dcM k l).c = k := by rw [hM]; rfl
  have ho2 : (dcM k l).o = P := by rw [hM]
  have hro2 : (dcM k l).ro = ro := by rw [hM]
  have hck : chkM (dcM k l) = 0 := by
    have h0 : chk0M (dcM k l) = 0 := by
      rw [chk0M, hc, hvs, ho2, Int.toNat_natCast, if_pos (codB_nat hk), if_pos g1, if_pos g2, if_pos h3']
    rw [chkM, if_pos h0, ho2]; exact n1
  have hv10 : (v.set 10 (thr ro)).getD 10 0 = thr ro := by
    have := hd.len
    simp [List.getD_eq_getElem?_getD, List.getElem?_set, this]
  have hh : hdM (dcM k l) = l.take at3 := by
    rw [hdM, hvs, hc, hro2, Int.toNat_natCast, g3, hv10, hb]
    conv => rhs; rw [show at3 = at_ + (at3 - at_) by omega, List.take_add]
  have hall : hdM (dcM k l) ++ encsL (dcM k l).o = l := by rw [hh, ho2, n2, List.take_append_drop]
  have hE : eE (dcM k l) = 0 := by
    rw [eE, if_neg (by rw [hck]; simp), if_neg]
    have := congrArg List.length hall
    rw [List.length_append] at this
    omega
  exact ⟨hE, by rw [eL, if_pos hE]; exact hall⟩
theorem round_trip_any (code : Int) (l : List Int) (ho : Oct l) (hl : l.length ≤ 1280) (h : dE code l = 0) : eE (dM code l) = 0 ∧ eL (dM code l) = l := by
  unfold dE at h
  split at h
  · rename_i hc
    rw [dM, if_pos hc, if_pos h]
    obtain ⟨k, e, hk⟩ := cod_nat hc
    rw [e, Int.toNat_natCast] at h ⊢
    exact round_trip k hk l ho hl h
  · exact absurd h (by decide)
end Go.Proofs.YtbfjkhafdkhhmaaDoor
