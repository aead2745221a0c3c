/- Options: what is written is read, and what is read is written. -/
import Derived.Test.YtbgogeojdibmkaaDoorRnd
namespace Go.Proofs.YtbgogeojdibmkaaDoor
open Go.ChangeShapes Go.WideShapes Go.ChangeAt Go.RowKit Go.Deep
set_option linter.unusedVariables false
set_option linter.unusedSimpArgs false

theorem prt_any : ∀ k, k < 10 → (prt k).any (fun p => p.1 == 16) = hasA k ∧ ((prt k).filter (fun p => p.1 == 16)).length ≤ 1 := by decide
theorem prt_txb : ∀ k, k < 10 → txb k = true → prt k = [] ∧ hasA k = false ∧ zer k = false := by decide
theorem zer_hasA : ∀ k, k < 10 → zer k = true → hasA k = false ∧ txb k = false ∧ k = 1 := by decide
theorem anyN_zeros (n : Nat) : anyN (List.replicate n 0) = false := by simp [anyN]
theorem zeros_anyN (l : List Int) (h : anyN l = false) : l = List.replicate l.length 0 := by
  apply List.eq_replicate_iff.2
  refine ⟨rfl, fun x hx => ?_⟩
  simp [anyN] at h
  exact h x hx
theorem frm_parts {k : Nat} {o : Po} (h : frmB k o = true) : o.n.length = (nmb (prt k)).length ∧ (o.ad = zeros ∨ hasA k = true) ∧ (o.t = [] ∨ txb k = true) := by
  simp only [frmB, Bool.and_eq_true, Bool.or_eq_true, beq_iff_eq] at h
  exact ⟨h.1, h.2.1, h.2.2.imp List.eq_nil_of_length_eq_zero id⟩
/-- What is behind the length, read. -/
theorem fil_con {o : Po} {k : Nat} (hk : k < 10) (hok : o.k = k) (h : chkP o = 0) (ha : o.ad.length = 16) : filE k (conP k o) 0 = 0 ∧ filP k (conP k o) 0 = o := by
  obtain ⟨h1, h2, h3, h4⟩ := chk0 h
  rw [hok, Int.toNat_natCast] at h2 h3
  obtain ⟨f1, f2, f3⟩ := frm_parts h2
  obtain ⟨ok, on, oad, ot⟩ := o
  simp only at *
  subst hok
  cases hz : zer k
  · cases ht : txb k
    · have hT : ot = [] := by rcases f3 with e | e; · exact e
                              · rw [ht] at e; cases e
      subst hT
      have hc : conP k ⟨k, on, oad, []⟩ = partsB (prt k) on oad := by rw [conP, hz]; simp
      have hs := partsB_length (prt k) (fun p hp => (prt_sizes k hk p hp).imp id (·.1)) on oad ha
      have hf := fold_parts (prt k) (prt_sizes k hk) [] on oad [] zeros [] f1 h3 ha
      simp only [List.nil_append, List.append_nil, List.length_nil, Nat.zero_add] at hf
      have hst : stps (partsB (prt k) on oad) (prt k) = ((partsB (prt k) on oad).length, on, oad) := by
        rw [stps, hf, (prt_any k hk).1]
        rcases f2 with e | e
        · rw [e]; simp
        · rw [e]; simp
      rw [hc]
      refine ⟨?_, ?_⟩
      · simp [filE, hz, ht, hs]
      · simp [filP, hz, ht, hs, hst]
    · obtain ⟨g1, g2, _⟩ := prt_txb k hk ht
      have hA : oad = zeros := by rcases f2 with e | e; · exact e
                                  · rw [g2] at e; cases e
      have hN : on = [] := List.eq_nil_of_length_eq_zero (by rw [f1, g1]; rfl)
      subst hA hN
      have hc : conP k ⟨k, [], zeros, ot⟩ = ot := by rw [conP, hz, g1]; simp [partsB]
      rw [hc]
      exact ⟨by simp [filE, hz, ht], by simp [filP, hz, ht]⟩
  · obtain ⟨g1, g2, rfl⟩ := zer_hasA k hk hz
    have hA : oad = zeros := by rcases f2 with e | e; · exact e
                                · rw [g1] at e; cases e
    have hT : ot = [] := by rcases f3 with e | e; · exact e
                            · rw [g2] at e; cases e
    obtain ⟨m, hm, _⟩ := pads_num f1 h3
    subst hA hT hm
    have hc : conP 1 ⟨((1 : Nat) : Int), [(m : Int)], zeros, []⟩ = List.replicate m 0 := by rw [conP, hz]; simp
    rw [hc]
    refine ⟨by simp [filE, hz, zerE, anyN_zeros], by simp [filP, hz]⟩
/-- One option, read. -/
theorem nx_enc (n : Nat) (o : Po) (rest : List Int) (hn : n ≠ 16) (h : chkP o = 0) (ha : o.ad.length = 16) : nxE n (encP o ++ rest) = 0 ∧ nxP (encP o ++ rest) = o ∧ nxN (encP o ++ rest) = (encP o).length := by
  obtain ⟨h1, h2, h3, h4⟩ := chk0 h
  obtain ⟨k, hk, hk10⟩ := knd_nat h1
  by_cases h0 : k = 0
  · subst h0
    have hk : o.k = 0 := hk
    have e : encP o = [0] := by rw [encP, if_pos hk]
    rw [hk] at h2 h3
    obtain ⟨f1, f2, f3⟩ := frm_parts h2
    obtain ⟨ok, on, oad, ot⟩ := o
    simp only at *
    have hN : on = [] := List.eq_nil_of_length_eq_zero (by rw [f1]; rfl)
    have hA : oad = zeros := by rcases f2 with e | e; · exact e
                                · cases e
    have hT : ot = [] := by rcases f3 with e | e; · exact e
                            · cases e
    subst hN hA hT hk
    rw [e]
    obtain ⟨p1, p2, p3⟩ := nx_pad rest
    exact ⟨nxE_pad n rest hn, p2, p3⟩
  · have e : encP o = (k : Int) :: ((conP k o).length : Int) :: conP k o := by rw [encP, hk, if_neg (by omega), Int.toNat_natCast]
    obtain ⟨q1, q2⟩ := fil_con hk10 hk h ha
    have hlen := conP_le hk10 hk h ha
    obtain ⟨e1, e2, e3⟩ := nxE_long n k ((conP k o).length : Int) (conP k o ++ rest) hn hk10 h0 (by omega) (by simp; omega)
    rw [Int.toNat_natCast, List.take_left' rfl] at e1 e2
    rw [e]
    refine ⟨?_, ?_, ?_⟩
    · rw [List.cons_append, List.cons_append, e1, q1, q2, h]; rfl
    · rw [List.cons_append, List.cons_append, e2, q2]
    · rw [List.cons_append, List.cons_append, e3]; simp; omega
theorem encP_ne (o : Po) : encP o ≠ [] := by unfold encP; split <;> simp
/-- Options that are right, read. -/
theorem dec_enc (L : List Po) : ∀ n, n + L.length ≤ 16 → (∀ o ∈ L, chkP o = 0 ∧ o.ad.length = 16) → dec n (encs L) = (L, 0) := by
  induction L with
  | nil => intro n _ _; exact dec_nil n
  | cons o L ih =>
    intro n hn h
    obtain ⟨h1, h2⟩ := h o (by simp)
    rw [List.length_cons] at hn
    have e : encs (o :: L) = encP o ++ encs L := by simp [encs]
    obtain ⟨e1, e2, e3⟩ := nx_enc n o (encs L) (by omega) h1 h2
    rw [e, dec_ok (by simp [encP_ne]) e1, e2, e3, List.drop_left' rfl, ih (n + 1) (by omega) (fun x hx => h x (by simp [hx]))]
theorem bad_all {L : List Po} (h : bad L = 0) : ∀ o ∈ L, chkP o = 0 := by
  induction L with
  | nil => intro o ho; cases ho
  | cons p L ih =>
    rw [bad] at h
    split at h
    · rename_i hc
      intro o ho
      rcases List.mem_cons.1 ho with e | e
      · rw [e]; exact hc
      · exact ih h o e
    · rename_i hc; exact absurd h hc
theorem bad_of {L : List Po} (h : ∀ o ∈ L, chkP o = 0) : bad L = 0 := by
  induction L with
  | nil => rfl
  | cons p L ih => rw [bad, if_pos (h p (by simp))]; exact ih (fun o ho => h o (by simp [ho]))
theorem encE_0 {L : List Po} (h : encE L = 0) : L.length ≤ 16 ∧ (∀ o ∈ L, chkP o = 0) ∧ (encs L).length ≤ 1280 := by
  unfold encE at h
  split at h
  · cases h
  · split at h
    · rename_i h2; exact absurd h h2
    · rename_i h2
      split at h
      · cases h
      · exact ⟨by omega, bad_all (by simpa using h2), by omega⟩
theorem dec_of {L : List Po} (h : encE L = 0) (ha : ∀ o ∈ L, o.ad.length = 16) : dec 0 (encL L) = (L, 0) := by
  obtain ⟨h1, h2, h3⟩ := encE_0 h
  rw [encL, if_pos h]
  exact dec_enc L 0 (by omega) (fun o ho => ⟨h2 o ho, ha o ho⟩)
/-- What is behind the length, written. -/
theorem con_fil {k : Nat} (hk : k < 10) (l : List Int) (ho : Oct l) (h : filE k l 0 = 0) : conP k (filP k l 0) = l ∧ (filP k l 0).k = k := by
  cases hz : zer k
  · cases ht : txb k
    · by_cases hs : sumP (prt k) = l.length
      · have hP : filP k l 0 = ⟨k, (stps l (prt k)).2.1, (stps l (prt k)).2.2, []⟩ := by simp [filP, hz, ht, hs]
        obtain ⟨_, n', e1, e2, e3⟩ := fold_back l ho (prt k) (prt_all k hk).1 (prt_any k hk).2 0 [] zeros (by omega)
        rw [List.nil_append] at e1
        rw [hP]
        refine ⟨?_, rfl⟩
        rw [conP, hz, if_neg (by simp), List.append_nil, stps, e1, e3, hs, List.drop_zero, Int.toNat_natCast, List.take_length]
      · simp [filE, hz, ht, hs] at h
    · obtain ⟨g1, _, _⟩ := prt_txb k hk ht
      have hP : filP k l 0 = ⟨k, [], zeros, l⟩ := by simp [filP, hz, ht]
      rw [hP]
      exact ⟨by rw [conP, hz, g1]; simp [partsB], rfl⟩
  · have hP : filP k l 0 = ⟨k, [(l.length : Int)], zeros, []⟩ := by simp [filP, hz]
    have hA : anyN l = false := by
      cases hx : anyN l
      · rfl
      · simp [filE, hz, zerE, hx] at h
    rw [hP]
    refine ⟨?_, rfl⟩
    rw [conP, hz]
    simp only [List.getD_cons_zero, Int.toNat_natCast, if_true]
    exact (zeros_anyN l hA).symm
theorem spE_both {a b : Int} (h : spE a b = 0) : a = 0 ∧ b = 0 := by
  unfold spE at h
  split at h
  · rename_i e; exact ⟨e, h⟩
  · rename_i e; exact absurd h e
/-- One option, written. -/
theorem enc_nx (n : Nat) (m : List Int) (hm : m ≠ []) (ho : Oct m) (h : nxE n m = 0) : encP (nxP m) = m.take (nxN m) ∧ chkP (nxP m) = 0 ∧ n ≠ 16 := by
  have hn : n ≠ 16 := fun e => by rw [e, nxE_full] at h; cases h
  have hkb : kndB (nxK m) = true := by
    cases hx : kndB (nxK m)
    · rw [nxE_kind n m hn hx] at h; cases h
    · rfl
  obtain ⟨k, hk, hk10⟩ := knd_nat hkb
  match m, hm with
  | x :: t, _ =>
    rw [nxK_cons] at hk
    subst hk
    by_cases h0 : k = 0
    · subst h0
      obtain ⟨p1, p2, p3⟩ := nx_pad t
      have e0 : ((0 : Nat) : Int) :: t = 0 :: t := rfl
      rw [e0, p2, p3]
      exact ⟨rfl, chk_pad, hn⟩
    · match t with
      | [] => rw [nxE_cut n k _ hn hk10 h0 (nxK_cons _ _) (nx_none _)] at h; cases h
      | y :: t =>
        have hy := ho y (by simp)
        by_cases hl : y ≤ t.length
        · obtain ⟨e1, e2, e3⟩ := nxE_long n k y t hn hk10 h0 hy.1 hl
          rw [e1] at h
          obtain ⟨h1, h2⟩ := spE_both h
          have hoc : Oct (t.take y.toNat) := fun z hz => ho z (by have := List.mem_of_mem_take hz; simp [this])
          obtain ⟨c1, c2⟩ := con_fil hk10 _ hoc h1
          rw [e2, e3]
          refine ⟨?_, h2, hn⟩
          rw [encP, c2, if_neg (by omega), Int.toNat_natCast, c1]
          have hlen : ((t.take y.toNat).length : Int) = y := by rw [List.length_take]; omega
          rw [hlen, Nat.add_comm 2]
          simp
        · rw [nxE_cut n k _ hn hk10 h0 (nxK_cons _ _) (nx_cut _ _ _ hy.1 (by omega))] at h; cases h
theorem enc_dec : ∀ (f : Nat) (n : Nat) (m : List Int), m.length ≤ f → n ≤ 16 → Oct m → (dec n m).2 = 0 → encs (dec n m).1 = m ∧ n + (dec n m).1.length ≤ 16 ∧ ∀ o ∈ (dec n m).1, chkP o = 0 := by
  intro f
  induction f with
  | zero =>
    intro n m hf hn ho h
    have : m = [] := List.eq_nil_of_length_eq_zero (by omega)
    subst this
    rw [dec_nil]
    exact ⟨rfl, by simpa using hn, fun o ho => by cases ho⟩
  | succ f ih =>
    intro n m hf hn ho h
    by_cases hm : m = []
    · subst hm
      rw [dec_nil]
      exact ⟨rfl, by simpa using hn, fun o ho => by cases ho⟩
    · by_cases hE : nxE n m = 0
      · obtain ⟨e1, e2, e3⟩ := enc_nx n m hm ho hE
        rw [dec_ok hm hE] at h ⊢
        have hp := nxN_pos m
        have hml : 0 < m.length := List.length_pos_iff.2 hm
        obtain ⟨i1, i2, i3⟩ := ih (n + 1) (m.drop (nxN m)) (by rw [List.length_drop]; omega) (by omega) (fun x hx => ho x (List.mem_of_mem_drop hx)) h
        refine ⟨?_, ?_, ?_⟩
        · have : encs (nxP m :: (dec (n + 1) (m.drop (nxN m))).1) = encP (nxP m) ++ encs (dec (n + 1) (m.drop (nxN m))).1 := by simp [encs]
          rw [this, i1, e1, List.take_append_drop]
        · rw [List.length_cons]; omega
        · intro o ho'
          rcases List.mem_cons.1 ho' with e | e
          · rw [e]; exact e2
          · exact i3 o e
      · rw [dec_bad hm hE] at h
        exact absurd h hE
theorem enc_of (m : List Int) (ho : Oct m) (hl : m.length ≤ 1280) (h : (dec 0 m).2 = 0) : encE (dec 0 m).1 = 0 ∧ encL (dec 0 m).1 = m := by
  obtain ⟨h1, h2, h3⟩ := enc_dec m.length 0 m (Nat.le_refl _) (by omega) ho h
  have : encE (dec 0 m).1 = 0 := by
    rw [encE, if_neg (by omega), if_neg (by rw [bad_of h3]; simp), h1, if_neg (by omega)]
  exact ⟨this, by rw [encL, if_pos this, h1]⟩
end Go.Proofs.YtbgogeojdibmkaaDoor
