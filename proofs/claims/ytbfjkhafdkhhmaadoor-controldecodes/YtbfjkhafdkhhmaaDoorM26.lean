/- Reading what was written, and writing what was read: no program. · Options: what is written is read, and what is read is written. · The document's body: where it stands; no program. · The document's body: what it answers. -/
import Derived.Test.YtbfjkhafdkhhmaaDoorM15
import Derived.Test.YtbfjkhafdkhhmaaDoorM5
import Derived.Test.YtbfjkhafdkhhmaaDoorM23
import Derived.Test.YtbfjkhafdkhhmaaDoorM20
import Derived.Test.YtbfjkhafdkhhmaaDoorM18
namespace Go.Proofs.YtbfjkhafdkhhmaaDoor
open Go.ChangeShapes Go.WideShapes Go.ChangeAt Go.RowKit Go.Deep
set_option linter.unusedVariables false
set_option linter.unusedSimpArgs false

theorem numOf_digs (size n : Int) (hz : sizeB size = true) (h : okB size n = true) : numOf (digs size n) = n := by
  rcases sizeB_cases hz with e | e | e <;> subst e <;> simp [okB, top] at h <;> simp [digs, numOf] <;> omega
theorem digs_numOf (size : Int) (l : List Int) (hz : sizeB size = true) (hl : l.length = size.toNat) (ho : Oct l) : digs size (numOf l) = l := by
  rcases sizeB_cases hz with e | e | e <;> subst e
  · match l, hl with
    | [a], _ => have h1 := ho a (by simp); simp [digs, numOf]; omega
  · match l, hl with
    | [a, b], _ => have h1 := ho a (by simp); have h2 := ho b (by simp); simp [digs, numOf]; omega
  · match l, hl with
    | [a, b, c, d], _ => have h1 := ho a (by simp); have h2 := ho b (by simp); have h3 := ho c (by simp); have h4 := ho d (by simp); simp [digs, numOf]; omega
theorem widB_cons (q : Int × Int) (P : List (Int × Int)) (x : Int) (n : List Int) : widB (q :: P) (x :: n) = (inB q x && widB P n) := by
  unfold widB
  rw [List.length_cons, List.range_succ_eq_map]
  simp [List.all_map, Function.comp_def]
/-- Reading what was written. -/
theorem fold_parts (P : List (Int × Int)) : (∀ p ∈ P, (p.1 == 16) = true ∨ (sizeB p.1 = true ∧ p.2 < top p.1)) → ∀ (pre n ad N A post : List Int), n.length = (nmb P).length → widB (nmb P) n = true → ad.length = 16 →
    P.foldl (stp (pre ++ (partsB P n ad ++ post))) (pre.length, N, A) = (pre.length + (partsB P n ad).length, N ++ n, if P.any (fun p => p.1 == 16) = true then ad else A) := by
  induction P with
  | nil =>
    intro _ pre n ad N A post hn _ _
    have : n = [] := List.eq_nil_of_length_eq_zero hn
    subst this
    simp [partsB]
  | cons q P ih =>
    intro hP pre n ad N A post hn hw ha
    have hP' : ∀ p ∈ P, (p.1 == 16) = true ∨ (sizeB p.1 = true ∧ p.2 < top p.1) := fun p hp => hP p (by simp [hp])
    by_cases h16 : (q.1 == 16) = true
    · have hnm : nmb (q :: P) = nmb P := by simp [nmb, h16]
      rw [hnm] at hn hw
      have hp : partsB (q :: P) n ad = ad ++ partsB P n ad := by rw [partsB, if_pos h16]
      have hs : stp (pre ++ (ad ++ partsB P n ad ++ post)) (pre.length, N, A) q = ((pre ++ ad).length, N, ad) := by
        rw [stp, if_pos h16]
        simp [ha]
      have he : pre ++ (ad ++ partsB P n ad ++ post) = (pre ++ ad) ++ (partsB P n ad ++ post) := by simp
      rw [hp, List.foldl_cons, hs, he, ih hP' (pre ++ ad) n ad N ad post hn hw ha]
      simp [h16, Nat.add_assoc]
    · have hnm : nmb (q :: P) = q :: nmb P := by simp [nmb, h16]
      rw [hnm] at hn hw
      match n, hn with
      | x :: n, hn =>
        rw [widB_cons, Bool.and_eq_true] at hw
        obtain ⟨hi, hw⟩ := hw
        obtain ⟨hz, ht⟩ : sizeB q.1 = true ∧ q.2 < top q.1 := (hP q (by simp)).resolve_left h16
        have hok : okB q.1 x = true := by simp [inB] at hi; simp [okB]; omega
        have hp : partsB (q :: P) (x :: n) ad = digs q.1 x ++ partsB P n ad := by rw [partsB, if_neg h16]; rfl
        have hdl := digs_length q.1 x hz
        have hs : stp (pre ++ (digs q.1 x ++ partsB P n ad ++ post)) (pre.length, N, A) q = ((pre ++ digs q.1 x).length, N ++ [x], A) := by
          rw [stp, if_neg h16]
          simp [hdl, List.take_left' hdl, numOf_digs q.1 x hz hok]
        have he : pre ++ (digs q.1 x ++ partsB P n ad ++ post) = (pre ++ digs q.1 x) ++ (partsB P n ad ++ post) := by simp
        rw [hp, List.foldl_cons, hs, he, ih hP' (pre ++ digs q.1 x) n ad (N ++ [x]) A post (by simpa using hn) hw ha]
        have h16' : (q.1 == 16) = false := by simpa using h16
        simp only [List.any_cons, h16', Bool.false_or, List.length_append, List.append_assoc, Nat.add_assoc, List.cons_append, List.nil_append]
theorem keepA (l : List Int) (P : List (Int × Int)) (h : ∀ p ∈ P, (p.1 == 16) = false) : ∀ s : Nat × List Int × List Int, (P.foldl (stp l) s).2.2 = s.2.2 := by
  induction P with
  | nil => intro s; rfl
  | cons q P ih =>
    intro s
    rw [List.foldl_cons, ih (fun p hp => h p (by simp [hp])), stp, if_neg (by rw [h q (by simp)]; simp)]
theorem sumP_cons (q : Int × Int) (P : List (Int × Int)) : sumP (q :: P) = q.1 + sumP P := by simp [sumP]
/-- Writing what was read. -/
theorem fold_back (l : List Int) (ho : Oct l) (P : List (Int × Int)) : (∀ p ∈ P, (p.1 == 16) = true ∨ sizeB p.1 = true) → (P.filter (fun p => p.1 == 16)).length ≤ 1 → ∀ (s : Nat) (N A : List Int), (s : Int) + sumP P ≤ l.length →
    0 ≤ sumP P ∧ ∃ n', (P.foldl (stp l) (s, N, A)).2.1 = N ++ n' ∧ n'.length = (nmb P).length ∧ partsB P n' (P.foldl (stp l) (s, N, A)).2.2 = (l.drop s).take (sumP P).toNat := by
  induction P with
  | nil => intro _ _ s N A _; exact ⟨by simp [sumP], [], by simp, by simp [nmb], by simp [partsB, sumP]⟩
  | cons q P ih =>
    intro hP h1 s N A hs
    have hP' : ∀ p ∈ P, (p.1 == 16) = true ∨ sizeB p.1 = true := fun p hp => hP p (by simp [hp])
    rw [sumP_cons] at hs
    by_cases h16 : (q.1 == 16) = true
    · have hq : q.1 = 16 := by simpa using h16
      rw [List.filter_cons, if_pos h16, List.length_cons] at h1
      have hno : ∀ p ∈ P, (p.1 == 16) = false := by
        intro p hp
        cases hx : (p.1 == 16)
        · rfl
        · have := List.length_pos_of_mem (List.mem_filter (p := fun p : Int × Int => p.1 == 16).2 ⟨hp, hx⟩); omega
      have hst : stp l (s, N, A) q = (s + 16, N, (l.drop s).take 16) := by rw [stp, if_pos h16]
      obtain ⟨h0, n', e1, e2, e3⟩ := ih hP' (by omega) (s + 16) N ((l.drop s).take 16) (by omega)
      refine ⟨by rw [sumP_cons]; omega, n', by rw [List.foldl_cons, hst, e1], by rw [e2]; simp [nmb, h16], ?_⟩
      rw [List.foldl_cons, hst, partsB, if_pos h16, e3, keepA l P hno, sumP_cons]
      have e4 : (q.1 + sumP P).toNat = 16 + (sumP P).toNat := by omega
      rw [e4, List.take_add, List.drop_drop]
    · have hz : sizeB q.1 = true := (hP q (by simp)).resolve_left h16
      have hq : 0 ≤ q.1 := by rcases sizeB_cases hz with e | e | e <;> omega
      rw [List.filter_cons, if_neg h16] at h1
      have hst : stp l (s, N, A) q = (s + q.1.toNat, N ++ [numOf ((l.drop s).take q.1.toNat)], A) := by rw [stp, if_neg h16]
      have h0' : 0 ≤ sumP P := by
        have : ∀ P : List (Int × Int), (∀ p ∈ P, (p.1 == 16) = true ∨ sizeB p.1 = true) → 0 ≤ sumP P := by
          intro P
          induction P with
          | nil => intro _; simp [sumP]
          | cons r R ihR =>
            intro h
            rw [sumP_cons]
            have := ihR (fun p hp => h p (by simp [hp]))
            rcases h r (by simp) with e | e
            · have : r.1 = 16 := by simpa using e
              omega
            · rcases sizeB_cases e with e | e | e <;> omega
        exact this P hP'
      obtain ⟨h0, n', e1, e2, e3⟩ := ih hP' h1 (s + q.1.toNat) (N ++ [numOf ((l.drop s).take q.1.toNat)]) A (by omega)
      refine ⟨by rw [sumP_cons]; omega, numOf ((l.drop s).take q.1.toNat) :: n', by rw [List.foldl_cons, hst, e1]; simp, by simp [nmb, h16]; exact e2, ?_⟩
      have hd : digs q.1 (numOf ((l.drop s).take q.1.toNat)) = (l.drop s).take q.1.toNat := digs_numOf q.1 _ hz (by rw [List.length_take, List.length_drop]; omega) (ho.cut _ _)
      rw [List.foldl_cons, hst, partsB, if_neg h16, List.headD_cons, List.tail_cons, e3, hd, sumP_cons]
      have e4 : (q.1 + sumP P).toNat = q.1.toNat + (sumP P).toNat := by omega
      rw [e4, List.take_add, List.drop_drop]
/-- What the first bytes say. -/
theorem nx_pad (t : List Int) : nxK (0 :: t) = 0 ∧ nxP (0 :: t) = ⟨0, [], zeros, []⟩ ∧ nxN (0 :: t) = 1 := by
  have h : nxK (0 :: t) = 0 := by simp [nxK, numOf]
  exact ⟨h, by rw [nxP, if_pos h], by rw [nxN, if_pos h]⟩
theorem chk_pad : chkP ⟨0, [], zeros, []⟩ = 0 := by decide
theorem nxE_pad (n : Nat) (t : List Int) (hn : n ≠ 16) : nxE n (0 :: t) = 0 := by
  obtain ⟨h1, h2, _⟩ := nx_pad t
  rw [nxE, if_neg hn, h1, if_neg (by decide), if_pos rfl, h2, chk_pad]
theorem nxK_cons (x : Int) (t : List Int) : nxK (x :: t) = x := by simp [nxK, numOf]
theorem rd1 (n : Nat) : rdE 1 1 (n + 1) 0 = 0 ∧ rdN 1 1 (n + 1) 0 = 1 := by
  have h : rdE 1 1 (n + 1) 0 = 0 := by
    unfold rdE
    have hz : sizeB 1 = true := by decide
    rw [if_pos rfl, if_neg (by rw [hz]; simp), if_neg (by omega)]
  exact ⟨h, by rw [rdN, if_pos h]; rfl⟩
theorem nx_two (x y : Int) (t : List Int) : nxL (x :: y :: t) = y ∧ nxE1 (x :: y :: t) = 0 ∧ rdN 1 1 ((x :: y :: t).length - 1) 0 = 1 := by
  have e : (x :: y :: t).length - 1 = t.length + 1 := by simp
  obtain ⟨h1, h2⟩ := rd1 t.length
  refine ⟨?_, by rw [nxE1, e, h1], by rw [e, h2]⟩
  rw [nxL, takeV, e, h2]; simp [numOf]
theorem nx_long (x y : Int) (t : List Int) (hy : 0 ≤ y) (h : y ≤ t.length) : nxE2 (x :: y :: t) = 0 ∧ nxN2 (x :: y :: t) = y.toNat ∧ nxC (x :: y :: t) = t.take y.toNat ∧ nxN' (x :: y :: t) = 2 + y.toNat := by
  obtain ⟨h1, h2, h3⟩ := nx_two x y t
  have e : (x :: y :: t).length - (1 + 1) = t.length := by simp
  have hz : sizeB 1 = true := by decide
  have hE : rdE 1 y t.length 0 = 0 := by rw [rdE, if_pos rfl, if_neg (by rw [hz]; simp; omega), if_neg (by omega)]
  have hN : rdN 1 y t.length 0 = y.toNat := by rw [rdN, if_pos hE]; simp
  refine ⟨by rw [nxE2, h3, h1, h2, e, hE], by rw [nxN2, h3, h1, h2, e, hN], ?_, ?_⟩
  · rw [nxC, nxN2, h3, h1, h2, e, hN]; rfl
  · rw [nxN', nxN2, h3, h1, h2, e, hN]
theorem nx_cut (x y : Int) (t : List Int) (hy : 0 ≤ y) (h : (t.length : Int) < y) : nxE2 (x :: y :: t) = 4 := by
  obtain ⟨h1, h2, h3⟩ := nx_two x y t
  have e : (x :: y :: t).length - (1 + 1) = t.length := by simp
  have hz : sizeB 1 = true := by decide
  rw [nxE2, h3, h1, h2, e, rdE, if_pos rfl, if_neg (by rw [hz]; simp; omega), if_pos (by omega)]
theorem nx_none (x : Int) : nxE2 [x] = 4 := by
  have : nxE1 [x] = 4 := (by decide : rdE 1 1 0 0 = 4)
  rw [nxE2, this, rdE, if_neg (by decide)]
theorem spE_0 (e : Int) : spE 0 e = e := by simp [spE]
theorem spE_4 (e : Int) : spE 4 e = 4 := by simp [spE]
theorem nxE_long (n : Nat) (k : Nat) (y : Int) (t : List Int) (hn : n ≠ 16) (hk : k < 10) (hk0 : k ≠ 0) (hy : 0 ≤ y) (h : y ≤ t.length) :
    nxE n ((k : Int) :: y :: t) = spE (filE k (t.take y.toNat) 0) (chkP (filP k (t.take y.toNat) 0)) ∧ nxP ((k : Int) :: y :: t) = filP k (t.take y.toNat) 0 ∧ nxN ((k : Int) :: y :: t) = 2 + y.toNat := by
  obtain ⟨h1, h2, h3, h4⟩ := nx_long k y t hy h
  have hb : kndB (k : Int) = true := by simp [kndB]; omega
  have hne : ¬ ((k : Int) = 0) := by omega
  have hP : nxP ((k : Int) :: y :: t) = filP k (t.take y.toNat) 0 := by rw [nxP, nxK_cons, if_neg hne, h3, h1, Int.toNat_natCast]
  refine ⟨?_, hP, by rw [nxN, nxK_cons, if_neg hne, ← nxN', h4]⟩
  rw [nxE, if_neg hn, nxK_cons, hb, if_neg (by decide), if_neg hne, hP, h3, h1, Int.toNat_natCast, spE_0]
theorem nxE_cut (n : Nat) (k : Nat) (m : List Int) (hn : n ≠ 16) (hk : k < 10) (hk0 : k ≠ 0) (hm : nxK m = k) (h : nxE2 m = 4) : nxE n m = 4 := by
  have hb : kndB (k : Int) = true := by simp [kndB]; omega
  have hne : ¬ ((k : Int) = 0) := by omega
  rw [nxE, if_neg hn, hm, hb, if_neg (by decide), if_neg hne, h, spE_4, spE_4]
theorem nxE_kind (n : Nat) (m : List Int) (hn : n ≠ 16) (h : kndB (nxK m) = false) : nxE n m = 6 := by rw [nxE, if_neg hn, if_pos h]
theorem nxE_full (m : List Int) : nxE 16 m = 2 := by rw [nxE, if_pos rfl]
end Go.Proofs.YtbfjkhafdkhhmaaDoor

namespace Go.Proofs.YtbfjkhafdkhhmaaDoor
open Go.ChangeShapes Go.WideShapes Go.ChangeAt Go.RowKit Go.Deep
set_option linter.unusedVariables false
set_option linter.unusedSimpArgs false

theorem prt_any : ∀ k, k < 10 → (prt k).any (fun p => p.1 == 16) = hasA k ∧ ((prt k).filter (fun p => p.1 == 16)).length ≤ 1 := by decide
theorem prt_txb : ∀ k, k < 10 → txb k = true → prt k = [] ∧ hasA k = false ∧ zer k = false := by decide
theorem zer_hasA : ∀ k, k < 10 → zer k = true → hasA k = false ∧ txb k = false ∧ k = 1 := by decide
theorem anyN_zeros (n : Nat) : anyN (List.replicate n 0) = false := by simp [anyN]
theorem zeros_anyN (l : List Int) (h : anyN l = false) : l = List.replicate l.length 0 := by
  apply List.eq_replicate_iff.2
  refine ⟨rfl, fun x hx => ?_⟩
  simp [anyN] at h
  exact h x hx
theorem frm_parts {k : Nat} {o : Po} (h : frmB k o = true) : o.n.length = (nmb (prt k)).length ∧ (o.ad = zeros ∨ hasA k = true) ∧ (o.t = [] ∨ txb k = true) := by
  simp only [frmB, Bool.and_eq_true, Bool.or_eq_true, beq_iff_eq] at h
  exact ⟨h.1, h.2.1, h.2.2.imp List.eq_nil_of_length_eq_zero id⟩
/-- What is behind the length, read. -/
theorem fil_con {o : Po} {k : Nat} (hk : k < 10) (hok : o.k = k) (h : chkP o = 0) (ha : o.ad.length = 16) : filE k (conP k o) 0 = 0 ∧ filP k (conP k o) 0 = o := by
  obtain ⟨h1, h2, h3, h4⟩ := chk0 h
  rw [hok, Int.toNat_natCast] at h2 h3
  obtain ⟨f1, f2, f3⟩ := frm_parts h2
  obtain ⟨ok, on, oad, ot⟩ := o
  simp only at *
  subst hok
  cases hz : zer k
  · cases ht : txb k
    · have hT : ot = [] := by rcases f3 with e | e; · exact e
                              · rw [ht] at e; cases e
      subst hT
      have hc : conP k ⟨k, on, oad, []⟩ = partsB (prt k) on oad := by rw [conP, hz]; simp
      have hs := partsB_length (prt k) (fun p hp => (prt_sizes k hk p hp).imp id (·.1)) on oad ha
      have hf := fold_parts (prt k) (prt_sizes k hk) [] on oad [] zeros [] f1 h3 ha
      simp only [List.nil_append, List.append_nil, List.length_nil, Nat.zero_add] at hf
      have hst : stps (partsB (prt k) on oad) (prt k) = ((partsB (prt k) on oad).length, on, oad) := by
        rw [stps, hf, (prt_any k hk).1]
        rcases f2 with e | e
        · rw [e]; simp
        · rw [e]; simp
      rw [hc]
      refine ⟨?_, ?_⟩
      · simp [filE, hz, ht, hs]
      · simp [filP, hz, ht, hs, hst]
    · obtain ⟨g1, g2, _⟩ := prt_txb k hk ht
      have hA : oad = zeros := by rcases f2 with e | e; · exact e
                                  · rw [g2] at e; cases e
      have hN : on = [] := List.eq_nil_of_length_eq_zero (by rw [f1, g1]; rfl)
      subst hA hN
      have hc : conP k ⟨k, [], zeros, ot⟩ = ot := by rw [conP, hz, g1]; simp [partsB]
      rw [hc]
      exact ⟨by simp [filE, hz, ht], by simp [filP, hz, ht]⟩
  · obtain ⟨g1, g2, rfl⟩ := zer_hasA k hk hz
    have hA : oad = zeros := by rcases f2 with e | e; · exact e
                                · rw [g1] at e; cases e
    have hT : ot = [] := by rcases f3 with e | e; · exact e
                            · rw [g2] at e; cases e
    obtain ⟨m, hm, _⟩ := pads_num f1 h3
    subst hA hT hm
    have hc : conP 1 ⟨((1 : Nat) : Int), [(m : Int)], zeros, []⟩ = List.replicate m 0 := by rw [conP, hz]; simp
    rw [hc]
    refine ⟨by simp [filE, hz, zerE, anyN_zeros], by simp [filP, hz]⟩
/-- One option, read. -/
theorem nx_enc (n : Nat) (o : Po) (rest : List Int) (hn : n ≠ 16) (h : chkP o = 0) (ha : o.ad.length = 16) : nxE n (encP o ++ rest) = 0 ∧ nxP (encP o ++ rest) = o ∧ nxN (encP o ++ rest) = (encP o).length := by
  obtain ⟨h1, h2, h3, h4⟩ := chk0 h
  obtain ⟨k, hk, hk10⟩ := knd_nat h1
  by_cases h0 : k = 0
  · subst h0
    have hk : o.k = 0 := hk
    have e : encP o = [0] := by rw [encP, if_pos hk]
    rw [hk] at h2 h3
    obtain ⟨f1, f2, f3⟩ := frm_parts h2
    obtain ⟨ok, on, oad, ot⟩ := o
    simp only at *
    have hN : on = [] := List.eq_nil_of_length_eq_zero (by rw [f1]; rfl)
    have hA : oad = zeros := by rcases f2 with e | e; · exact e
                                · cases e
    have hT : ot = [] := by rcases f3 with e | e; · exact e
                            · cases e
    subst hN hA hT hk
    rw [e]
    obtain ⟨p1, p2, p3⟩ := nx_pad rest
    exact ⟨nxE_pad n rest hn, p2, p3⟩
  · have e : encP o = (k : Int) :: ((conP k o).length : Int) :: conP k o := by rw [encP, hk, if_neg (by omega), Int.toNat_natCast]
    obtain ⟨q1, q2⟩ := fil_con hk10 hk h ha
    have hlen := conP_le hk10 hk h ha
    obtain ⟨e1, e2, e3⟩ := nxE_long n k ((conP k o).length : Int) (conP k o ++ rest) hn hk10 h0 (by omega) (by simp; omega)
    rw [Int.toNat_natCast, List.take_left' rfl] at e1 e2
    rw [e]
    refine ⟨?_, ?_, ?_⟩
    · rw [List.cons_append, List.cons_append, e1, q1, q2, h]; rfl
    · rw [List.cons_append, List.cons_append, e2, q2]
    · rw [List.cons_append, List.cons_append, e3]; simp; omega
theorem encP_ne (o : Po) : encP o ≠ [] := by unfold encP; split <;> simp
/-- Options that are right, read. -/
theorem dec_enc (L : List Po) : ∀ n, n + L.length ≤ 16 → (∀ o ∈ L, chkP o = 0 ∧ o.ad.length = 16) → dec n (encs L) = (L, 0) := by
  induction L with
  | nil => intro n _ _; exact dec_nil n
  | cons o L ih =>
    intro n hn h
    obtain ⟨h1, h2⟩ := h o (by simp)
    rw [List.length_cons] at hn
    have e : encs (o :: L) = encP o ++ encs L := by simp [encs]
    obtain ⟨e1, e2, e3⟩ := nx_enc n o (encs L) (by omega) h1 h2
    rw [e, decO_ok (by simp [encP_ne]) e1, e2, e3, List.drop_left' rfl, ih (n + 1) (by omega) (fun x hx => h x (by simp [hx]))]
theorem bad_all {L : List Po} (h : bad L = 0) : ∀ o ∈ L, chkP o = 0 := by
  induction L with
  | nil => intro o ho; cases ho
  | cons p L ih =>
    rw [bad] at h
    split at h
    · rename_i hc
      intro o ho
      rcases List.mem_cons.1 ho with e | e
      · rw [e]; exact hc
      · exact ih h o e
    · rename_i hc; exact absurd h hc
theorem bad_of {L : List Po} (h : ∀ o ∈ L, chkP o = 0) : bad L = 0 := by
  induction L with
  | nil => rfl
  | cons p L ih => rw [bad, if_pos (h p (by simp))]; exact ih (fun o ho => h o (by simp [ho]))
theorem encE_0 {L : List Po} (h : encE L = 0) : L.length ≤ 16 ∧ (∀ o ∈ L, chkP o = 0) ∧ (encs L).length ≤ 1280 := by
  unfold encE at h
  split at h
  · cases h
  · split at h
    · rename_i h2; exact absurd h h2
    · rename_i h2
      split at h
      · cases h
      · exact ⟨by omega, bad_all (by simpa using h2), by omega⟩
theorem dec_of {L : List Po} (h : encE L = 0) (ha : ∀ o ∈ L, o.ad.length = 16) : dec 0 (encsL L) = (L, 0) := by
  obtain ⟨h1, h2, h3⟩ := encE_0 h
  rw [encsL, if_pos h]
  exact dec_enc L 0 (by omega) (fun o ho => ⟨h2 o ho, ha o ho⟩)
/-- What is behind the length, written. -/
theorem con_fil {k : Nat} (hk : k < 10) (l : List Int) (ho : Oct l) (h : filE k l 0 = 0) : conP k (filP k l 0) = l ∧ (filP k l 0).k = k := by
  cases hz : zer k
  · cases ht : txb k
    · by_cases hs : sumP (prt k) = l.length
      · have hP : filP k l 0 = ⟨k, (stps l (prt k)).2.1, (stps l (prt k)).2.2, []⟩ := by simp [filP, hz, ht, hs]
        obtain ⟨_, n', e1, e2, e3⟩ := fold_back l ho (prt k) (prt_all k hk).1 (prt_any k hk).2 0 [] zeros (by omega)
        rw [List.nil_append] at e1
        rw [hP]
        refine ⟨?_, rfl⟩
        rw [conP, hz, if_neg (by simp), List.append_nil, stps, e1, e3, hs, List.drop_zero, Int.toNat_natCast, List.take_length]
      · simp [filE, hz, ht, hs] at h
    · obtain ⟨g1, _, _⟩ := prt_txb k hk ht
      have hP : filP k l 0 = ⟨k, [], zeros, l⟩ := by simp [filP, hz, ht]
      rw [hP]
      exact ⟨by rw [conP, hz, g1]; simp [partsB], rfl⟩
  · have hP : filP k l 0 = ⟨k, [(l.length : Int)], zeros, []⟩ := by simp [filP, hz]
    have hA : anyN l = false := by
      cases hx : anyN l
      · rfl
      · simp [filE, hz, zerE, hx] at h
    rw [hP]
    refine ⟨?_, rfl⟩
    rw [conP, hz]
    simp only [List.getD_cons_zero, Int.toNat_natCast, if_true]
    exact (zeros_anyN l hA).symm
theorem spE_both {a b : Int} (h : spE a b = 0) : a = 0 ∧ b = 0 := by
  unfold spE at h
  split at h
  · rename_i e; exact ⟨e, h⟩
  · rename_i e; exact absurd h e
/-- One option, written. -/
theorem enc_nx (n : Nat) (m : List Int) (hm : m ≠ []) (ho : Oct m) (h : nxE n m = 0) : encP (nxP m) = m.take (nxN m) ∧ chkP (nxP m) = 0 ∧ n ≠ 16 := by
  have hn : n ≠ 16 := fun e => by rw [e, nxE_full] at h; cases h
  have hkb : kndB (nxK m) = true := by
    cases hx : kndB (nxK m)
    · rw [nxE_kind n m hn hx] at h; cases h
    · rfl
  obtain ⟨k, hk, hk10⟩ := knd_nat hkb
  match m, hm with
  | x :: t, _ =>
    rw [nxK_cons] at hk
    subst hk
    by_cases h0 : k = 0
    · subst h0
      obtain ⟨p1, p2, p3⟩ := nx_pad t
      have e0 : ((0 : Nat) : Int) :: t = 0 :: t := rfl
      rw [e0, p2, p3]
      exact ⟨rfl, chk_pad, hn⟩
    · match t with
      | [] => rw [nxE_cut n k _ hn hk10 h0 (nxK_cons _ _) (nx_none _)] at h; cases h
      | y :: t =>
        have hy := ho y (by simp)
        by_cases hl : y ≤ t.length
        · obtain ⟨e1, e2, e3⟩ := nxE_long n k y t hn hk10 h0 hy.1 hl
          rw [e1] at h
          obtain ⟨h1, h2⟩ := spE_both h
          have hoc : Oct (t.take y.toNat) := fun z hz => ho z (by have := List.mem_of_mem_take hz; simp [this])
          obtain ⟨c1, c2⟩ := con_fil hk10 _ hoc h1
          rw [e2, e3]
          refine ⟨?_, h2, hn⟩
          rw [encP, c2, if_neg (by omega), Int.toNat_natCast, c1]
          have hlen : ((t.take y.toNat).length : Int) = y := by rw [List.length_take]; omega
          rw [hlen, Nat.add_comm 2]
          simp
        · rw [nxE_cut n k _ hn hk10 h0 (nxK_cons _ _) (nx_cut _ _ _ hy.1 (by omega))] at h; cases h
theorem enc_dec : ∀ (f : Nat) (n : Nat) (m : List Int), m.length ≤ f → n ≤ 16 → Oct m → (dec n m).2 = 0 → encs (dec n m).1 = m ∧ n + (dec n m).1.length ≤ 16 ∧ ∀ o ∈ (dec n m).1, chkP o = 0 := by
  intro f
  induction f with
  | zero =>
    intro n m hf hn ho h
    have : m = [] := List.eq_nil_of_length_eq_zero (by omega)
    subst this
    rw [dec_nil]
    exact ⟨rfl, by simpa using hn, fun o ho => by cases ho⟩
  | succ f ih =>
    intro n m hf hn ho h
    by_cases hm : m = []
    · subst hm
      rw [dec_nil]
      exact ⟨rfl, by simpa using hn, fun o ho => by cases ho⟩
    · by_cases hE : nxE n m = 0
      · obtain ⟨e1, e2, e3⟩ := enc_nx n m hm ho hE
        rw [decO_ok hm hE] at h ⊢
        have hp := nxN_pos m
        have hml : 0 < m.length := List.length_pos_iff.2 hm
        obtain ⟨i1, i2, i3⟩ := ih (n + 1) (m.drop (nxN m)) (by rw [List.length_drop]; omega) (by omega) (fun x hx => ho x (List.mem_of_mem_drop hx)) h
        refine ⟨?_, ?_, ?_⟩
        · have : encs (nxP m :: (dec (n + 1) (m.drop (nxN m))).1) = encP (nxP m) ++ encs (dec (n + 1) (m.drop (nxN m))).1 := by simp [encs]
          rw [this, i1, e1, List.take_append_drop]
        · rw [List.length_cons]; omega
        · intro o ho'
          rcases List.mem_cons.1 ho' with e | e
          · rw [e]; exact e2
          · exact i3 o e
      · rw [dec_bad hm hE] at h
        exact absurd h hE
theorem enc_of (m : List Int) (ho : Oct m) (hl : m.length ≤ 1280) (h : (dec 0 m).2 = 0) : encE (dec 0 m).1 = 0 ∧ encsL (dec 0 m).1 = m := by
  obtain ⟨h1, h2, h3⟩ := enc_dec m.length 0 m (Nat.le_refl _) (by omega) ho h
  have : encE (dec 0 m).1 = 0 := by
    rw [encE, if_neg (by omega), if_neg (by rw [bad_of h3]; simp), h1, if_neg (by omega)]
  exact ⟨this, by rw [encsL, if_pos this, h1]⟩
end Go.Proofs.YtbfjkhafdkhhmaaDoor

namespace Go.Proofs.YtbfjkhafdkhhmaaDoor
open Go.ChangeShapes Go.WideShapes Go.ChangeAt Go.RowKit Go.Deep
set_option linter.unusedVariables false
set_option linter.unusedSimpArgs false

/-- The document's cursor, its option and its answer's place in memory. -/
structure BdAt (w wr : World) (r d g : Nat) (a : Option Addr) (len cap : Nat) (l : List Int) (at_ : Nat) (er : Int) (o : Ov) : Prop where
  ref : RefAt wr d a len cap l at_ er
  row : Row wr g 57 o.cs
  res : Row wr r 57 Ov.zero.cs
  n : wr.ownsRow w.heap.size 3 1 o.n.v o.n.l.length (i64s o.n.l)
  nn : o.n.n = o.n.l.length
  ad : Adr o.ad
  t : Lies .u8 w o.t.a o.t.n o.t.cap o.t.l
  oct : Oct o.t.l
  below : Below w.heap.size w wr
  hd : w.heap.size ≤ d
  hg : w.heap.size ≤ g
  hr : w.heap.size ≤ r
  hgr : r ≠ g
  la : ∀ x, a = some x → 0 < len → x.block < w.heap.size
theorem RefAt.row {w : World} {d : Nat} {a : Option Addr} {len cap : Nat} {l : List Int} {at_ : Nat} {er : Int} (h : RefAt w d a len cap l at_ er) : Row w d 88 #[.slice a len cap, .int .i64 at_, .int .i64 er] := h.block
section
variable {w wr w' : World} {r d g : Nat} {a : Option Addr} {len cap : Nat} {l : List Int} {at_ : Nat} {er : Int} {o : Ov}
theorem BdAt.size (h : BdAt w wr r d g a len cap l at_ er o) : w.heap.size ≤ wr.heap.size := h.below.size
theorem BdAt.ok (h : BdAt w wr r d g a len cap l at_ er o) : o.ok wr := by
  refine ⟨?_, h.ad, h.t.below h.below, h.oct⟩
  obtain ⟨a, cap, e, hl⟩ := owns_liesk h.n
  have e1 : Value.slice o.n.a o.n.n o.n.cap = .slice a o.n.l.length cap := e
  injection e1 with e2 e3 e4
  rw [e2, e3, e4]; exact hl
/-- Bytes were read. -/
theorem BdAt.read (h : BdAt w wr r d g a len cap l at_ er o) {m : Nat} {er2 : Int} (hk : RefOk wr d a len at_ l m er2 w') : ∃ a2 cap2, BdAt w w' r d g a2 (len - m) cap2 (l.drop m) (at_ + m) er2 o := by
  obtain ⟨a2, cap2, h1, hg, hs, hx⟩ := hk
  refine ⟨a2, cap2, h1, h.row.kept hg (fun e => h.row.ne h.ref.row (by decide) (Option.some.inj e)), h.res.kept hg (fun e => h.res.ne h.ref.row (by decide) (Option.some.inj e)), h.n.kept hg (.inr (own_row h.n h.ref.row (by decide))), h.nn, h.ad, h.t, h.oct,
    bgrown h.below hg h.hd, h.hd, h.hg, h.hr, h.hgr, fun x e hl => ?_⟩
  obtain ⟨y, e1, e2⟩ := hx x e
  rw [e2]; exact h.la y e1 (by omega)
theorem BdAt.on (h : BdAt w wr r d g a len cap l at_ er o) (hb : Below wr.heap.size wr w') : BdAt w w' r d g a len cap l at_ er o :=
  ⟨h.ref.below hb, h.row.below hb, h.res.below hb, own_below h.n hb, h.nn, h.ad, h.t, h.oct, bthen h.below hb, h.hd, h.hg, h.hr, h.hgr, h.la⟩
theorem BdAt.drewN (h : BdAt w wr r d g a len cap l at_ er o) (q : Nat) : BdAt w (wr.drewN q) r d g a len cap l at_ er o := h.on (bdrew (Below.refl _ _) q)
/-- The cursor is as it was where another block is written. -/
theorem RefAt.other {c : Nat} (h : RefAt wr d a len cap l at_ er) (hdc : d ≠ c) (ha : ∀ x, a = some x → 0 < len → x.block ≠ c) (hg : wr.grownBy w' (some c)) : RefAt w' d a len cap l at_ er :=
  ⟨(hg.block d h.lt (fun e => hdc (Option.some.inj e))).trans h.block, ⟨h.lies.1, h.lies.2.1, h.lies.2.2.1, h.lies.2.2.2.1, fun k hk => by
    obtain ⟨b, off, he, hc⟩ := h.lies.2.2.2.2 k hk
    exact ⟨b, off, he, hg.cell hc (fun e => ha ⟨b, off, none⟩ he (by omega) (Option.some.inj e))⟩⟩, h.oct, h.small, h.at_small⟩
/-- The option is written anew. -/
theorem BdAt.wrote (h : BdAt w wr r d g a len cap l at_ er o) {o2 : Ov} (hrow : Row w' g 57 o2.cs) (hg : wr.grownBy w' (some g)) (hn : w'.ownsRow w.heap.size 3 1 o2.n.v o2.n.l.length (i64s o2.n.l)) (hnn : o2.n.n = o2.n.l.length) (had : Adr o2.ad)
    (ht : Lies .u8 w o2.t.a o2.t.n o2.t.cap o2.t.l) (hoct : Oct o2.t.l) : BdAt w w' r d g a len cap l at_ er o2 :=
  ⟨h.ref.other (fun e => h.ref.row.ne h.row (by decide) e) (fun x e hl e2 => by have := h.la x e hl; have := h.hg; omega) hg, hrow, h.res.kept hg (fun e => h.hgr (Option.some.inj e)), hn, hnn, had, ht, hoct, bgrown h.below hg h.hg, h.hd, h.hg, h.hr, h.hgr, h.la⟩
/-- A byte of the address. -/
theorem Ov.setAt {o : Ov} (h : Adr o.ad) (j : Nat) (hj : j < 16) (x : Int) : o.cs.setIfInBounds (2 + j) (.int .u8 x) = (o.setA (o.ad.set j x)).cs := by
  apply Array.ext'
  have l1 : (u8s o.ad).length = 16 := by rw [u8s_len, h.1]
  simp only [Array.toList_setIfInBounds, Ov.cs, Ov.setA, arr, Array.toList_append]
  rw [List.set_append_right _ _ (by simp)]
  simp only [List.length_cons, List.length_nil]
  rw [show 2 + j - (0 + 1 + 1) = j by omega, List.set_append_left _ _ (by rw [l1]; exact hj)]
  simp [u8s, List.map_set]
theorem BdAt.byte (h : BdAt w wr r d g a len cap l at_ er o) (j : Nat) (hj : j < 16) (x : Int) (hx : 0 ≤ x ∧ x < 256) : BdAt w (wr.setCell ⟨g, 2 + j, none⟩ (.int .u8 x)) r d g a len cap l at_ er (o.setA (o.ad.set j x)) := by
  have hg := grownBy_setCell wr g (2 + j) (.int .u8 x)
  refine h.wrote ?_ hg (h.n.kept hg (.inr (own_row h.n h.row (by decide)))) h.nn ⟨by simp [Ov.setA, h.ad.1], ?_⟩ h.t h.oct
  · rw [← Ov.setAt h.ad j hj]; exact h.row.set _ _
  · intro y hy
    rcases List.mem_or_eq_of_mem_set hy with e | e
    · exact h.ad.2 y e
    · rw [e]; exact hx
/-- A number is appended (world w'), and the list laid in. -/
theorem BdAt.push (h : BdAt w wr r d g a len cap l at_ er o) (hg : wr.grownBy w' o.n.v.ownBlock) (na : Option Addr) (nc : Nat) (L : List Int) (m : Nat) (hm : L.length = m) (hn : w'.ownsRow w.heap.size 3 1 (.slice na m nc) m (i64s L)) :
    BdAt w (w'.setCell ⟨g, 1, none⟩ (.slice na m nc)) r d g a len cap l at_ er (o.setN ⟨na, m, nc, L⟩) ∧ Row w' g 57 o.cs := by
  subst hm
  have hrow := h.row.kept hg (fun e => own_row h.n h.row (by decide) e.symm)
  have hs := grownBy_setCell w' g 1 (.slice na L.length nc)
  have hb : Below w.heap.size w w' := Below.grown h.below hg h.size (fun k hk => (h.n.lt k hk).1)
  have href : RefAt w' d a len cap l at_ er := by
    cases hv : o.n.v.ownBlock with
    | none => rw [hv] at hg; exact ⟨(hg.block d h.ref.lt (by simp)).trans h.ref.block, ⟨h.ref.lies.1, h.ref.lies.2.1, h.ref.lies.2.2.1, h.ref.lies.2.2.2.1, fun k hk => by
        obtain ⟨b, off, he, hc⟩ := h.ref.lies.2.2.2.2 k hk
        exact ⟨b, off, he, hg.cell hc (by simp)⟩⟩, h.ref.oct, h.ref.small, h.ref.at_small⟩
    | some c => rw [hv] at hg; exact h.ref.other (fun e => own_row h.n h.ref.row (by decide) (by rw [hv, e])) (fun x e hl e2 => by have := h.la x e hl; have := (h.n.lt c hv).1; omega) hg
  have hbd : BdAt w w' r d g a len cap l at_ er (o.setN ⟨na, L.length, nc, L⟩) → True := fun _ => trivial
  refine ⟨⟨href.other (fun e => href.row.ne hrow (by decide) e) (fun x e hl e2 => by have := h.la x e hl; have := h.hg; omega) hs, ?_, (h.res.kept hg (fun e => own_row h.n h.res (by decide) e.symm)).other _ _ h.hgr, hn.kept hs (.inr (own_row hn hrow (by decide))), rfl, h.ad, h.t, h.oct, bgrown hb hs h.hg, h.hd, h.hg, h.hr, h.hgr, h.la⟩, hrow⟩
  rw [← Ov.set1]
  exact hrow.set 1 _
end

/-- The document's reading of one letter more: how many bytes were read, what is wrong, the numbers, the address. -/
def rstq (l : List Int) (s : Nat × Int × List Int × List Int) (q : Int) : Nat × Int × List Int × List Int :=
  if (q == 16) = true then (s.1 + rdN 1 16 (l.length - s.1) s.2.1, rdE 1 16 (l.length - s.1) s.2.1, s.2.2.1, (l.drop s.1).take (rdN 1 16 (l.length - s.1) s.2.1) ++ s.2.2.2.drop (rdN 1 16 (l.length - s.1) s.2.1))
  else (s.1 + rdN q 1 (l.length - s.1) s.2.1, rdE q 1 (l.length - s.1) s.2.1, s.2.2.1 ++ [numOf ((l.drop s.1).take (rdN q 1 (l.length - s.1) s.2.1))], s.2.2.2)
def szl (c : Int) : Int := if c = 97 then 16 else szc c
def rsts (l : List Int) (C : List Int) : Nat × Int × List Int × List Int := C.foldl (fun s c => rstq l s (szl c)) (0, 0, [], zeros)
theorem rsts_succ (l C : List Int) (i : Nat) (h : i < C.length) : rsts l (C.take (i + 1)) = rstq l (rsts l (C.take i)) (szl (C.getD i 0)) := by
  rw [List.take_succ_eq_append_getElem h, rsts, List.foldl_append]; simp [rsts, h]
theorem rsts_le (l C : List Int) : (rsts l C).1 ≤ l.length := by
  have : ∀ (C : List Int) (s : Nat × Int × List Int × List Int), s.1 ≤ l.length → (C.foldl (fun s c => rstq l s (szl c)) s).1 ≤ l.length := by
    intro C
    induction C with
    | nil => intro s h; exact h
    | cons c C ih =>
      intro s h
      refine ih _ ?_
      show (rstq l s (szl c)).1 ≤ l.length
      unfold rstq
      split
      · have := rdN_le 1 16 (l.length - s.1) s.2.1; simp only; omega
      · have := rdN_le (szl c) 1 (l.length - s.1) s.2.1; simp only; omega
  exact this C _ (Nat.zero_le _)
theorem rd16 (left : Nat) (h : 16 ≤ left) : rdE 1 16 left 0 = 0 ∧ rdN 1 16 left 0 = 16 := by
  have hz : sizeB 1 = true := by decide
  have h1 : rdE 1 16 left 0 = 0 := by rw [rdE, if_pos rfl, if_neg (by rw [hz]; simp), if_neg (by omega)]
  exact ⟨h1, by rw [rdN, if_pos h1]; rfl⟩
theorem rdq (q : Int) (left : Nat) (hz : sizeB q = true) (h : q ≤ left) : rdE q 1 left 0 = 0 ∧ rdN q 1 left 0 = q.toNat := by
  have h1 : rdE q 1 left 0 = 0 := by rw [rdE, if_pos rfl, if_neg (by rw [hz]; simp), if_neg (by omega)]
  exact ⟨h1, by rw [rdN, if_pos h1]; simp⟩
/-- Enough bytes: it reads as the program does. -/
theorem rst_ok (l : List Int) (P : List (Int × Int)) : (∀ p ∈ P, (p.1 == 16) = true ∨ sizeB p.1 = true) → ∀ (s : Nat) (N A : List Int), A.length = 16 → (s : Int) + sumP P ≤ l.length →
    (P.map (·.1)).foldl (rstq l) (s, 0, N, A) = ((P.foldl (stp l) (s, N, A)).1, 0, (P.foldl (stp l) (s, N, A)).2.1, (P.foldl (stp l) (s, N, A)).2.2) ∧ ((P.foldl (stp l) (s, N, A)).1 : Int) = s + sumP P := by
  induction P with
  | nil => intro _ s N A _ _; exact ⟨rfl, by simp [sumP]⟩
  | cons q P ih =>
    intro hP s N A hA hs
    have hP' : ∀ p ∈ P, (p.1 == 16) = true ∨ sizeB p.1 = true := fun p hp => hP p (by simp [hp])
    have h0 : ∀ P : List (Int × Int), (∀ p ∈ P, (p.1 == 16) = true ∨ sizeB p.1 = true) → 0 ≤ sumP P := by
      intro P
      induction P with
      | nil => intro _; simp [sumP]
      | cons r R ihR =>
        intro h
        rw [sumP_cons]
        have := ihR (fun p hp => h p (by simp [hp]))
        rcases h r (by simp) with e | e
        · have : r.1 = 16 := by simpa using e
          omega
        · rcases sizeB_cases e with e | e | e <;> omega
    have h0' := h0 P hP'
    rw [sumP_cons] at hs ⊢
    rw [List.map_cons, List.foldl_cons, List.foldl_cons]
    by_cases h16 : (q.1 == 16) = true
    · have hq : q.1 = 16 := by simpa using h16
      obtain ⟨e1, e2⟩ := rd16 (l.length - s) (by omega)
      have x1 : rstq l (s, 0, N, A) q.1 = (s + 16, 0, N, (l.drop s).take 16) := by
        rw [rstq, if_pos h16]; simp only [e1, e2]
        have hd : A.drop 16 = [] := List.drop_of_length_le (by omega)
        rw [hd, List.append_nil]
      have x2 : stp l (s, N, A) q = (s + 16, N, (l.drop s).take 16) := by rw [stp, if_pos h16]
      rw [x1, x2]
      obtain ⟨i1, i2⟩ := ih hP' (s + 16) N ((l.drop s).take 16) (by rw [List.length_take, List.length_drop]; omega) (by omega)
      exact ⟨i1, by rw [i2]; omega⟩
    · have hz : sizeB q.1 = true := (hP q (by simp)).resolve_left h16
      have hq : 0 ≤ q.1 := by rcases sizeB_cases hz with e | e | e <;> omega
      obtain ⟨e1, e2⟩ := rdq q.1 (l.length - s) hz (by omega)
      have x1 : rstq l (s, 0, N, A) q.1 = (s + q.1.toNat, 0, N ++ [numOf ((l.drop s).take q.1.toNat)], A) := by
        rw [rstq, if_neg h16]; simp only [e1, e2]
      have x2 : stp l (s, N, A) q = (s + q.1.toNat, N ++ [numOf ((l.drop s).take q.1.toNat)], A) := by rw [stp, if_neg h16]
      rw [x1, x2]
      obtain ⟨i1, i2⟩ := ih hP' (s + q.1.toNat) (N ++ [numOf ((l.drop s).take q.1.toNat)]) A hA (by omega)
      exact ⟨i1, by rw [i2]; omega⟩
theorem rdE_0 {size n : Int} {left : Nat} {er : Int} (h : rdE size n left er = 0) : er = 0 ∧ rdN size n left er = (size * n).toNat ∧ size * n ≤ left := by
  have hN : rdN size n left er = (size * n).toNat := by rw [rdN, if_pos h]
  unfold rdE at h
  split at h
  · rename_i e
    split at h
    · cases h
    · split at h
      · cases h
      · exact ⟨e, hN, by omega⟩
  · rename_i e; exact absurd h e
/-- Nothing wrong: as many bytes were read as the letters have. -/
theorem rst_0 (l : List Int) (Q : List Int) : (∀ q ∈ Q, (q == 16) = true ∨ sizeB q = true) → ∀ (s : Nat × Int × List Int × List Int), (Q.foldl (rstq l) s).2.1 = 0 → s.2.1 = 0 ∧ ((Q.foldl (rstq l) s).1 : Int) = s.1 + Q.sum := by
  induction Q with
  | nil => intro _ s h; exact ⟨h, by simp⟩
  | cons q Q ih =>
    intro hQ s h
    rw [List.foldl_cons] at h ⊢
    obtain ⟨i1, i2⟩ := ih (fun p hp => hQ p (by simp [hp])) _ h
    rw [i2, List.sum_cons]
    by_cases h16 : (q == 16) = true
    · have hq : q = 16 := by simpa using h16
      rw [rstq, if_pos h16] at i1 ⊢
      obtain ⟨e1, e2, e3⟩ := rdE_0 i1
      refine ⟨e1, ?_⟩
      simp only [e2]; omega
    · have hz : sizeB q = true := (hQ q (by simp)).resolve_left h16
      have hq : 0 ≤ q := by rcases sizeB_cases hz with e | e | e <;> omega
      rw [rstq, if_neg h16] at i1 ⊢
      obtain ⟨e1, e2, e3⟩ := rdE_0 i1
      refine ⟨e1, ?_⟩
      simp only [e2]; omega
theorem cl_prt : ∀ k, k < 10 → 3 ≤ k → (cl k).map szl = (prt k).map (·.1) ∧ (∀ i, i < (cl k).length → (cl k).getD i 0 = 97 ∨ isN ((cl k).getD i 0) = true) ∧ zer k = false ∧ txb k = false := by decide
theorem rsts_fold (l C : List Int) : rsts l C = (C.map szl).foldl (rstq l) (0, 0, [], zeros) := by rw [rsts, List.foldl_map]
/-- Whether the document's body is content, and its option then. -/
theorem rsts_fil (k : Nat) (hk : k < 10) (h3 : 3 ≤ k) (l : List Int) : (closeV (l.length - (rsts l (cl k)).1) (rsts l (cl k)).2.1 = 0 ↔ filE k l 0 = 0) ∧ (filE k l 0 = 0 → filP k l 0 = ⟨k, (rsts l (cl k)).2.2.1, (rsts l (cl k)).2.2.2, []⟩) := by
  obtain ⟨c1, _, hz, ht⟩ := cl_prt k hk h3
  have hall := (prt_all k hk).1
  have hE : filE k l 0 = if sumP (prt k) = l.length then 0 else 3 := by simp [filE, hz, ht]
  by_cases hs : sumP (prt k) = l.length
  · obtain ⟨e1, e2⟩ := rst_ok l (prt k) hall 0 [] zeros rfl (by omega)
    have hr : rsts l (cl k) = ((stps l (prt k)).1, 0, (stps l (prt k)).2.1, (stps l (prt k)).2.2) := by rw [rsts_fold, c1, e1]; rfl
    have e3 : ((stps l (prt k)).1 : Int) = l.length := by
      have : ((stps l (prt k)).1 : Int) = ((0 : Nat) : Int) + sumP (prt k) := e2
      rw [this, hs]; simp
    rw [hE, if_pos hs, hr]
    refine ⟨⟨fun _ => rfl, fun _ => ?_⟩, fun _ => by simp [filP, hz, ht, hs]⟩
    simp only
    rw [closeV, if_pos rfl, if_neg (by omega)]
  · rw [hE, if_neg hs]
    refine ⟨⟨fun h => ?_, fun h => by cases h⟩, fun h => by cases h⟩
    exfalso
    unfold closeV at h
    split at h
    · rename_i e
      split at h
      · cases h
      · rename_i e2
        have hle := rsts_le l (cl k)
        rw [rsts_fold, c1] at e e2 hle
        have hall2 : ∀ q ∈ (prt k).map (·.1), (q == 16) = true ∨ sizeB q = true := by
          intro q hq
          obtain ⟨p, hp, rfl⟩ := List.mem_map.1 hq
          exact hall p hp
        obtain ⟨_, e3⟩ := rst_0 l _ hall2 _ e
        have e4 : ((prt k).map (·.1)).sum = sumP (prt k) := rfl
        rw [e4] at e3
        apply hs
        have : ((0 : Nat) : Int) = 0 := rfl
        simp only at e3
        omega
    · rename_i e; exact absurd h e
/-- Where the document's body stands. -/
def BdS (w wr : World) (r d g : Nat) (len : Nat) (l : List Int) (k : Nat) (s : Nat × Int × List Int × List Int) : Prop :=
  ∃ a2 cap2 o, BdAt w wr r d g a2 (len - s.1) cap2 (l.drop s.1) s.1 s.2.1 o ∧ o.p = ⟨k, s.2.2.1, s.2.2.2, []⟩
theorem lies_back {kd : IntKind} {B : Nat} {w w' : World} {a : Option Addr} {n cap : Nat} {l : List Int} (h : Lies kd w' a n cap l) (hb : Below B w w') (ha : ∀ x, a = some x → 0 < n → x.block < B) : Lies kd w a n cap l :=
  ⟨h.1, h.2.1, h.2.2.1, h.2.2.2.1, fun k hk => by
    obtain ⟨b, off, e, hc⟩ := h.2.2.2.2 k hk
    exact ⟨b, off, e, (hb.cell (p := ⟨b, off + k, none⟩) (ha ⟨b, off, none⟩ e (by omega))).symm.trans hc⟩⟩
theorem refBytes_src (w : World) (d : Nat) (a : Option Addr) (len cap : Nat) (l : List Int) (at_ : Nat) (er n : Int) (h : RefAt w d a len cap l at_ er) :
    Calls Tryd.prog 42 #[.pointer (some ⟨d, 0, none⟩), .int .i64 n] w fun e w' => ∃ a1 c1, e = .returned (.slice a1 (rdN 1 n len er) c1) ∧ Lies .u8 w' a1 (rdN 1 n len er) c1 (l.take (rdN 1 n len er)) ∧ RefOk w d a len at_ l (rdN 1 n len er) (rdE 1 n len er) w' ∧ (a1 = none ∨ a1 = a) := by
  by_cases her : er = 0
  · subst her
    by_cases hn : n < 0
    · have hE : rdE 1 n len 0 = 1 := by rw [rdE_bytes, if_pos hn]
      have hN : rdN 1 n len 0 = 0 := by rw [rdN, hE]; rfl
      rw [hE, hN]
      refine (refBytes_neg w d a len cap l at_ n h hn).mono ?_
      rintro e w' ⟨rfl, rfl⟩
      exact ⟨none, 0, rfl, Lies.nil _ _, refOk_no (h.setEr 1) (grownBy_setCell ..) (by simp), .inl rfl⟩
    · by_cases hlt : (len : Int) < n
      · have hE : rdE 1 n len 0 = 4 := by rw [rdE_bytes, if_neg hn, if_pos hlt]
        have hN : rdN 1 n len 0 = 0 := by rw [rdN, hE]; rfl
        rw [hE, hN]
        refine (refBytes_end w d a len cap l at_ n h (by omega) hlt).mono ?_
        rintro e w' ⟨rfl, rfl⟩
        exact ⟨none, 0, rfl, Lies.nil _ _, refOk_no (h.setEr 4) (grownBy_setCell ..) (by simp), .inl rfl⟩
      · have hE : rdE 1 n len 0 = 0 := by rw [rdE_bytes, if_neg hn, if_neg hlt]
        obtain ⟨m, rfl⟩ := Int.eq_ofNat_of_zero_le (show 0 ≤ n by omega)
        have hN : rdN 1 m len 0 = m := by rw [rdN, if_pos hE]; omega
        rw [hE, hN]
        refine (refBytes_ok w d a len cap l at_ m h (by omega)).mono ?_
        rintro e w' ⟨rfl, a2, cap2, hr, hg, hs, hk⟩
        exact ⟨a, cap, rfl, (h.lies.pre m (by omega)).grown h.noU8 hg, ⟨a2, cap2, hr, hg, hs, hk⟩, .inr rfl⟩
  · have hE : rdE 1 n len er = er := by simp [rdE, her]
    have hN : rdN 1 n len er = 0 := by rw [rdN, hE, if_neg her]
    rw [hE, hN]
    refine (refBytes_was w d a len cap l at_ er n h her).mono ?_
    rintro e w' ⟨rfl, rfl⟩
    exact ⟨none, 0, rfl, Lies.nil _ _, refOk_no h (World.grownBy.refl _ _) rfl, .inl rfl⟩
/-- Bytes of an address, laid one by one. -/
def mixL (F A : List Int) (q : Nat) : List Int := F.take q ++ A.drop q
theorem mixL_next (F A : List Int) (q : Nat) (hF : q < F.length) (hA : q < A.length) : (mixL F A q).set q (F.getD q 0) = mixL F A (q + 1) := by
  have h1 : (F.take q).length = q := by rw [List.length_take]; omega
  rw [mixL, mixL, List.set_append_right _ _ (by omega), h1, Nat.sub_self, List.drop_eq_getElem_cons hA, List.set_cons_zero]
  have e : F.take (q + 1) = F.take q ++ [F[q]] := List.take_succ_eq_append_getElem hF
  rw [e, List.append_assoc]
  simp [hF]
theorem mixL_0 (F A : List Int) : mixL F A 0 = A := by simp [mixL]
theorem mixL_all (F A : List Int) : mixL F A F.length = F ++ A.drop F.length := by rw [mixL, List.take_length]
theorem setA_setA (o : Ov) (A B : List Int) : (o.setA A).setA B = o.setA B := rfl
theorem setA_self (o : Ov) : o.setA o.ad = o := rfl
theorem rdN_16 (left : Nat) (er : Int) : rdN 1 16 left er ≤ 16 := by
  unfold rdN; split <;> omega
end Go.Proofs.YtbfjkhafdkhhmaaDoor

namespace Go.Proofs.YtbfjkhafdkhhmaaDoor
open Go.ChangeShapes Go.WideShapes Go.ChangeAt Go.RowKit Go.Deep
set_option linter.unusedVariables false
set_option linter.unusedSimpArgs false

/-- What body answers. -/
def BodyOk (w : World) (a : Option Addr) (k : Nat) (l : List Int) (e : Ending) (w' : World) : Prop :=
  ∃ (o : Ov) (b : Bool), e = .returned (.tuple #[.agg o.cs, .bool b]) ∧ Mine w w' o ∧ (0 < o.t.n → o.t.a = a) ∧ Below w.heap.size w w' ∧ (b = true ↔ filE k l 0 = 0) ∧ (b = true → o.p = filP k l 0)
end Go.Proofs.YtbfjkhafdkhhmaaDoor
