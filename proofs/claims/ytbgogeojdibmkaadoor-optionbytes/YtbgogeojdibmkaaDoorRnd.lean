/- Reading what was written, and writing what was read: no program. -/
import Derived.Test.YtbgogeojdibmkaaDoorDcd
import Derived.Test.YtbgogeojdibmkaaDoorEnc
namespace Go.Proofs.YtbgogeojdibmkaaDoor
open Go.ChangeShapes Go.WideShapes Go.ChangeAt Go.RowKit Go.Deep
set_option linter.unusedVariables false
set_option linter.unusedSimpArgs false

theorem numOf_digs (size n : Int) (hz : sizeB size = true) (h : okB size n = true) : numOf (digs size n) = n := by
  rcases sizeB_cases hz with e | e | e <;> subst e <;> simp [okB, top] at h <;> simp [digs, numOf] <;> omega
theorem digs_numOf (size : Int) (l : List Int) (hz : sizeB size = true) (hl : l.length = size.toNat) (ho : Oct l) : digs size (numOf l) = l := by
  rcases sizeB_cases hz with e | e | e <;> subst e
  · match l, hl with
    | [a], _ => have h1 := ho a (by simp); simp [digs, numOf]; omega
  · match l, hl with
    | [a, b], _ => have h1 := ho a (by simp); have h2 := ho b (by simp); simp [digs, numOf]; omega
  · match l, hl with
    | [a, b, c, d], _ => have h1 := ho a (by simp); have h2 := ho b (by simp); have h3 := ho c (by simp); have h4 := ho d (by simp); simp [digs, numOf]; omega
theorem widB_cons (q : Int × Int) (P : List (Int × Int)) (x : Int) (n : List Int) : widB (q :: P) (x :: n) = (inB q x && widB P n) := by
  unfold widB
  rw [List.length_cons, List.range_succ_eq_map]
  simp [List.all_map, Function.comp_def]
/-- Reading what was written. -/
theorem fold_parts (P : List (Int × Int)) : (∀ p ∈ P, (p.1 == 16) = true ∨ (sizeB p.1 = true ∧ p.2 < top p.1)) → ∀ (pre n ad N A post : List Int), n.length = (nmb P).length → widB (nmb P) n = true → ad.length = 16 →
    P.foldl (stp (pre ++ (partsB P n ad ++ post))) (pre.length, N, A) = (pre.length + (partsB P n ad).length, N ++ n, if P.any (fun p => p.1 == 16) = true then ad else A) := by
  induction P with
  | nil =>
    intro _ pre n ad N A post hn _ _
    have : n = [] := List.eq_nil_of_length_eq_zero hn
    subst this
    simp [partsB]
  | cons q P ih =>
    intro hP pre n ad N A post hn hw ha
    have hP' : ∀ p ∈ P, (p.1 == 16) = true ∨ (sizeB p.1 = true ∧ p.2 < top p.1) := fun p hp => hP p (by simp [hp])
    by_cases h16 : (q.1 == 16) = true
    · have hnm : nmb (q :: P) = nmb P := by simp [nmb, h16]
      rw [hnm] at hn hw
      have hp : partsB (q :: P) n ad = ad ++ partsB P n ad := by rw [partsB, if_pos h16]
      have hs : stp (pre ++ (ad ++ partsB P n ad ++ post)) (pre.length, N, A) q = ((pre ++ ad).length, N, ad) := by
        rw [stp, if_pos h16]
        simp [ha]
      have he : pre ++ (ad ++ partsB P n ad ++ post) = (pre ++ ad) ++ (partsB P n ad ++ post) := by simp
      rw [hp, List.foldl_cons, hs, he, ih hP' (pre ++ ad) n ad N ad post hn hw ha]
      simp [h16, Nat.add_assoc]
    · have hnm : nmb (q :: P) = q :: nmb P := by simp [nmb, h16]
      rw [hnm] at hn hw
      match n, hn with
      | x :: n, hn =>
        rw [widB_cons, Bool.and_eq_true] at hw
        obtain ⟨hi, hw⟩ := hw
        obtain ⟨hz, ht⟩ : sizeB q.1 = true ∧ q.2 < top q.1 := (hP q (by simp)).resolve_left h16
        have hok : okB q.1 x = true := by simp [inB] at hi; simp [okB]; omega
        have hp : partsB (q :: P) (x :: n) ad = digs q.1 x ++ partsB P n ad := by rw [partsB, if_neg h16]; rfl
        have hdl := digs_length q.1 x hz
        have hs : stp (pre ++ (digs q.1 x ++ partsB P n ad ++ post)) (pre.length, N, A) q = ((pre ++ digs q.1 x).length, N ++ [x], A) := by
          rw [stp, if_neg h16]
          simp [hdl, List.take_left' hdl, numOf_digs q.1 x hz hok]
        have he : pre ++ (digs q.1 x ++ partsB P n ad ++ post) = (pre ++ digs q.1 x) ++ (partsB P n ad ++ post) := by simp
        rw [hp, List.foldl_cons, hs, he, ih hP' (pre ++ digs q.1 x) n ad (N ++ [x]) A post (by simpa using hn) hw ha]
        have h16' : (q.1 == 16) = false := by simpa using h16
        simp only [List.any_cons, h16', Bool.false_or, List.length_append, List.append_assoc, Nat.add_assoc, List.cons_append, List.nil_append]
theorem keepA (l : List Int) (P : List (Int × Int)) (h : ∀ p ∈ P, (p.1 == 16) = false) : ∀ s : Nat × List Int × List Int, (P.foldl (stp l) s).2.2 = s.2.2 := by
  induction P with
  | nil => intro s; rfl
  | cons q P ih =>
    intro s
    rw [List.foldl_cons, ih (fun p hp => h p (by simp [hp])), stp, if_neg (by rw [h q (by simp)]; simp)]
theorem sumP_cons (q : Int × Int) (P : List (Int × Int)) : sumP (q :: P) = q.1 + sumP P := by simp [sumP]
/-- Writing what was read. -/
theorem fold_back (l : List Int) (ho : Oct l) (P : List (Int × Int)) : (∀ p ∈ P, (p.1 == 16) = true ∨ sizeB p.1 = true) → (P.filter (fun p => p.1 == 16)).length ≤ 1 → ∀ (s : Nat) (N A : List Int), (s : Int) + sumP P ≤ l.length →
    0 ≤ sumP P ∧ ∃ n', (P.foldl (stp l) (s, N, A)).2.1 = N ++ n' ∧ n'.length = (nmb P).length ∧ partsB P n' (P.foldl (stp l) (s, N, A)).2.2 = (l.drop s).take (sumP P).toNat := by
  induction P with
  | nil => intro _ _ s N A _; exact ⟨by simp [sumP], [], by simp, by simp [nmb], by simp [partsB, sumP]⟩
  | cons q P ih =>
    intro hP h1 s N A hs
    have hP' : ∀ p ∈ P, (p.1 == 16) = true ∨ sizeB p.1 = true := fun p hp => hP p (by simp [hp])
    rw [sumP_cons] at hs
    by_cases h16 : (q.1 == 16) = true
    · have hq : q.1 = 16 := by simpa using h16
      rw [List.filter_cons, if_pos h16, List.length_cons] at h1
      have hno : ∀ p ∈ P, (p.1 == 16) = false := by
        intro p hp
        cases hx : (p.1 == 16)
        · rfl
        · have := List.length_pos_of_mem (List.mem_filter (p := fun p : Int × Int => p.1 == 16).2 ⟨hp, hx⟩); omega
      have hst : stp l (s, N, A) q = (s + 16, N, (l.drop s).take 16) := by rw [stp, if_pos h16]
      obtain ⟨h0, n', e1, e2, e3⟩ := ih hP' (by omega) (s + 16) N ((l.drop s).take 16) (by omega)
      refine ⟨by rw [sumP_cons]; omega, n', by rw [List.foldl_cons, hst, e1], by rw [e2]; simp [nmb, h16], ?_⟩
      rw [List.foldl_cons, hst, partsB, if_pos h16, e3, keepA l P hno, sumP_cons]
      have e4 : (q.1 + sumP P).toNat = 16 + (sumP P).toNat := by omega
      rw [e4, List.take_add, List.drop_drop]
    · have hz : sizeB q.1 = true := (hP q (by simp)).resolve_left h16
      have hq : 0 ≤ q.1 := by rcases sizeB_cases hz with e | e | e <;> omega
      rw [List.filter_cons, if_neg h16] at h1
      have hst : stp l (s, N, A) q = (s + q.1.toNat, N ++ [numOf ((l.drop s).take q.1.toNat)], A) := by rw [stp, if_neg h16]
      have h0' : 0 ≤ sumP P := by
        have : ∀ P : List (Int × Int), (∀ p ∈ P, (p.1 == 16) = true ∨ sizeB p.1 = true) → 0 ≤ sumP P := by
          intro P
          induction P with
          | nil => intro _; simp [sumP]
          | cons r R ihR =>
            intro h
            rw [sumP_cons]
            have := ihR (fun p hp => h p (by simp [hp]))
            rcases h r (by simp) with e | e
            · have : r.1 = 16 := by simpa using e
              omega
            · rcases sizeB_cases e with e | e | e <;> omega
        exact this P hP'
      obtain ⟨h0, n', e1, e2, e3⟩ := ih hP' h1 (s + q.1.toNat) (N ++ [numOf ((l.drop s).take q.1.toNat)]) A (by omega)
      refine ⟨by rw [sumP_cons]; omega, numOf ((l.drop s).take q.1.toNat) :: n', by rw [List.foldl_cons, hst, e1]; simp, by simp [nmb, h16]; exact e2, ?_⟩
      have hd : digs q.1 (numOf ((l.drop s).take q.1.toNat)) = (l.drop s).take q.1.toNat := digs_numOf q.1 _ hz (by rw [List.length_take, List.length_drop]; omega) (ho.cut _ _)
      rw [List.foldl_cons, hst, partsB, if_neg h16, List.headD_cons, List.tail_cons, e3, hd, sumP_cons]
      have e4 : (q.1 + sumP P).toNat = q.1.toNat + (sumP P).toNat := by omega
      rw [e4, List.take_add, List.drop_drop]
/-- What the first bytes say. -/
theorem nx_pad (t : List Int) : nxK (0 :: t) = 0 ∧ nxP (0 :: t) = ⟨0, [], zeros, []⟩ ∧ nxN (0 :: t) = 1 := by
  have h : nxK (0 :: t) = 0 := by simp [nxK, numOf]
  exact ⟨h, by rw [nxP, if_pos h], by rw [nxN, if_pos h]⟩
theorem chk_pad : chkP ⟨0, [], zeros, []⟩ = 0 := by decide
theorem nxE_pad (n : Nat) (t : List Int) (hn : n ≠ 16) : nxE n (0 :: t) = 0 := by
  obtain ⟨h1, h2, _⟩ := nx_pad t
  rw [nxE, if_neg hn, h1, if_neg (by decide), if_pos rfl, h2, chk_pad]
theorem nxK_cons (x : Int) (t : List Int) : nxK (x :: t) = x := by simp [nxK, numOf]
theorem rd1 (n : Nat) : rdE 1 1 (n + 1) 0 = 0 ∧ rdN 1 1 (n + 1) 0 = 1 := by
  have h : rdE 1 1 (n + 1) 0 = 0 := by
    unfold rdE
    have hz : sizeB 1 = true := by decide
    rw [if_pos rfl, if_neg (by rw [hz]; simp), if_neg (by omega)]
  exact ⟨h, by rw [rdN, if_pos h]; rfl⟩
theorem nx_two (x y : Int) (t : List Int) : nxL (x :: y :: t) = y ∧ nxE1 (x :: y :: t) = 0 ∧ rdN 1 1 ((x :: y :: t).length - 1) 0 = 1 := by
  have e : (x :: y :: t).length - 1 = t.length + 1 := by simp
  obtain ⟨h1, h2⟩ := rd1 t.length
  refine ⟨?_, by rw [nxE1, e, h1], by rw [e, h2]⟩
  rw [nxL, takeV, e, h2]; simp [numOf]
theorem nx_long (x y : Int) (t : List Int) (hy : 0 ≤ y) (h : y ≤ t.length) : nxE2 (x :: y :: t) = 0 ∧ nxN2 (x :: y :: t) = y.toNat ∧ nxC (x :: y :: t) = t.take y.toNat ∧ nxN' (x :: y :: t) = 2 + y.toNat := by
  obtain ⟨h1, h2, h3⟩ := nx_two x y t
  have e : (x :: y :: t).length - (1 + 1) = t.length := by simp
  have hz : sizeB 1 = true := by decide
  have hE : rdE 1 y t.length 0 = 0 := by rw [rdE, if_pos rfl, if_neg (by rw [hz]; simp; omega), if_neg (by omega)]
  have hN : rdN 1 y t.length 0 = y.toNat := by rw [rdN, if_pos hE]; simp
  refine ⟨by rw [nxE2, h3, h1, h2, e, hE], by rw [nxN2, h3, h1, h2, e, hN], ?_, ?_⟩
  · rw [nxC, nxN2, h3, h1, h2, e, hN]; rfl
  · rw [nxN', nxN2, h3, h1, h2, e, hN]
theorem nx_cut (x y : Int) (t : List Int) (hy : 0 ≤ y) (h : (t.length : Int) < y) : nxE2 (x :: y :: t) = 4 := by
  obtain ⟨h1, h2, h3⟩ := nx_two x y t
  have e : (x :: y :: t).length - (1 + 1) = t.length := by simp
  have hz : sizeB 1 = true := by decide
  rw [nxE2, h3, h1, h2, e, rdE, if_pos rfl, if_neg (by rw [hz]; simp; omega), if_pos (by omega)]
theorem nx_none (x : Int) : nxE2 [x] = 4 := by
  have : nxE1 [x] = 4 := (by decide : rdE 1 1 0 0 = 4)
  rw [nxE2, this, rdE, if_neg (by decide)]
theorem spE_0 (e : Int) : spE 0 e = e := by simp [spE]
theorem spE_4 (e : Int) : spE 4 e = 4 := by simp [spE]
theorem nxE_long (n : Nat) (k : Nat) (y : Int) (t : List Int) (hn : n ≠ 16) (hk : k < 10) (hk0 : k ≠ 0) (hy : 0 ≤ y) (h : y ≤ t.length) :
    nxE n ((k : Int) :: y :: t) = spE (filE k (t.take y.toNat) 0) (chkP (filP k (t.take y.toNat) 0)) ∧ nxP ((k : Int) :: y :: t) = filP k (t.take y.toNat) 0 ∧ nxN ((k : Int) :: y :: t) = 2 + y.toNat := by
  obtain ⟨h1, h2, h3, h4⟩ := nx_long k y t hy h
  have hb : kndB (k : Int) = true := by simp [kndB]; omega
  have hne : ¬ ((k : Int) = 0) := by omega
  have hP : nxP ((k : Int) :: y :: t) = filP k (t.take y.toNat) 0 := by rw [nxP, nxK_cons, if_neg hne, h3, h1, Int.toNat_natCast]
  refine ⟨?_, hP, by rw [nxN, nxK_cons, if_neg hne, ← nxN', h4]⟩
  rw [nxE, if_neg hn, nxK_cons, hb, if_neg (by decide), if_neg hne, hP, h3, h1, Int.toNat_natCast, spE_0]
theorem nxE_cut (n : Nat) (k : Nat) (m : List Int) (hn : n ≠ 16) (hk : k < 10) (hk0 : k ≠ 0) (hm : nxK m = k) (h : nxE2 m = 4) : nxE n m = 4 := by
  have hb : kndB (k : Int) = true := by simp [kndB]; omega
  have hne : ¬ ((k : Int) = 0) := by omega
  rw [nxE, if_neg hn, hm, hb, if_neg (by decide), if_neg hne, h, spE_4, spE_4]
theorem nxE_kind (n : Nat) (m : List Int) (hn : n ≠ 16) (h : kndB (nxK m) = false) : nxE n m = 6 := by rw [nxE, if_neg hn, if_pos h]
theorem nxE_full (m : List Int) : nxE 16 m = 2 := by rw [nxE, if_pos rfl]
end Go.Proofs.YtbgogeojdibmkaaDoor
