/- Reading what was written, and writing what was read: no program. · Options: what is written is read, and what is read is written. · What is read without fault comes out again when it is written. · What is written without fault is read as it was. · Are options the same? · Are lists of options the same? -/
import Derived.Test.YtbklpelikaapoaaGreatDoorM9
import Derived.Test.YtbklpelikaapoaaGreatDoorM3
import Derived.Test.YtbklpelikaapoaaGreatDoorM12
import Derived.Deep.QuietTactic
namespace Go.Proofs.YtbklpelikaapoaaGreatDoor
open Go.ChangeShapes Go.WideShapes Go.ChangeAt Go.RowKit Go.Deep
set_option linter.unusedVariables false
set_option linter.unusedSimpArgs false

theorem numOf_digs (size n : Int) (hz : sizeB size = true) (h : okB size n = true) : numOf (digs size n) = n := by
  rcases sizeB_cases hz with e | e | e <;> subst e <;> simp [okB, top] at h <;> simp [digs, numOf] <;> omega
theorem widB_cons (q : Int × Int) (P : List (Int × Int)) (x : Int) (n : List Int) : widB (q :: P) (x :: n) = (inB q x && widB P n) := by
  unfold widB
  rw [List.length_cons, List.range_succ_eq_map]
  simp [List.all_map, Function.comp_def]
/-- Reading what was written. -/
theorem fold_parts (P : List (Int × Int)) : (∀ p ∈ P, (p.1 == 16) = true ∨ (sizeB p.1 = true ∧ p.2 < top p.1)) → ∀ (pre n ad N A post : List Int), n.length = (nmb P).length → widB (nmb P) n = true → ad.length = 16 →
    P.foldl (stp (pre ++ (partsB P n ad ++ post))) (pre.length, N, A) = (pre.length + (partsB P n ad).length, N ++ n, if P.any (fun p => p.1 == 16) = true then ad else A) := by
  induction P with
  | nil =>
    intro _ pre n ad N A post hn _ _
    have : n = [] := List.eq_nil_of_length_eq_zero hn
    subst this
    simp [partsB]
  | cons q P ih =>
    intro hP pre n ad N A post hn hw ha
    have hP' : ∀ p ∈ P, (p.1 == 16) = true ∨ (sizeB p.1 = true ∧ p.2 < top p.1) := fun p hp => hP p (by simp [hp])
    by_cases h16 : (q.1 == 16) = true
    · have hnm : nmb (q :: P) = nmb P := by simp [nmb, h16]
      rw [hnm] at hn hw
      have hp : partsB (q :: P) n ad = ad ++ partsB P n ad := by rw [partsB, if_pos h16]
      have hs : stp (pre ++ (ad ++ partsB P n ad ++ post)) (pre.length, N, A) q = ((pre ++ ad).length, N, ad) := by
        rw [stp, if_pos h16]
        simp [ha]
      have he : pre ++ (ad ++ partsB P n ad ++ post) = (pre ++ ad) ++ (partsB P n ad ++ post) := by simp
      rw [hp, List.foldl_cons, hs, he, ih hP' (pre ++ ad) n ad N ad post hn hw ha]
      simp [h16, Nat.add_assoc]
    · have hnm : nmb (q :: P) = q :: nmb P := by simp [nmb, h16]
      rw [hnm] at hn hw
      match n, hn with
      | x :: n, hn =>
        rw [widB_cons, Bool.and_eq_true] at hw
        obtain ⟨hi, hw⟩ := hw
        obtain ⟨hz, ht⟩ : sizeB q.1 = true ∧ q.2 < top q.1 := (hP q (by simp)).resolve_left h16
        have hok : okB q.1 x = true := by simp [inB] at hi; simp [okB]; omega
        have hp : partsB (q :: P) (x :: n) ad = digs q.1 x ++ partsB P n ad := by rw [partsB, if_neg h16]; rfl
        have hdl := digs_length q.1 x hz
        have hs : stp (pre ++ (digs q.1 x ++ partsB P n ad ++ post)) (pre.length, N, A) q = ((pre ++ digs q.1 x).length, N ++ [x], A) := by
          rw [stp, if_neg h16]
          simp [hdl, List.take_left' hdl, numOf_digs q.1 x hz hok]
        have he : pre ++ (digs q.1 x ++ partsB P n ad ++ post) = (pre ++ digs q.1 x) ++ (partsB P n ad ++ post) := by simp
        rw [hp, List.foldl_cons, hs, he, ih hP' (pre ++ digs q.1 x) n ad (N ++ [x]) A post (by simpa using hn) hw ha]
        have h16' : (q.1 == 16) = false := by simpa using h16
        simp only [List.any_cons, h16', Bool.false_or, List.length_append, List.append_assoc, Nat.add_assoc, List.cons_append, List.nil_append]
/-- What the first bytes say. -/
theorem nx_pad (t : List Int) : nxK (0 :: t) = 0 ∧ nxP (0 :: t) = ⟨0, [], zeros, []⟩ ∧ nxN (0 :: t) = 1 := by
  have h : nxK (0 :: t) = 0 := by simp [nxK, numOf]
  exact ⟨h, by rw [nxP, if_pos h], by rw [nxN, if_pos h]⟩
theorem chk_pad : chkP ⟨0, [], zeros, []⟩ = 0 := by decide
theorem nxE_pad (n : Nat) (t : List Int) (hn : n ≠ 16) : nxE n (0 :: t) = 0 := by
  obtain ⟨h1, h2, _⟩ := nx_pad t
  rw [nxE, if_neg hn, h1, if_neg (by decide), if_pos rfl, h2, chk_pad]
theorem nxK_cons (x : Int) (t : List Int) : nxK (x :: t) = x := by simp [nxK, numOf]
theorem rd1 (n : Nat) : rdE 1 1 (n + 1) 0 = 0 ∧ rdN 1 1 (n + 1) 0 = 1 := by
  have h : rdE 1 1 (n + 1) 0 = 0 := by
    unfold rdE
    have hz : sizeB 1 = true := by decide
    rw [if_pos rfl, if_neg (by rw [hz]; simp), if_neg (by omega)]
  exact ⟨h, by rw [rdN, if_pos h]; rfl⟩
theorem nx_two (x y : Int) (t : List Int) : nxL (x :: y :: t) = y ∧ nxE1 (x :: y :: t) = 0 ∧ rdN 1 1 ((x :: y :: t).length - 1) 0 = 1 := by
  have e : (x :: y :: t).length - 1 = t.length + 1 := by simp
  obtain ⟨h1, h2⟩ := rd1 t.length
  refine ⟨?_, by rw [nxE1, e, h1], by rw [e, h2]⟩
  rw [nxL, takeV, e, h2]; simp [numOf]
theorem nx_long (x y : Int) (t : List Int) (hy : 0 ≤ y) (h : y ≤ t.length) : nxE2 (x :: y :: t) = 0 ∧ nxN2 (x :: y :: t) = y.toNat ∧ nxC (x :: y :: t) = t.take y.toNat ∧ nxN' (x :: y :: t) = 2 + y.toNat := by
  obtain ⟨h1, h2, h3⟩ := nx_two x y t
  have e : (x :: y :: t).length - (1 + 1) = t.length := by simp
  have hz : sizeB 1 = true := by decide
  have hE : rdE 1 y t.length 0 = 0 := by rw [rdE, if_pos rfl, if_neg (by rw [hz]; simp; omega), if_neg (by omega)]
  have hN : rdN 1 y t.length 0 = y.toNat := by rw [rdN, if_pos hE]; simp
  refine ⟨by rw [nxE2, h3, h1, h2, e, hE], by rw [nxN2, h3, h1, h2, e, hN], ?_, ?_⟩
  · rw [nxC, nxN2, h3, h1, h2, e, hN]; rfl
  · rw [nxN', nxN2, h3, h1, h2, e, hN]
theorem spE_0 (e : Int) : spE 0 e = e := by simp [spE]
theorem nxE_long (n : Nat) (k : Nat) (y : Int) (t : List Int) (hn : n ≠ 16) (hk : k < 10) (hk0 : k ≠ 0) (hy : 0 ≤ y) (h : y ≤ t.length) :
    nxE n ((k : Int) :: y :: t) = spE (filE k (t.take y.toNat) 0) (chkP (filP k (t.take y.toNat) 0)) ∧ nxP ((k : Int) :: y :: t) = filP k (t.take y.toNat) 0 ∧ nxN ((k : Int) :: y :: t) = 2 + y.toNat := by
  obtain ⟨h1, h2, h3, h4⟩ := nx_long k y t hy h
  have hb : kndB (k : Int) = true := by simp [kndB]; omega
  have hne : ¬ ((k : Int) = 0) := by omega
  have hP : nxP ((k : Int) :: y :: t) = filP k (t.take y.toNat) 0 := by rw [nxP, nxK_cons, if_neg hne, h3, h1, Int.toNat_natCast]
  refine ⟨?_, hP, by rw [nxN, nxK_cons, if_neg hne, ← nxN', h4]⟩
  rw [nxE, if_neg hn, nxK_cons, hb, if_neg (by decide), if_neg hne, hP, h3, h1, Int.toNat_natCast, spE_0]
end Go.Proofs.YtbklpelikaapoaaGreatDoor

namespace Go.Proofs.YtbklpelikaapoaaGreatDoor
open Go.ChangeShapes Go.WideShapes Go.ChangeAt Go.RowKit Go.Deep
set_option linter.unusedVariables false
set_option linter.unusedSimpArgs false

theorem prt_any : ∀ k, k < 10 → (prt k).any (fun p => p.1 == 16) = hasA k ∧ ((prt k).filter (fun p => p.1 == 16)).length ≤ 1 := by decide
theorem prt_txb : ∀ k, k < 10 → txb k = true → prt k = [] ∧ hasA k = false ∧ zer k = false := by decide
theorem zer_hasA : ∀ k, k < 10 → zer k = true → hasA k = false ∧ txb k = false ∧ k = 1 := by decide
theorem anyN_zeros (n : Nat) : anyN (List.replicate n 0) = false := by simp [anyN]
theorem frm_parts {k : Nat} {o : Po} (h : frmB k o = true) : o.n.length = (nmb (prt k)).length ∧ (o.ad = zeros ∨ hasA k = true) ∧ (o.t = [] ∨ txb k = true) := by
  simp only [frmB, Bool.and_eq_true, Bool.or_eq_true, beq_iff_eq] at h
  exact ⟨h.1, h.2.1, h.2.2.imp List.eq_nil_of_length_eq_zero id⟩
/-- What is behind the length, read. -/
theorem fil_con {o : Po} {k : Nat} (hk : k < 10) (hok : o.k = k) (h : chkP o = 0) (ha : o.ad.length = 16) : filE k (conP k o) 0 = 0 ∧ filP k (conP k o) 0 = o := by
  obtain ⟨h1, h2, h3, h4⟩ := chk0 h
  rw [hok, Int.toNat_natCast] at h2 h3
  obtain ⟨f1, f2, f3⟩ := frm_parts h2
  obtain ⟨ok, on, oad, ot⟩ := o
  simp only at *
  subst hok
  cases hz : zer k
  · cases ht : txb k
    · have hT : ot = [] := by rcases f3 with e | e; · exact e
                              · rw [ht] at e; cases e
      subst hT
      have hc : conP k ⟨k, on, oad, []⟩ = partsB (prt k) on oad := by rw [conP, hz]; simp
      have hs := partsB_length (prt k) (fun p hp => (prt_sizes k hk p hp).imp id (·.1)) on oad ha
      have hf := fold_parts (prt k) (prt_sizes k hk) [] on oad [] zeros [] f1 h3 ha
      simp only [List.nil_append, List.append_nil, List.length_nil, Nat.zero_add] at hf
      have hst : stps (partsB (prt k) on oad) (prt k) = ((partsB (prt k) on oad).length, on, oad) := by
        rw [stps, hf, (prt_any k hk).1]
        rcases f2 with e | e
        · rw [e]; simp
        · rw [e]; simp
      rw [hc]
      refine ⟨?_, ?_⟩
      · simp [filE, hz, ht, hs]
      · simp [filP, hz, ht, hs, hst]
    · obtain ⟨g1, g2, _⟩ := prt_txb k hk ht
      have hA : oad = zeros := by rcases f2 with e | e; · exact e
                                  · rw [g2] at e; cases e
      have hN : on = [] := List.eq_nil_of_length_eq_zero (by rw [f1, g1]; rfl)
      subst hA hN
      have hc : conP k ⟨k, [], zeros, ot⟩ = ot := by rw [conP, hz, g1]; simp [partsB]
      rw [hc]
      exact ⟨by simp [filE, hz, ht], by simp [filP, hz, ht]⟩
  · obtain ⟨g1, g2, rfl⟩ := zer_hasA k hk hz
    have hA : oad = zeros := by rcases f2 with e | e; · exact e
                                · rw [g1] at e; cases e
    have hT : ot = [] := by rcases f3 with e | e; · exact e
                            · rw [g2] at e; cases e
    obtain ⟨m, hm, _⟩ := pads_num f1 h3
    subst hA hT hm
    have hc : conP 1 ⟨((1 : Nat) : Int), [(m : Int)], zeros, []⟩ = List.replicate m 0 := by rw [conP, hz]; simp
    rw [hc]
    refine ⟨by simp [filE, hz, zerE, anyN_zeros], by simp [filP, hz]⟩
/-- One option, read. -/
theorem nx_enc (n : Nat) (o : Po) (rest : List Int) (hn : n ≠ 16) (h : chkP o = 0) (ha : o.ad.length = 16) : nxE n (encP o ++ rest) = 0 ∧ nxP (encP o ++ rest) = o ∧ nxN (encP o ++ rest) = (encP o).length := by
  obtain ⟨h1, h2, h3, h4⟩ := chk0 h
  obtain ⟨k, hk, hk10⟩ := knd_nat h1
  by_cases h0 : k = 0
  · subst h0
    have hk : o.k = 0 := hk
    have e : encP o = [0] := by rw [encP, if_pos hk]
    rw [hk] at h2 h3
    obtain ⟨f1, f2, f3⟩ := frm_parts h2
    obtain ⟨ok, on, oad, ot⟩ := o
    simp only at *
    have hN : on = [] := List.eq_nil_of_length_eq_zero (by rw [f1]; rfl)
    have hA : oad = zeros := by rcases f2 with e | e; · exact e
                                · cases e
    have hT : ot = [] := by rcases f3 with e | e; · exact e
                            · cases e
    subst hN hA hT hk
    rw [e]
    obtain ⟨p1, p2, p3⟩ := nx_pad rest
    exact ⟨nxE_pad n rest hn, p2, p3⟩
  · have e : encP o = (k : Int) :: ((conP k o).length : Int) :: conP k o := by rw [encP, hk, if_neg (by omega), Int.toNat_natCast]
    obtain ⟨q1, q2⟩ := fil_con hk10 hk h ha
    have hlen := conP_le hk10 hk h ha
    obtain ⟨e1, e2, e3⟩ := nxE_long n k ((conP k o).length : Int) (conP k o ++ rest) hn hk10 h0 (by omega) (by simp; omega)
    rw [Int.toNat_natCast, List.take_left' rfl] at e1 e2
    rw [e]
    refine ⟨?_, ?_, ?_⟩
    · rw [List.cons_append, List.cons_append, e1, q1, q2, h]; rfl
    · rw [List.cons_append, List.cons_append, e2, q2]
    · rw [List.cons_append, List.cons_append, e3]; simp; omega
theorem encP_ne (o : Po) : encP o ≠ [] := by unfold encP; split <;> simp
/-- Options that are right, read. -/
theorem dec_enc (L : List Po) : ∀ n, n + L.length ≤ 16 → (∀ o ∈ L, chkP o = 0 ∧ o.ad.length = 16) → dec n (encs L) = (L, 0) := by
  induction L with
  | nil => intro n _ _; exact dec_nil n
  | cons o L ih =>
    intro n hn h
    obtain ⟨h1, h2⟩ := h o (by simp)
    rw [List.length_cons] at hn
    have e : encs (o :: L) = encP o ++ encs L := by simp [encs]
    obtain ⟨e1, e2, e3⟩ := nx_enc n o (encs L) (by omega) h1 h2
    rw [e, decO_ok (by simp [encP_ne]) e1, e2, e3, List.drop_left' rfl, ih (n + 1) (by omega) (fun x hx => h x (by simp [hx]))]
theorem bad_all {L : List Po} (h : bad L = 0) : ∀ o ∈ L, chkP o = 0 := by
  induction L with
  | nil => intro o ho; cases ho
  | cons p L ih =>
    rw [bad] at h
    split at h
    · rename_i hc
      intro o ho
      rcases List.mem_cons.1 ho with e | e
      · rw [e]; exact hc
      · exact ih h o e
    · rename_i hc; exact absurd h hc
theorem encE_0 {L : List Po} (h : encE L = 0) : L.length ≤ 16 ∧ (∀ o ∈ L, chkP o = 0) ∧ (encs L).length ≤ 1280 := by
  unfold encE at h
  split at h
  · cases h
  · split at h
    · rename_i h2; exact absurd h h2
    · rename_i h2
      split at h
      · cases h
      · exact ⟨by omega, bad_all (by simpa using h2), by omega⟩
theorem dec_of {L : List Po} (h : encE L = 0) (ha : ∀ o ∈ L, o.ad.length = 16) : dec 0 (encsL L) = (L, 0) := by
  obtain ⟨h1, h2, h3⟩ := encE_0 h
  rw [encsL, if_pos h]
  exact dec_enc L 0 (by omega) (fun o ho => ⟨h2 o ho, ha o ho⟩)
end Go.Proofs.YtbklpelikaapoaaGreatDoor

namespace Go.Proofs.YtbklpelikaapoaaGreatDoor
set_option linter.unusedVariables false
set_option linter.unusedSimpArgs false

/-- What was read of the bytes at a place. -/
structure Was (l : List Int) (s : Nat × Int × List Int) (z : Nat) (n : Int) : Prop where
  er : s.2.1 = 0
  le : s.1 + z ≤ l.length
  bytes : bytesOf z [n] = (l.drop s.1).take z
theorem Was.next {l : List Int} {s : Nat × Int × List Int} {z : Nat} {n : Int} (h : Was l s z n) {A : List Int} (hA : A = l.take s.1) : A ++ bytesOf z [n] = l.take (s.1 + z) := by
  rw [hA, h.bytes, List.take_add]
end Go.Proofs.YtbklpelikaapoaaGreatDoor

namespace Go.Proofs.YtbklpelikaapoaaGreatDoor
set_option linter.unusedVariables false
set_option linter.unusedSimpArgs false

theorem partsB_oct (P : List (Int × Int)) (ad : List Int) (h : Oct ad) : ∀ n, Oct (partsB P n ad) := by
  induction P with
  | nil => intro n x hx; cases hx
  | cons q P ih =>
    intro n x hx
    rw [partsB] at hx
    split at hx
    · rcases List.mem_append.1 hx with e | e
      · exact h x e
      · exact ih _ x e
    · rcases List.mem_append.1 hx with e | e
      · exact digs_oct _ _ x e
      · exact ih _ x e
theorem encP_oct {o : Po} (h : chkP o = 0) (ha : Adr o.ad) (ht : Oct o.t) : Oct (encP o) := by
  obtain ⟨k, hk, hk10⟩ := knd_nat (chk0 h).1
  have hl := conP_le hk10 hk h ha.1
  have hc : Oct (conP k o) := by
    unfold conP
    split
    · intro x hx; have := (List.mem_replicate.1 hx).2; omega
    · intro x hx
      rcases List.mem_append.1 hx with e | e
      · exact partsB_oct _ _ ha.2 _ x e
      · exact ht x e
  unfold encP
  split
  · intro x hx; simp at hx; omega
  · rw [hk, Int.toNat_natCast]
    intro x hx
    rcases List.mem_cons.1 hx with e | e
    · omega
    · rcases List.mem_cons.1 e with e | e
      · omega
      · exact hc x e
theorem encsL_oct {L : List Ov} (h : ∀ o ∈ L, Adr o.ad ∧ Oct o.t.l) : Oct (encsL (pos L)) := by
  unfold encsL
  split
  · rename_i h0
    have h1 := (encE_0 h0).2.1
    intro x hx
    obtain ⟨p, hp, hx⟩ := List.mem_flatMap.1 hx
    obtain ⟨o, ho, rfl⟩ := List.mem_map.1 hp
    exact encP_oct (h1 _ hp) (h o ho).1 (h o ho).2 x hx
  · intro x hx; cases hx
theorem hdV_oct (v : List Int) (ps : List Pa) : Oct (hdV v ps) := by
  intro x hx
  obtain ⟨p, hp, hx⟩ := List.mem_flatMap.1 hx
  exact bytesOf_oct _ _ x hx
/-- Where the reader stands: behind A, without fault. -/
structure At (l A R : List Int) (s : Nat × Int × List Int) : Prop where
  eq : l = A ++ R
  at_ : s.1 = A.length
  er : s.2.1 = 0
theorem At.next {l A R : List Int} {s : Nat × Int × List Int} {z : Nat} {n : Int} (h : At l A (bytesOf z [n] ++ R) s) (hz : z = 1 ∨ z = 2) {v : List Int} : At l (A ++ bytesOf z [n]) R (s.1 + z, 0, v) := by
  refine ⟨by rw [h.eq, List.append_assoc], ?_, rfl⟩
  show s.1 + z = _
  rw [List.length_append, bytesOf_length _ _ (by rcases hz with rfl | rfl <;> rfl), h.at_]
  simp
theorem fw {l A R : List Int} {s : Nat × Int × List Int} {z : Nat} {n : Int} (hz : z = 1 ∨ z = 2) (h : At l A (bytesOf z [n] ++ R) s) (hn : okB z n = true) :
    takeV z l s.1 l.length s.2.1 = n ∧ rdN z 1 (l.length - s.1) s.2.1 = z ∧ rdE z 1 (l.length - s.1) s.2.1 = 0 := by
  have hsz : sizeB z = true := by rcases hz with rfl | rfl <;> rfl
  have hlb : (bytesOf z [n]).length = z := by rw [bytesOf_length _ _ hsz]; simp
  have hlen : l.length = A.length + (z + R.length) := by rw [h.eq]; simp [hlb]
  have hE : rdE z 1 (l.length - s.1) s.2.1 = 0 := by
    rw [rdE, if_pos h.er, if_neg (by rw [hsz]; simp), if_neg]
    rw [h.at_]; omega
  have hN : rdN z 1 (l.length - s.1) s.2.1 = z := by rw [rdN, if_pos hE]; simp
  refine ⟨?_, hN, hE⟩
  rw [takeV, hN, h.eq, h.at_, List.drop_left, List.take_left' hlb, bytesOf, List.flatMap_singleton]
  exact numOf_digs z n hsz hn
theorem f_full {l A R : List Int} {s : Nat × Int × List Int} {z j lst : Nat} {n : Int} (ho : Oct l) (hz : (z = 1 ∧ lst = 255) ∨ (z = 2 ∧ lst = 65535)) (h : At l A (bytesOf z [n] ++ R) s) (hn : okB z n = true) :
    ptStep l s ⟨z, [⟨j, 0, lst⟩]⟩ = (s.1 + z, 0, s.2.2.set j n) := by
  obtain ⟨h1, h2, h3⟩ := fw (by omega) h hn
  rw [pt_full l ho s z j lst hz, h1, h2, h3]
theorem f_none {l A R : List Int} {s : Nat × Int × List Int} {z : Nat} (hz : z = 1 ∨ z = 2) (h : At l A (bytesOf z [0] ++ R) s) :
    ptStep l s ⟨z, []⟩ = (s.1 + z, 0, s.2.2) := by
  obtain ⟨h1, h2, h3⟩ := fw hz h (by rcases hz with rfl | rfl <;> rfl)
  rw [pt_none l s z, zE, if_pos (by exact h1), h2, h3]
theorem f_fl1 {l A R : List Int} {s : Nat × Int × List Int} {g mo pf : Int} (ho : Oct l) (hg : g = 0 ∨ g = 1) (hm : 0 ≤ mo ∧ mo ≤ 7) (hp : 0 ≤ pf ∧ pf ≤ 7) (h : At l A (bytesOf 1 [g * 128 + mo * 8 + pf] ++ R) s) :
    ptStep l s ⟨1, [⟨3, 7, 1⟩, ⟨4, 3, 7⟩, ⟨5, 0, 7⟩]⟩ = (s.1 + 1, 0, ((s.2.2.set 3 g).set 4 mo).set 5 pf) := by
  obtain ⟨h1, h2, h3⟩ := fw (z := 1) (.inl rfl) h (by simp [okB, top]; omega)
  rw [pt_fl1 l ho s _ h1, show rdN 1 1 (l.length - s.1) s.2.1 = 1 from h2, show rdE 1 1 (l.length - s.1) s.2.1 = 0 from h3, if_neg (by omega)]
  rw [show (g * 128 + mo * 8 + pf) / 128 = g by omega, show (g * 128 + mo * 8 + pf) / 8 % 8 = mo by omega, show (g * 128 + mo * 8 + pf) % 8 = pf by omega]
theorem f_fl2 {l A R : List Int} {s : Nat × Int × List Int} {a t : Int} (ho : Oct l) (ha : a = 0 ∨ a = 1) (ht : t = 0 ∨ t = 1) (h : At l A (bytesOf 1 [a * 128 + t * 64] ++ R) s) :
    ptStep l s ⟨1, [⟨7, 7, 1⟩, ⟨10, 6, 1⟩]⟩ = (s.1 + 1, 0, (s.2.2.set 7 a).set 10 t) := by
  obtain ⟨h1, h2, h3⟩ := fw (z := 1) (.inl rfl) h (by simp [okB, top]; omega)
  rw [pt_fl2 l ho s _ h1, show rdN 1 1 (l.length - s.1) s.2.1 = 1 from h2, show rdE 1 1 (l.length - s.1) s.2.1 = 0 from h3, if_pos (by omega)]
  rw [show (a * 128 + t * 64) / 128 = a by omega, show (a * 128 + t * 64) / 64 % 2 = t by omega]
theorem f_fl3 {l A R : List Int} {s : Nat × Int × List Int} {t : Int} (ho : Oct l) (ht : t = 0 ∨ t = 1) (h : At l A (bytesOf 1 [t * 128] ++ R) s) :
    ptStep l s ⟨1, [⟨10, 7, 1⟩]⟩ = (s.1 + 1, 0, s.2.2.set 10 t) := by
  obtain ⟨h1, h2, h3⟩ := fw (z := 1) (.inl rfl) h (by simp [okB, top]; omega)
  rw [pt_fl3 l ho s _ h1, show rdN 1 1 (l.length - s.1) s.2.1 = 1 from h2, show rdE 1 1 (l.length - s.1) s.2.1 = 0 from h3, if_pos (by omega)]
  rw [show (t * 128) / 128 = t by omega]
theorem bit01 (b : Bool) : bitI b = 0 ∨ bitI b = 1 := by cases b <;> simp [bitI]
theorem bit_eq (b : Bool) : (bitI b == 1) = b := by cases b <;> rfl
theorem ok1 {x : Int} (h : 0 ≤ x ∧ x ≤ 255) : okB ((1 : Nat) : Int) x = true := by simp [okB, top]; omega
theorem ok2 {x : Int} (h : 0 ≤ x ∧ x ≤ 65535) : okB ((2 : Nat) : Int) x = true := by simp [okB, top]; omega
/-- The head that is written is read again. -/
def Back (k : Nat) (p : Pm) : Prop := ∀ (l R : List Int), Oct l → l = hdV p.vs (cpa k) ++ R → ∃ v, rdP l (cpa k) = ((hdV p.vs (cpa k)).length, 0, v) ∧ (crt k || v.getD 10 0 == 1) = (thr p.ro == 1) ∧ ({ (vm v k).p with ro := p.ro, o := p.o } : Pm) = p
theorem back_0 (p : Pm) (hc : p.c = ((0 : Nat) : Int)) (hf : frmV 0 p.vs = true) (hw : witV 0 p.vs = true) : Back 0 p := by
  intro l R ho hl
  obtain ⟨c, i, v, r, mo, pf, d, sq, st, g, a, ro, o⟩ := p
  simp [frmV, crt, cpa, cpas, clrP, clrF, Pm.vs, zer11, bitI_0, thr_0, List.replicate] at hf
  have hh : hdV (Pm.vs ⟨c, i, v, r, mo, pf, d, sq, st, g, a, ro, o⟩) (cpa 0) = bytesOf 2 [0] := by simp [hdV, hdP, cpa, cpas, ctOr]
  rw [hh] at hl ⊢
  have A0 : At l [] (bytesOf 2 [0] ++ R) (0, 0, zer11) := ⟨hl, rfl, rfl⟩
  have e1 := f_none (z := 2) (.inr rfl) A0
  have e : rdP l (cpa 0) = ptStep l (0, 0, zer11) ⟨2, []⟩ := rfl
  refine ⟨zer11, by rw [e, e1]; rfl, ?_, ?_⟩
  · have : thr ro = 0 := by rw [thr_0]; simp_all
    rw [this]; rfl
  · simp at hc
    simp [vm, zer11, Mv.p, pos]
    simp_all
theorem back_1 (p : Pm) (hc : p.c = ((1 : Nat) : Int)) (hf : frmV 1 p.vs = true) (hw : witV 1 p.vs = true) : Back 1 p := by
  intro l R ho hl
  obtain ⟨c, i, v, r, mo, pf, d, sq, st, g, a, ro, o⟩ := p
  simp [frmV, crt, cpa, cpas, clrP, clrF, Pm.vs, zer11, bitI_0, thr_0, List.replicate] at hf
  simp [witV, inP, inF, crt, cpa, cpas, Pm.vs] at hw
  have hh : hdV (Pm.vs ⟨c, i, v, r, mo, pf, d, sq, st, g, a, ro, o⟩) (cpa 1) = bytesOf 1 [i] ++ (bytesOf 1 [v] ++ (bytesOf 2 [r] ++ (bytesOf 1 [bitI g * 128 + mo * 8 + pf] ++ (bytesOf 1 [d] ++ bytesOf 2 [0])))) := by simp [hdV, hdP, cpa, cpas, ctOr, Pm.vs]
  rw [hh] at hl
  have hlen : (hdV (Pm.vs ⟨c, i, v, r, mo, pf, d, sq, st, g, a, ro, o⟩) (cpa 1)).length = 8 := by rw [hh]; rfl
  rw [hlen]
  simp only [List.append_assoc] at hl
  have A0 : At l [] _ (0, 0, zer11) := ⟨hl, rfl, rfl⟩
  have e1 := f_full (j := 0) ho (.inl ⟨rfl, rfl⟩) A0 (ok1 (by omega))
  have A1 := A0.next (v := zer11.set 0 i) (.inl rfl)
  have e2 := f_full (j := 1) ho (.inl ⟨rfl, rfl⟩) A1 (ok1 (by omega))
  have A2 := A1.next (v := (zer11.set 0 i).set 1 v) (.inl rfl)
  have e3 := f_full (j := 2) ho (.inr ⟨rfl, rfl⟩) A2 (ok2 (by omega))
  have A3 := A2.next (v := ((zer11.set 0 i).set 1 v).set 2 r) (.inr rfl)
  have e4 := f_fl1 ho (bit01 g) (by omega) (by omega) A3
  have A4 := A3.next (v := (((((zer11.set 0 i).set 1 v).set 2 r).set 3 (bitI g)).set 4 mo).set 5 pf) (.inl rfl)
  have e5 := f_full (j := 6) ho (.inl ⟨rfl, rfl⟩) A4 (ok1 (by omega))
  have A5 := A4.next (v := ((((((zer11.set 0 i).set 1 v).set 2 r).set 3 (bitI g)).set 4 mo).set 5 pf).set 6 d) (.inl rfl)
  have e6 := f_none (z := 2) (.inr rfl) A5
  have e : rdP l (cpa 1) = ptStep l (ptStep l (ptStep l (ptStep l (ptStep l (ptStep l (0, 0, zer11) ⟨1, [⟨0, 0, 255⟩]⟩) ⟨1, [⟨1, 0, 255⟩]⟩) ⟨2, [⟨2, 0, 65535⟩]⟩) ⟨1, [⟨3, 7, 1⟩, ⟨4, 3, 7⟩, ⟨5, 0, 7⟩]⟩) ⟨1, [⟨6, 0, 255⟩]⟩) ⟨2, []⟩ := rfl
  refine ⟨_, by rw [e, e1, e2, e3, e4, e5, e6], ?_, ?_⟩
  · have : thr ro = 1 := by omega
    rw [this]; rfl
  · simp at hc
    simp [vm, zer11, Mv.p, pos, bit_eq]
    simp_all
theorem back_2 (p : Pm) (hc : p.c = ((2 : Nat) : Int)) (hf : frmV 2 p.vs = true) (hw : witV 2 p.vs = true) : Back 2 p := by
  intro l R ho hl
  obtain ⟨c, i, v, r, mo, pf, d, sq, st, g, a, ro, o⟩ := p
  simp [frmV, crt, cpa, cpas, clrP, clrF, Pm.vs, zer11, bitI_0, thr_0, List.replicate] at hf
  simp [witV, inP, inF, crt, cpa, cpas, Pm.vs] at hw
  have hh : hdV (Pm.vs ⟨c, i, v, r, mo, pf, d, sq, st, g, a, ro, o⟩) (cpa 2) = bytesOf 1 [i] ++ (bytesOf 1 [bitI a * 128 + thr ro * 64] ++ (bytesOf 1 [0] ++ bytesOf 1 [sq])) := by simp [hdV, hdP, cpa, cpas, ctOr, Pm.vs]
  rw [hh] at hl
  have hlen : (hdV (Pm.vs ⟨c, i, v, r, mo, pf, d, sq, st, g, a, ro, o⟩) (cpa 2)).length = 4 := by rw [hh]; rfl
  rw [hlen]
  simp only [List.append_assoc] at hl
  have A0 : At l [] _ (0, 0, zer11) := ⟨hl, rfl, rfl⟩
  have e1 := f_full (j := 0) ho (.inl ⟨rfl, rfl⟩) A0 (ok1 (by omega))
  have A1 := A0.next (v := zer11.set 0 i) (.inl rfl)
  have e2 := f_fl2 ho (bit01 a) (show thr ro = 0 ∨ thr ro = 1 from bit01 _) A1
  have A2 := A1.next (v := ((zer11.set 0 i).set 7 (bitI a)).set 10 (thr ro)) (.inl rfl)
  have e3 := f_none (z := 1) (.inl rfl) A2
  have A3 := A2.next (v := ((zer11.set 0 i).set 7 (bitI a)).set 10 (thr ro)) (.inl rfl)
  have e4 := f_full (j := 8) ho (.inl ⟨rfl, rfl⟩) A3 (ok1 (by omega))
  have e : rdP l (cpa 2) = ptStep l (ptStep l (ptStep l (ptStep l (0, 0, zer11) ⟨1, [⟨0, 0, 255⟩]⟩) ⟨1, [⟨7, 7, 1⟩, ⟨10, 6, 1⟩]⟩) ⟨1, []⟩) ⟨1, [⟨8, 0, 255⟩]⟩ := rfl
  refine ⟨_, by rw [e, e1, e2, e3, e4], ?_, ?_⟩
  · simp [crt, zer11]
  · simp at hc
    simp [vm, zer11, Mv.p, pos, bit_eq]
    simp_all
theorem back_3 (p : Pm) (hc : p.c = ((3 : Nat) : Int)) (hf : frmV 3 p.vs = true) (hw : witV 3 p.vs = true) : Back 3 p := by
  intro l R ho hl
  obtain ⟨c, i, v, r, mo, pf, d, sq, st, g, a, ro, o⟩ := p
  simp [frmV, crt, cpa, cpas, clrP, clrF, Pm.vs, zer11, bitI_0, thr_0, List.replicate] at hf
  simp [witV, inP, inF, crt, cpa, cpas, Pm.vs] at hw
  have hh : hdV (Pm.vs ⟨c, i, v, r, mo, pf, d, sq, st, g, a, ro, o⟩) (cpa 3) = bytesOf 1 [i] ++ (bytesOf 1 [thr ro * 128] ++ (bytesOf 1 [sq] ++ bytesOf 1 [st])) := by simp [hdV, hdP, cpa, cpas, ctOr, Pm.vs]
  rw [hh] at hl
  have hlen : (hdV (Pm.vs ⟨c, i, v, r, mo, pf, d, sq, st, g, a, ro, o⟩) (cpa 3)).length = 4 := by rw [hh]; rfl
  rw [hlen]
  simp only [List.append_assoc] at hl
  have A0 : At l [] _ (0, 0, zer11) := ⟨hl, rfl, rfl⟩
  have e1 := f_full (j := 0) ho (.inl ⟨rfl, rfl⟩) A0 (ok1 (by omega))
  have A1 := A0.next (v := zer11.set 0 i) (.inl rfl)
  have e2 := f_fl3 ho (show thr ro = 0 ∨ thr ro = 1 from bit01 _) A1
  have A2 := A1.next (v := (zer11.set 0 i).set 10 (thr ro)) (.inl rfl)
  have e3 := f_full (j := 8) ho (.inl ⟨rfl, rfl⟩) A2 (ok1 (by omega))
  have A3 := A2.next (v := ((zer11.set 0 i).set 10 (thr ro)).set 8 sq) (.inl rfl)
  have e4 := f_full (j := 9) ho (.inl ⟨rfl, rfl⟩) A3 (ok1 (by omega))
  have e : rdP l (cpa 3) = ptStep l (ptStep l (ptStep l (ptStep l (0, 0, zer11) ⟨1, [⟨0, 0, 255⟩]⟩) ⟨1, [⟨10, 7, 1⟩]⟩) ⟨1, [⟨8, 0, 255⟩]⟩) ⟨1, [⟨9, 0, 255⟩]⟩ := rfl
  refine ⟨_, by rw [e, e1, e2, e3, e4], ?_, ?_⟩
  · simp [crt, zer11]
  · simp at hc
    simp [vm, zer11, Mv.p, pos, bit_eq]
    simp_all
theorem back_all (k : Nat) (hk : k < 4) (p : Pm) (hc : p.c = (k : Int)) (hf : frmV k p.vs = true) (hw : witV k p.vs = true) : Back k p := by
  have hk' : k = 0 ∨ k = 1 ∨ k = 2 ∨ k = 3 := by omega
  rcases hk' with rfl | rfl | rfl | rfl
  · exact back_0 p hc hf hw
  · exact back_1 p hc hf hw
  · exact back_2 p hc hf hw
  · exact back_3 p hc hf hw
theorem chkM_0 {m : Pm} (h : chkM m = 0) : codB m.c = true ∧ frmV m.c.toNat m.vs = true ∧ witV m.c.toNat m.vs = true ∧ allM m.c m.o = true ∧ encE m.o = 0 := by
  unfold chkM chk0M at h
  by_cases h1 : codB m.c = true
  · by_cases h2 : frmV m.c.toNat m.vs = true
    · by_cases h3 : witV m.c.toNat m.vs = true
      · by_cases h4 : allM m.c m.o = true
        · simp [h1, h2, h3, h4] at h; exact ⟨h1, h2, h3, h4, h⟩
        · simp [h1, h2, h3, h4] at h
      · simp [h1, h2, h3] at h
    · simp [h1, h2] at h
  · simp [h1] at h
theorem eE_0 {m : Pm} (h : eE m = 0) : chkM m = 0 ∧ eL m = hdM m ++ encsL m.o := by
  refine ⟨?_, by rw [eL, if_pos h]⟩
  rw [eE] at h
  split at h
  · assumption
  · rename_i hn; exact Classical.byContradiction fun hh => hn hh
/-- What Encode answers without fault, Decode gives back. -/
theorem back_trip (m : Pm) (h : eE m = 0) (hro : m.ro.length = 16) (ho : Oct (eL m)) (had : ∀ o ∈ m.o, o.ad.length = 16) : dE m.c (eL m) = 0 ∧ dM m.c (eL m) = m := by
  obtain ⟨h1, h2⟩ := eE_0 h
  obtain ⟨c1, c2, c3, c4, c5⟩ := chkM_0 h1
  obtain ⟨k, hk, hk4⟩ := cod_nat c1
  rw [hk, Int.toNat_natCast] at c2 c3
  rw [hk] at c4
  have hdm : hdM m = hdV m.vs (cpa k) ++ (if thr m.ro = 1 then m.ro else []) := by rw [hdM, hk, Int.toNat_natCast]; rfl
  have hl : eL m = hdV m.vs (cpa k) ++ ((if thr m.ro = 1 then m.ro else []) ++ encsL m.o) := by rw [h2, hdm, List.append_assoc]
  obtain ⟨v, g1, g2, g3⟩ := back_all k hk4 m hk c2 c3 (eL m) _ ho hl
  have hdec := dec_of c5 had
  generalize eL m = l at *
  generalize hdV m.vs (cpa k) = H at *
  have hT : rdT k l = (H.length + (if thr m.ro = 1 then m.ro else []).length, 0, if thr m.ro = 1 then m.ro else zeros) := by
    have hB : rdB k (rdP l (cpa k)) = (thr m.ro == 1) := by rw [rdB, g1]; exact g2
    rw [rdT, hB, g1]
    by_cases ht : thr m.ro = 1
    · rw [if_pos ht] at hl
      rw [if_pos (by rw [ht]; rfl), if_pos ht, if_pos ht]
      have hlen : l.length = H.length + (16 + (encsL m.o).length) := by rw [hl]; simp [hro]
      have hE : rdE 1 16 (l.length - H.length) 0 = 0 := by
        rw [rdE, if_pos rfl, if_neg (by simp [sizeB]), if_neg (by omega)]
      have hR : adR l H.length 0 = m.ro := by
        rw [adR, if_pos hE, hl, List.drop_left, List.take_left' hro]
      have hz : m.ro ≠ zeros := by rw [← thr_1]; exact ht
      have hA : adE l H.length 0 = 0 := by rw [adE, hR, if_neg hz, hE]
      have hAA : adA l H.length 0 = H.length + 16 := by rw [adA, rdN, if_pos hE]; rfl
      rw [hA, hAA, hR, hro]
    · rw [if_neg (by simpa using ht), if_neg ht, if_neg ht]; rfl
  have hd : l.drop (H.length + (if thr m.ro = 1 then m.ro else []).length) = encsL m.o := by
    rw [hl, ← List.append_assoc, ← List.length_append, List.drop_left]
  have hro2 : (if thr m.ro = 1 then m.ro else zeros) = m.ro := by
    by_cases ht : thr m.ro = 1
    · rw [if_pos ht]
    · rw [if_neg ht]
      have : ¬ m.ro ≠ zeros := by rw [← thr_1]; exact ht
      exact (Classical.not_not.1 this).symm
  have hE : ctE k l = 0 := by
    rw [ctE, hT]
    simp only [opE, opP, rst, if_true, hd, hdec, spE, c4]
  have hM : dcM k l = m := by
    have hP : dcP k l = m.o := by rw [dcP, hT]; simp only [opP, rst, if_true, hd, hdec]
    rw [dcM, hP, hT, g1]
    simp only [hro2]
    exact g3
  constructor
  · rw [dE, if_pos c1, hk, Int.toNat_natCast]; exact hE
  · rw [dM, if_pos c1, hk, Int.toNat_natCast, if_pos hE]; exact hM
end Go.Proofs.YtbklpelikaapoaaGreatDoor

namespace Go.Proofs.YtbklpelikaapoaaGreatDoor
open Go.ChangeShapes Go.WideShapes Go.ChangeAt Go.RowKit Go.Deep
set_option linter.unusedVariables false
set_option linter.unusedSimpArgs false

set_option maxHeartbeats 400000 in
theorem equal39_len (a b : Option Addr) (n ca cb : Nat) (l m : List Int) (w : World) (ha : Lies .i64 w a n ca l) (hb : Lies .i64 w b n cb m) :
    Calls Tryz.prog 83 #[.slice a n ca, .slice b n cb] w fun e w' => e = .returned (.bool (l == m)) ∧ ∃ q, w' = w.drewN q := by
  obtain ⟨hl, hlc, hcm, _, hc⟩ := ha
  obtain ⟨hl2, hlc2, hcm2, _, hc2⟩ := hb
  unfold maxLen at hcm hcm2
  have HC : Hid _ := hc
  have HL : Hid (l.length = n) := hl
  have HC2 : Hid _ := hc2
  have HL2 : Hid (m.length = n) := hl2
  clear hc hl hc2 hl2
  go_enter Tryz.func83, Tryz.ntmps83
  go_wp2
  go_loopw [13] (fun i wr => ∃ k : Nat, k ≤ n ∧ i = .int .i64 k ∧ Hid (l.take k = m.take k) ∧ ∃ q, wr = w.drewN q) (fun i _ => n - (intOf i).toNat)
  case atStart => exact ⟨0, Nat.zero_le _, rfl, rfl, 0, rfl⟩
  case round =>
    obtain ⟨k, hk, rfl, hall, q, rfl⟩ := hrel
    by_cases hlt : k < n
    · obtain ⟨b1, off1, rfl, hcell1⟩ := HC.out k hlt
      obtain ⟨b2, off2, rfl, hcell2⟩ := HC2.out k hlt
      have HD : Hid (l.getD k 0 ≠ m.getD k 0 → (l == m) = false) := take_differ l m k (by rw [HL.out]; exact hlt) (by rw [HL2.out]; exact hlt)
      have HS : Hid (l.getD k 0 = m.getD k 0 → l.take (k + 1) = m.take (k + 1)) := take_same l m k (by rw [HL.out]; exact hlt) (by rw [HL2.out]; exact hlt) hall.out
      have hlt' : (k : Int) < (n : Int) := by omega
      generalize l.getD k 0 = x at *
      generalize m.getD k 0 = y at *
      go_wp2
      go_quiet (fail)
      by_cases hxy : x = y
      · have hb : (x != y) = false := by simp [hxy]
        have HX : Hid (x = y) := hxy
        clear hxy
        go_wp2
        go_roundw
        case rel => exact ⟨k + 1, by omega, by go_num, HS.out HX.out, q + nq, rfl⟩
        case measure => simp [intOf]; omega
      · have hb : (x != y) = true := by rw [bne_iff_ne]; exact hxy
        go_wp2
        go_ret
        exact ⟨ret_bool (HD.out hxy).symm, q + nq, World.drewN_drewN ..⟩
    · obtain rfl : k = n := by omega
      go_wp2
      go_ret
      refine ⟨ret_bool ?_, q, rfl⟩
      have h1 : l.take k = l := List.take_of_length_le (by rw [HL.out]; exact Nat.le_refl _)
      have h2 : m.take k = m := List.take_of_length_le (by rw [HL2.out]; exact Nat.le_refl _)
      have := hall.out
      rw [h1, h2] at this
      simp [this]
theorem equal39_any (a b : Option Addr) (la ca lb cb : Nat) (l m : List Int) (w : World) (ha : Lies .i64 w a la ca l) (hb : Lies .i64 w b lb cb m) :
    Calls Tryz.prog 83 #[.slice a la ca, .slice b lb cb] w fun e w' => e = .returned (.bool (l == m)) ∧ ∃ q, w' = w.drewN q := by
  by_cases h : la = lb
  · subst h; exact equal39_len a b la ca cb l m w ha hb
  · have hne : ((la : Int) != (lb : Int)) = true := by rw [bne_iff_ne]; omega
    have HE : Hid ((l == m) = false) := by
      rw [Hid, beq_eq_false_iff_ne]
      intro e; subst e
      exact h (ha.1.symm.trans hb.1)
    clear h ha hb
    go_enter Tryz.func83, Tryz.ntmps83
    go_wp2
    go_ret
    exact ⟨ret_bool HE.out.symm, 0, rfl⟩
set_option maxHeartbeats 400000 in
theorem equal40_len (a b : Option Addr) (n ca cb : Nat) (l m : List Int) (w : World) (ha : Lies .u8 w a n ca l) (hb : Lies .u8 w b n cb m) :
    Calls Tryz.prog 84 #[.slice a n ca, .slice b n cb] w fun e w' => e = .returned (.bool (l == m)) ∧ ∃ q, w' = w.drewN q := by
  obtain ⟨hl, hlc, hcm, _, hc⟩ := ha
  obtain ⟨hl2, hlc2, hcm2, _, hc2⟩ := hb
  unfold maxLen at hcm hcm2
  have HC : Hid _ := hc
  have HL : Hid (l.length = n) := hl
  have HC2 : Hid _ := hc2
  have HL2 : Hid (m.length = n) := hl2
  clear hc hl hc2 hl2
  go_enter Tryz.func84, Tryz.ntmps84
  go_wp2
  go_loopw [13] (fun i wr => ∃ k : Nat, k ≤ n ∧ i = .int .i64 k ∧ Hid (l.take k = m.take k) ∧ ∃ q, wr = w.drewN q) (fun i _ => n - (intOf i).toNat)
  case atStart => exact ⟨0, Nat.zero_le _, rfl, rfl, 0, rfl⟩
  case round =>
    obtain ⟨k, hk, rfl, hall, q, rfl⟩ := hrel
    by_cases hlt : k < n
    · obtain ⟨b1, off1, rfl, hcell1⟩ := HC.out k hlt
      obtain ⟨b2, off2, rfl, hcell2⟩ := HC2.out k hlt
      have HD : Hid (l.getD k 0 ≠ m.getD k 0 → (l == m) = false) := take_differ l m k (by rw [HL.out]; exact hlt) (by rw [HL2.out]; exact hlt)
      have HS : Hid (l.getD k 0 = m.getD k 0 → l.take (k + 1) = m.take (k + 1)) := take_same l m k (by rw [HL.out]; exact hlt) (by rw [HL2.out]; exact hlt) hall.out
      have hlt' : (k : Int) < (n : Int) := by omega
      generalize l.getD k 0 = x at *
      generalize m.getD k 0 = y at *
      go_wp2
      go_quiet (fail)
      by_cases hxy : x = y
      · have hb : (x != y) = false := by simp [hxy]
        have HX : Hid (x = y) := hxy
        clear hxy
        go_wp2
        go_roundw
        case rel => exact ⟨k + 1, by omega, by go_num, HS.out HX.out, q + nq, rfl⟩
        case measure => simp [intOf]; omega
      · have hb : (x != y) = true := by rw [bne_iff_ne]; exact hxy
        go_wp2
        go_ret
        exact ⟨ret_bool (HD.out hxy).symm, q + nq, World.drewN_drewN ..⟩
    · obtain rfl : k = n := by omega
      go_wp2
      go_ret
      refine ⟨ret_bool ?_, q, rfl⟩
      have h1 : l.take k = l := List.take_of_length_le (by rw [HL.out]; exact Nat.le_refl _)
      have h2 : m.take k = m := List.take_of_length_le (by rw [HL2.out]; exact Nat.le_refl _)
      have := hall.out
      rw [h1, h2] at this
      simp [this]
theorem equal40_any (a b : Option Addr) (la ca lb cb : Nat) (l m : List Int) (w : World) (ha : Lies .u8 w a la ca l) (hb : Lies .u8 w b lb cb m) :
    Calls Tryz.prog 84 #[.slice a la ca, .slice b lb cb] w fun e w' => e = .returned (.bool (l == m)) ∧ ∃ q, w' = w.drewN q := by
  by_cases h : la = lb
  · subst h; exact equal40_len a b la ca cb l m w ha hb
  · have hne : ((la : Int) != (lb : Int)) = true := by rw [bne_iff_ne]; omega
    have HE : Hid ((l == m) = false) := by
      rw [Hid, beq_eq_false_iff_ne]
      intro e; subst e
      exact h (ha.1.symm.trans hb.1)
    clear h ha hb
    go_enter Tryz.func84, Tryz.ntmps84
    go_wp2
    go_ret
    exact ⟨ret_bool HE.out.symm, 0, rfl⟩
/-- Are two options the same? -/
def Po.eqB (p q : Po) : Bool := p.k == q.k && (p.ad == q.ad && (p.n == q.n && p.t == q.t))
theorem Po.eqB_self (p : Po) : p.eqB p = true := by simp [Po.eqB]
set_option maxHeartbeats 1600000 in
theorem same1_any (o p : Ov) (w : World) (ho : o.ok w) (hp : p.ok w) :
    Calls Tryz.prog 82 #[.agg o.cs, .agg p.cs] w fun e w' => e = .returned (.bool (o.p.eqB p.p)) ∧ Below w.heap.size w w' := by
  have B0 := hid (balloc (balloc (Below.refl w.heap.size w) (.cells o.cs 140)) (.cells p.cs 140))
  have R0 := hid ((Row.new w 140 o.cs).alloc (.cells p.cs 140))
  have R1 := hid (Row.new (w.alloc (.cells o.cs 140)) 140 p.cs)
  have hs1 : (w.alloc (.cells o.cs 140)).heap.size = w.heap.size + 1 := World.size_alloc ..
  rw [hs1] at R1
  have O0 := hid (ho.below B0.out)
  have P0 := hid (hp.below B0.out)
  have HA := hid ho.ad
  have HB := hid hp.ad
  have hq := eq41 o.ad p.ad ho.ad.1 hp.ad.1
  have HF : Hid (o.p.eqB p.p = (o.k == p.k && (o.ad == p.ad && (o.n.l == p.n.l && o.t.l == p.t.l)))) := rfl
  have cN := hid (fun w' (hb : Below w.heap.size w w') => equal39_any o.n.a p.n.a o.n.n o.n.cap p.n.n p.n.cap o.n.l p.n.l w' (ho.n.below hb) (hp.n.below hb))
  have cT := hid (fun w' (hb : Below w.heap.size w w') => equal40_any o.t.a p.t.a o.t.n o.t.cap p.t.n p.t.cap o.t.l p.t.l w' (ho.t.below hb) (hp.t.below hb))
  generalize o.p.eqB p.p = fb at *
  clear ho hp hs1
  generalize hkk : (o.k == p.k) = kb at *
  generalize (o.ad == p.ad) = ab at *
  generalize (o.n.l == p.n.l) = nb at *
  generalize (o.t.l == p.t.l) = tb at *
  go_enter Tryz.func82, Tryz.ntmps82
  go_upto_region 1 with fail
  generalize hw1 : (w.alloc (.cells o.cs 140)).alloc (.cells p.cs 140) = w1 at *
  have a0 := (R0.out.cell 0).trans o.at0
  have b0 := (R1.out.cell 0).trans p.at0
  have a1 := (R0.out.cell 1).trans o.at1
  have b1 := (R1.out.cell 1).trans p.at1
  have a18 := (R0.out.cell 18).trans (Ov.at18 HA.out)
  have b18 := (R1.out.cell 18).trans (Ov.at18 HB.out)
  have PA := hid (R0.out.part.ovA HA.out)
  have PB := hid (R1.out.part.ovA HB.out)
  clear hw1
  cases kb
  · go_wp2_with fail
    go_ret
    exact ⟨ret_bool (by rw [HF.out]; rfl), B0.out⟩
  · cases ab
    · go_wp2_with (first | (refine ld41 _ rfl rfl _ _ rfl o.ad HA.out PA.out ?_) | (refine ld41 _ rfl rfl _ _ rfl p.ad HB.out PB.out ?_))
      go_ret
      exact ⟨ret_bool (by rw [HF.out]; rfl), B0.out⟩
    · go_wp2_with (first | (refine ld41 _ rfl rfl _ _ rfl o.ad HA.out PA.out ?_) | (refine ld41 _ rfl rfl _ _ rfl p.ad HB.out PB.out ?_))
      refine (cN.out _ B0.out).mono ?_
      rintro e w2 ⟨rfl, q, rfl⟩
      have B2 := hid (bdrew B0.out q)
      cases nb
      · go_wp2_with fail
        go_ret
        exact ⟨ret_bool (by rw [HF.out]; rfl), B2.out⟩
      · go_wp2_with fail
        refine (cT.out _ B2.out).mono ?_
        rintro e w3 ⟨rfl, q3, rfl⟩
        cases tb
        · go_wp2_with fail
          go_ret
          exact ⟨ret_bool (by rw [HF.out]; rfl), bdrew B0.out _⟩
        · go_wp2_with fail
          go_ret
          exact ⟨ret_bool (by rw [HF.out]; rfl), bdrew B0.out _⟩
end Go.Proofs.YtbklpelikaapoaaGreatDoor

namespace Go.Proofs.YtbklpelikaapoaaGreatDoor
open Go.ChangeShapes Go.WideShapes Go.ChangeAt Go.RowKit Go.Deep
set_option linter.unusedVariables false
set_option linter.unusedSimpArgs false

/-- Are the first ones the same? -/
def allTo (L M : List Po) (j : Nat) : Bool := (List.range j).all fun i => (L.getD i Po.none).eqB (M.getD i Po.none)
def allB (L M : List Po) : Bool := (L.length == M.length) && allTo L M L.length
theorem allTo_succ (L M : List Po) (j : Nat) : allTo L M (j + 1) = (allTo L M j && (L.getD j Po.none).eqB (M.getD j Po.none)) := by
  unfold allTo; rw [List.range_succ, List.all_append]; simp
theorem allTo_no (L M : List Po) (j n : Nat) (hj : j < n) (h : (L.getD j Po.none).eqB (M.getD j Po.none) = false) : allTo L M n = false := by
  unfold allTo; rw [List.all_eq_false]; exact ⟨j, by simpa using hj, by simpa using h⟩
theorem allB_self (L : List Po) : allB L L = true := by
  simp [allB, allTo, Po.eqB_self]
set_option maxRecDepth 100000 in
set_option maxHeartbeats 1600000 in
theorem equalFunc_any (a b : Option Addr) (n ca m cb : Nat) (L M : List Ov) (w : World) (hL : Opts w a n ca L) (hM : Opts w b m cb M) :
    Calls Tryz.prog 81 #[.slice a n ca, .slice b m cb, .func (.func 82) #[] #[]] w fun e w' => e = .returned (.bool (allB (pos L) (pos M))) ∧ Below w.heap.size w w' := by
  have hz := zov
  have k1 := Nat.le_trans hL.le hL.max
  have k2 := Nat.le_trans hM.le hM.max
  unfold maxLen at k1 k2
  have HL := hid hL
  have HM := hid hM
  have HF : Hid (allB (pos L) (pos M) = ((n == m) && allTo (pos L) (pos M) n)) := by rw [Hid, allB, pos_len, pos_len, hL.len, hM.len]
  have ll := hid hL.len
  have lm := hid hM.len
  clear hL hM
  generalize allB (pos L) (pos M) = fb at *
  by_cases hnm : n = m
  · subst hnm
    have HF : Hid (fb = allTo (pos L) (pos M) n) := by rw [Hid, HF.out]; simp
    go_enter Tryz.func81, Tryz.ntmps81
    go_wp2_with fail
    go_loopw [17] (fun i wr => ∃ j : Nat, j ≤ n ∧ i = .int .i64 j ∧ Hid (allTo (pos L) (pos M) j = true) ∧ Hid (Below w.heap.size w wr)) (fun i _ => n - (intOf i).toNat)
    case atStart => exact ⟨0, Nat.zero_le _, rfl, rfl, Below.refl _ _⟩
    case round =>
      obtain ⟨j, hj, rfl, hall, hb⟩ := hrel
      by_cases hlt : j < n
      · have hlt' : (j : Int) < (n : Int) := by omega
        obtain ⟨b1, off1, rfl, hp1⟩ := (HL.out.below hb.out).cell j hlt
        obtain ⟨b2, off2, rfl, hp2⟩ := (HM.out.below hb.out).cell j hlt
        have ok1 := (HL.out.below hb.out).at j hlt
        have ok2 := (HM.out.below hb.out).at j hlt
        have HS := hid (allTo_succ (pos L) (pos M) j)
        have HN := hid (allTo_no (pos L) (pos M) j n hlt)
        rw [pos_at L j (by rw [ll.out]; exact hlt), pos_at M j (by rw [lm.out]; exact hlt)] at HS HN
        generalize L.getD j Ov.zero = o at *
        generalize M.getD j Ov.zero = p at *
        have P1 := hid hp1
        have P2 := hid hp2
        have O1 := hid ok1
        have O2 := hid ok2
        have A1 := hid ok1.ad
        have A2 := hid ok2.ad
        clear hp1 hp2 ok1 ok2
        have Ra := hid (layOo_new wr 140 o)
        have Ba := hid (layOo_below wr 140 o)
        go_upto_region 6 with (first | (refine ldOo o43 _ rfl rfl _ _ rfl o A1.out P1.out ?_) | (refine stOo o43 _ _ rfl rfl wr.heap.size o A1.out rfl rfl 140 Ov.zero adr_zeros (Row.new wr 140 _) ?_))
        generalize hw2 : (wr.alloc (.cells Ov.zero.cs 140)).setRow wr.heap.size o.cs = w2 at *
        generalize hg1 : wr.heap.size = g1 at *
        have P3 := hid (Part.below P2.out (by rw [hg1]; exact Ba.out))
        have O3 := hid (O1.out.below (by rw [hg1]; exact Ba.out))
        have O4 := hid (O2.out.below (by rw [hg1]; exact Ba.out))
        have B3 := hid (bthen hb.out (by rw [hg1]; exact Ba.out))
        clear hw2 P1 P2 O1 O2
        have Rb := hid (layOo_new w2 140 p)
        have Bb := hid (layOo_below w2 140 p)
        have Rc := hid (Ra.out.below Bb.out)
        go_upto_region 7 with (first | (refine ldOo o43 _ rfl rfl _ _ rfl p A2.out P3.out ?_) | (refine stOo o43 _ _ rfl rfl w2.heap.size p A2.out rfl rfl 140 Ov.zero adr_zeros (Row.new w2 140 _) ?_))
        generalize hw3 : (w2.alloc (.cells Ov.zero.cs 140)).setRow w2.heap.size p.cs = w3 at *
        have O5 := hid (O3.out.below Bb.out)
        have O6 := hid (O4.out.below Bb.out)
        have B4 := hid (bthen B3.out Bb.out)
        generalize hg2 : w2.heap.size = g2 at *
        clear hw3 O3 O4 P3 hg1 hg2
        go_wp2_with (first | (refine ldOo o43 _ rfl rfl _ _ rfl o A1.out Rc.out.part ?_) | (refine ldOo o43 _ rfl rfl _ _ rfl p A2.out Rb.out.part ?_))
        refine (same1_any o p _ O5.out O6.out).mono ?_
        rintro e w4 ⟨rfl, hb4⟩
        have B5 := hid (bthen B4.out hb4)
        clear hb4
        cases hc : o.p.eqB p.p
        · rw [hc] at HN
          go_wp2_with fail
          go_ret
          exact ⟨ret_bool (by rw [HF.out]; exact (HN.out (by simp)).symm), B5.out⟩
        · rw [hc] at HS
          go_wp2_with fail
          go_roundw
          case rel => exact ⟨j + 1, by omega, by go_num, by rw [Hid, HS.out, hall.out]; rfl, B5.out⟩
          case measure => simp [intOf]; omega
      · obtain rfl : j = n := by omega
        go_wp2_with fail
        go_ret
        exact ⟨ret_bool (by rw [HF.out]; exact hall.out.symm), hb.out⟩
  · have hne : ((n : Int) != (m : Int)) = true := by rw [bne_iff_ne]; omega
    have HF : Hid (fb = false) := by rw [Hid, HF.out]; simp [hnm]
    clear hnm
    go_enter Tryz.func81, Tryz.ntmps81
    go_wp2_with fail
    go_ret
    exact ⟨ret_bool HF.out.symm, Below.refl _ _⟩
theorem oSame_any (a b : Option Addr) (n ca m cb : Nat) (L M : List Ov) (w : World) (hL : Opts w a n ca L) (hM : Opts w b m cb M) :
    Calls Tryz.prog 51 #[.slice a n ca, .slice b m cb] w fun e w' => e = .returned (.bool (allB (pos L) (pos M))) ∧ Below w.heap.size w w' := by
  have HL := hid hL
  have HM := hid hM
  clear hL hM
  go_enter Tryz.func51, Tryz.ntmps51
  go_wp2_with fail
  refine (equalFunc_any a b n ca m cb L M _ HL.out HM.out).mono ?_
  rintro e w' ⟨rfl, hb⟩
  go_wp2_with fail
  go_ret
  exact ⟨rfl, hb⟩
end Go.Proofs.YtbklpelikaapoaaGreatDoor
