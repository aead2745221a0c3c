/- Reading: Decode. · Reading what was written, and writing what was read: no program. · Options: what is written is read, and what is read is written. · The document's answer: a kind's letters; Parts, Word, size. -/
import Derived.Test.YtbgogeojdibmkaaDoorNxo
import Derived.Test.YtbgogeojdibmkaaDoorM6
import Derived.Test.YtbgogeojdibmkaaDoorM7
namespace Go.Proofs.YtbgogeojdibmkaaDoor
open Go.ChangeShapes Go.WideShapes Go.ChangeAt Go.RowKit Go.Deep
set_option linter.unusedVariables false
set_option linter.unusedSimpArgs false

theorem next_any {B base : Nat} (w w0 : World) (p c : Nat) (a : Option Addr) (len cap : Nat) (l : List Int) (at_ : Nat) (gv : Value) (L : List Ov) (h : NxAt base w w0 p c a len cap l at_ 0 gv L) (hV : Vars B w0) (hB : B ≤ base) (hat : at_ < len) (hL : L.length ≤ 16) :
    Calls Tryd.prog 35 #[.pointer (some ⟨p, 0, none⟩)] w0 fun e w' => e = .returned (.tuple #[]) ∧ Hid (NxOk base w w' p c a len cap l at_ L) := by
  by_cases h16 : L.length = 16
  · exact next_full w w0 p c a len cap l at_ gv L h hV hB hat hL h16
  · cases hk : kndB (nxK (l.drop at_))
    · exact next_kind w w0 p c a len cap l at_ gv L h hV hB hat hL h16 hk
    · obtain ⟨k, e, hk10⟩ := knd_nat hk
      by_cases h0 : k = 0
      · exact next_pad w w0 p c a len cap l at_ gv L h hV hB hat hL h16 (by rw [e, h0]; rfl)
      · exact next_other w w0 p c a len cap l at_ gv L h hV hB hat hL h16 k hk10 h0 e
theorem nxN_pos (m : List Int) : 1 ≤ nxN m := by unfold nxN; split <;> omega
/-- The options of bytes behind n others, and what is wrong. -/
def dec (n : Nat) (m : List Int) : List Po × Int :=
  if h : m = [] then ([], 0) else if nxE n m = 0 then (nxP m :: (dec (n + 1) (m.drop (nxN m))).1, (dec (n + 1) (m.drop (nxN m))).2) else ([], nxE n m)
termination_by m.length
decreasing_by all_goals (have := nxN_pos m; have : 0 < m.length := List.length_pos_iff.2 h; simp only [List.length_drop]; omega)
theorem dec_nil (n : Nat) : dec n [] = ([], 0) := by rw [dec]; rfl
theorem dec_ok {n : Nat} {m : List Int} (hm : m ≠ []) (h : nxE n m = 0) : dec n m = (nxP m :: (dec (n + 1) (m.drop (nxN m))).1, (dec (n + 1) (m.drop (nxN m))).2) := by
  rw [dec, dif_neg hm, if_pos h]
theorem dec_bad {n : Nat} {m : List Int} (hm : m ≠ []) (h : nxE n m ≠ 0) : dec n m = ([], nxE n m) := by
  rw [dec, dif_neg hm, if_neg h]
/-- Where Decode stands. -/
def DecAt (l : List Int) (at_ : Nat) (er : Int) (L : List Ov) : Prop :=
  (er = 0 → dec 0 l = (pos L ++ (dec L.length (l.drop at_)).1, (dec L.length (l.drop at_)).2)) ∧ (er ≠ 0 → (dec 0 l).2 = er)
theorem DecAt.next {l : List Int} {at_ : Nat} {L L2 : List Ov} {at2 : Nat} {er2 : Int} (h : DecAt l at_ 0 L) (hat : at_ < l.length) (he : er2 = nxE L.length (l.drop at_)) (h2 : er2 = 0 → pos L2 = pos L ++ [nxP (l.drop at_)] ∧ at2 = at_ + nxN (l.drop at_)) : DecAt l at2 er2 L2 := by
  have hm : l.drop at_ ≠ [] := fun e => by have := congrArg List.length e; simp at this; omega
  have h0 := h.1 rfl
  constructor
  · intro e
    obtain ⟨e1, e2⟩ := h2 e
    have hl : L2.length = L.length + 1 := by rw [← pos_len L2, e1, List.length_append, pos_len]; rfl
    rw [h0, dec_ok hm (he.symm.trans e), hl, e1, e2, List.drop_drop]; simp
  · intro e
    rw [h0, dec_bad hm (fun e3 => e (he.trans e3)), he]
def mz (er : Int) (len at_ : Nat) : Nat := if er = 0 then len - at_ + 1 else 0
/-- What Decode answers. -/
def DecOk (w : World) (l : List Int) (e : Ending) (w' : World) : Prop :=
  ∃ v L, e = .returned (.tuple #[v, .int .i64 (dec 0 l).2]) ∧ Below w.heap.size w w' ∧ w'.ownsRow w.heap.size 43 19 v L.length (ocs L) ∧ (∀ o ∈ L, Own2 w.heap.size w' o) ∧ pos L = (if (dec 0 l).2 = 0 then (dec 0 l).1 else []) ∧ L.length ≤ 16
set_option maxRecDepth 100000 in
set_option maxHeartbeats 1600000 in
theorem decode_any {B : Nat} (a : Option Addr) (len cap : Nat) (l : List Int) (w : World) (h : Lies .u8 w a len cap l) (ho : Oct l) (hl : len ≤ 100000) (hV : Vars B w) :
    Calls Tryd.prog 19 #[.slice a len cap] w (DecOk w l) := by
  have HL := hid h
  have HO := hid ho
  have HV := hid hV
  have HLl := hid h.1
  have hB : Hid (B ≤ w.heap.size) := hV.le
  clear h ho hV
  go_enter Tryd.func19, Tryd.ntmps19
  go_wp2_with fail
  refine (over_own a len cap l w HL.out HO.out hl).mono ?_
  rintro e w1 ⟨c, a2, cap2, rfl, hc, hb, hc1, hc2, hw⟩
  have N1 : Hid (NxAt w.heap.size w ((w1.alloc (.cells #[.pointer (some ⟨c, 0, none⟩), .slice none 0 0] 72))) w1.heap.size c a2 len cap2 l 0 0 (.slice none 0 0) []) := by
    have ba := balloc (Below.refl w1.heap.size w1) (.cells #[.pointer (some ⟨c, 0, none⟩), .slice none 0 0] 72)
    exact ⟨Row.new _ _ _, hc.below ba, own_below hw ba, World.ownsRow_nil _ _ _ _, fun o ho => (by cases ho), bthen hb ba, hc1, hb.size⟩
  clear hc hb hc1 hc2 hw
  go_wp2_with fail
  generalize w1.alloc (.cells #[.pointer (some ⟨c, 0, none⟩), .slice none 0 0] 72) = ws at *
  generalize w1.heap.size = p at *
  go_loopg [] (mz 0 len 0) (fun g wr => ∃ at2 er2 gv L, g = mz er2 len at2 ∧ L.length ≤ 16 ∧ Hid (NxAt w.heap.size w wr p c a2 len cap2 l at2 er2 gv L) ∧ Hid (DecAt l at2 er2 L))
  case atStart => exact ⟨0, 0, _, [], rfl, by simp, N1.out, fun _ => by simp [pos], fun e => absurd rfl e⟩
  case round =>
    obtain ⟨at2, er2, gv, L, hg, hL16, hN, hD⟩ := hrel
    have HG := hid hg
    have HL16 := hid hL16
    have r0 := hN.out.r.cell 0
    simp only [List.getElem?_toArray, List.getElem?_cons_zero] at r0
    have e0 := hN.out.cur.cell2
    clear hg hL16 N1
    by_cases her : er2 = 0
    · subst her
      by_cases hat : at2 < len
      · have hat1 : decide ((0 : Int) < (len : Int) - at2) = true := decide_eq_true (by omega)
        have HAt := hid hat
        clear hat
        go_wp2_with fail
        refine (err_any _ c 0 e0).mono ?_
        rintro e w2 ⟨rfl, rfl⟩
        go_wp2_with fail
        refine (left_any _ c a2 len cap2 at2 l 0 hN.out.cur).mono ?_
        rintro e w3 ⟨rfl, q, rfl⟩
        have r1 : (w2.drewN q).cell? ⟨p, 0, none⟩ = _ := r0
        have HNq := hid (hN.out.drewN q)
        generalize w2.drewN q = w4 at *
        go_wp2_with fail
        refine (next_any (B := B) w w4 p c a2 len cap2 l at2 gv L HNq.out (HV.out.rd (Below.refl _ _) HNq.out.below hB.out HNq.out.size) hB.out HAt.out HL16.out).mono ?_
        rintro e w5 ⟨rfl, hx⟩
        obtain ⟨at3, er3, gv3, L3, h1, h2, h3, h4⟩ := hx.out
        go_wp2_with fail
        go_roundg (mz er3 len at3)
        case measure =>
          rw [HG.out, mz, mz, if_pos rfl]
          have := h1.cur.le
          have := nxN_pos (l.drop at2)
          split
          · rename_i e; have := (h4 e).2; have := HAt.out; omega
          · omega
        case rel => exact ⟨at3, er3, gv3, L3, rfl, h3, h1, hD.out.next (by rw [HLl.out]; exact HAt.out) h2 h4⟩
      · have hle := hN.out.cur.le
        have hat1 : decide ((0 : Int) < (len : Int) - at2) = false := decide_eq_false (by omega)
        have hat2 : decide (at2 < len) = false := decide_eq_false hat
        have HAt : Hid (at2 = len) := by rw [Hid]; omega
        clear hat hle
        obtain ⟨ga, gc, rfl⟩ := owns_len hN.out.got
        go_wp2_with fail
        refine (err_any _ c 0 e0).mono ?_
        rintro e w2 ⟨rfl, rfl⟩
        go_wp2_with fail
        refine (left_any _ c a2 len cap2 at2 l 0 hN.out.cur).mono ?_
        rintro e w3 ⟨rfl, q, rfl⟩
        have r1 : (w2.drewN q).cell? ⟨p, 0, none⟩ = _ := r0
        have e1 : (w2.drewN q).cell? ⟨c, 2, none⟩ = _ := e0
        have HNq := hid (hN.out.drewN q)
        generalize w2.drewN q = w4 at *
        go_wp2_with fail
        refine (err_any _ c 0 e1).mono ?_
        rintro e w2 ⟨rfl, rfl⟩
        have r2 := HNq.out.r.cell 1
        simp only [List.getElem?_toArray, List.getElem?_cons_zero, List.getElem?_cons_succ] at r2
        go_wp2_with fail
        go_returns
        have hd : dec 0 l = (pos L, 0) := by
          have := hD.out.1 rfl
          rw [HAt.out, List.drop_of_length_le (by rw [HLl.out]; exact Nat.le_refl _), dec_nil] at this
          simpa using this
        refine ⟨.slice ga L.length gc, L, by rw [hd]; rfl, HNq.out.below, HNq.out.got, HNq.out.own, by rw [hd]; simp, HL16.out⟩
    · have he1 : (er2 == 0) = false := by simp [her]
      have he2 : (er2 != 0) = true := by rw [bne_iff_ne]; exact her
      have HER := hid her
      clear her
      go_wp2_with fail
      refine (err_any _ c er2 e0).mono ?_
      rintro e w2 ⟨rfl, rfl⟩
      go_wp2_with fail
      refine (err_any _ c er2 e0).mono ?_
      rintro e w2 ⟨rfl, rfl⟩
      go_wp2_with fail
      go_returns
      have hd := hD.out.2 HER.out
      refine ⟨.slice none 0 0, [], by rw [hd]; rfl, hN.out.below, World.ownsRow_nil _ _ _ _, fun o ho => (by cases ho), by rw [hd, if_neg HER.out]; rfl, by simp⟩
end Go.Proofs.YtbgogeojdibmkaaDoor

namespace Go.Proofs.YtbgogeojdibmkaaDoor
open Go.ChangeShapes Go.WideShapes Go.ChangeAt Go.RowKit Go.Deep
set_option linter.unusedVariables false
set_option linter.unusedSimpArgs false

theorem numOf_digs (size n : Int) (hz : sizeB size = true) (h : okB size n = true) : numOf (digs size n) = n := by
  rcases sizeB_cases hz with e | e | e <;> subst e <;> simp [okB, top] at h <;> simp [digs, numOf] <;> omega
theorem digs_numOf (size : Int) (l : List Int) (hz : sizeB size = true) (hl : l.length = size.toNat) (ho : Oct l) : digs size (numOf l) = l := by
  rcases sizeB_cases hz with e | e | e <;> subst e
  · match l, hl with
    | [a], _ => have h1 := ho a (by simp); simp [digs, numOf]; omega
  · match l, hl with
    | [a, b], _ => have h1 := ho a (by simp); have h2 := ho b (by simp); simp [digs, numOf]; omega
  · match l, hl with
    | [a, b, c, d], _ => have h1 := ho a (by simp); have h2 := ho b (by simp); have h3 := ho c (by simp); have h4 := ho d (by simp); simp [digs, numOf]; omega
theorem widB_cons (q : Int × Int) (P : List (Int × Int)) (x : Int) (n : List Int) : widB (q :: P) (x :: n) = (inB q x && widB P n) := by
  unfold widB
  rw [List.length_cons, List.range_succ_eq_map]
  simp [List.all_map, Function.comp_def]
/-- Reading what was written. -/
theorem fold_parts (P : List (Int × Int)) : (∀ p ∈ P, (p.1 == 16) = true ∨ (sizeB p.1 = true ∧ p.2 < top p.1)) → ∀ (pre n ad N A post : List Int), n.length = (nmb P).length → widB (nmb P) n = true → ad.length = 16 →
    P.foldl (stp (pre ++ (partsB P n ad ++ post))) (pre.length, N, A) = (pre.length + (partsB P n ad).length, N ++ n, if P.any (fun p => p.1 == 16) = true then ad else A) := by
  induction P with
  | nil =>
    intro _ pre n ad N A post hn _ _
    have : n = [] := List.eq_nil_of_length_eq_zero hn
    subst this
    simp [partsB]
  | cons q P ih =>
    intro hP pre n ad N A post hn hw ha
    have hP' : ∀ p ∈ P, (p.1 == 16) = true ∨ (sizeB p.1 = true ∧ p.2 < top p.1) := fun p hp => hP p (by simp [hp])
    by_cases h16 : (q.1 == 16) = true
    · have hnm : nmb (q :: P) = nmb P := by simp [nmb, h16]
      rw [hnm] at hn hw
      have hp : partsB (q :: P) n ad = ad ++ partsB P n ad := by rw [partsB, if_pos h16]
      have hs : stp (pre ++ (ad ++ partsB P n ad ++ post)) (pre.length, N, A) q = ((pre ++ ad).length, N, ad) := by
        rw [stp, if_pos h16]
        simp [ha]
      have he : pre ++ (ad ++ partsB P n ad ++ post) = (pre ++ ad) ++ (partsB P n ad ++ post) := by simp
      rw [hp, List.foldl_cons, hs, he, ih hP' (pre ++ ad) n ad N ad post hn hw ha]
      simp [h16, Nat.add_assoc]
    · have hnm : nmb (q :: P) = q :: nmb P := by simp [nmb, h16]
      rw [hnm] at hn hw
      match n, hn with
      | x :: n, hn =>
        rw [widB_cons, Bool.and_eq_true] at hw
        obtain ⟨hi, hw⟩ := hw
        obtain ⟨hz, ht⟩ : sizeB q.1 = true ∧ q.2 < top q.1 := (hP q (by simp)).resolve_left h16
        have hok : okB q.1 x = true := by simp [inB] at hi; simp [okB]; omega
        have hp : partsB (q :: P) (x :: n) ad = digs q.1 x ++ partsB P n ad := by rw [partsB, if_neg h16]; rfl
        have hdl := digs_length q.1 x hz
        have hs : stp (pre ++ (digs q.1 x ++ partsB P n ad ++ post)) (pre.length, N, A) q = ((pre ++ digs q.1 x).length, N ++ [x], A) := by
          rw [stp, if_neg h16]
          simp [hdl, List.take_left' hdl, numOf_digs q.1 x hz hok]
        have he : pre ++ (digs q.1 x ++ partsB P n ad ++ post) = (pre ++ digs q.1 x) ++ (partsB P n ad ++ post) := by simp
        rw [hp, List.foldl_cons, hs, he, ih hP' (pre ++ digs q.1 x) n ad (N ++ [x]) A post (by simpa using hn) hw ha]
        have h16' : (q.1 == 16) = false := by simpa using h16
        simp only [List.any_cons, h16', Bool.false_or, List.length_append, List.append_assoc, Nat.add_assoc, List.cons_append, List.nil_append]
theorem keepA (l : List Int) (P : List (Int × Int)) (h : ∀ p ∈ P, (p.1 == 16) = false) : ∀ s : Nat × List Int × List Int, (P.foldl (stp l) s).2.2 = s.2.2 := by
  induction P with
  | nil => intro s; rfl
  | cons q P ih =>
    intro s
    rw [List.foldl_cons, ih (fun p hp => h p (by simp [hp])), stp, if_neg (by rw [h q (by simp)]; simp)]
theorem sumP_cons (q : Int × Int) (P : List (Int × Int)) : sumP (q :: P) = q.1 + sumP P := by simp [sumP]
/-- Writing what was read. -/
theorem fold_back (l : List Int) (ho : Oct l) (P : List (Int × Int)) : (∀ p ∈ P, (p.1 == 16) = true ∨ sizeB p.1 = true) → (P.filter (fun p => p.1 == 16)).length ≤ 1 → ∀ (s : Nat) (N A : List Int), (s : Int) + sumP P ≤ l.length →
    0 ≤ sumP P ∧ ∃ n', (P.foldl (stp l) (s, N, A)).2.1 = N ++ n' ∧ n'.length = (nmb P).length ∧ partsB P n' (P.foldl (stp l) (s, N, A)).2.2 = (l.drop s).take (sumP P).toNat := by
  induction P with
  | nil => intro _ _ s N A _; exact ⟨by simp [sumP], [], by simp, by simp [nmb], by simp [partsB, sumP]⟩
  | cons q P ih =>
    intro hP h1 s N A hs
    have hP' : ∀ p ∈ P, (p.1 == 16) = true ∨ sizeB p.1 = true := fun p hp => hP p (by simp [hp])
    rw [sumP_cons] at hs
    by_cases h16 : (q.1 == 16) = true
    · have hq : q.1 = 16 := by simpa using h16
      rw [List.filter_cons, if_pos h16, List.length_cons] at h1
      have hno : ∀ p ∈ P, (p.1 == 16) = false := by
        intro p hp
        cases hx : (p.1 == 16)
        · rfl
        · have := List.length_pos_of_mem (List.mem_filter (p := fun p : Int × Int => p.1 == 16).2 ⟨hp, hx⟩); omega
      have hst : stp l (s, N, A) q = (s + 16, N, (l.drop s).take 16) := by rw [stp, if_pos h16]
      obtain ⟨h0, n', e1, e2, e3⟩ := ih hP' (by omega) (s + 16) N ((l.drop s).take 16) (by omega)
      refine ⟨by rw [sumP_cons]; omega, n', by rw [List.foldl_cons, hst, e1], by rw [e2]; simp [nmb, h16], ?_⟩
      rw [List.foldl_cons, hst, partsB, if_pos h16, e3, keepA l P hno, sumP_cons]
      have e4 : (q.1 + sumP P).toNat = 16 + (sumP P).toNat := by omega
      rw [e4, List.take_add, List.drop_drop]
    · have hz : sizeB q.1 = true := (hP q (by simp)).resolve_left h16
      have hq : 0 ≤ q.1 := by rcases sizeB_cases hz with e | e | e <;> omega
      rw [List.filter_cons, if_neg h16] at h1
      have hst : stp l (s, N, A) q = (s + q.1.toNat, N ++ [numOf ((l.drop s).take q.1.toNat)], A) := by rw [stp, if_neg h16]
      have h0' : 0 ≤ sumP P := by
        have : ∀ P : List (Int × Int), (∀ p ∈ P, (p.1 == 16) = true ∨ sizeB p.1 = true) → 0 ≤ sumP P := by
          intro P
          induction P with
          | nil => intro _; simp [sumP]
          | cons r R ihR =>
            intro h
            rw [sumP_cons]
            have := ihR (fun p hp => h p (by simp [hp]))
            rcases h r (by simp) with e | e
            · have : r.1 = 16 := by simpa using e
              omega
            · rcases sizeB_cases e with e | e | e <;> omega
        exact this P hP'
      obtain ⟨h0, n', e1, e2, e3⟩ := ih hP' h1 (s + q.1.toNat) (N ++ [numOf ((l.drop s).take q.1.toNat)]) A (by omega)
      refine ⟨by rw [sumP_cons]; omega, numOf ((l.drop s).take q.1.toNat) :: n', by rw [List.foldl_cons, hst, e1]; simp, by simp [nmb, h16]; exact e2, ?_⟩
      have hd : digs q.1 (numOf ((l.drop s).take q.1.toNat)) = (l.drop s).take q.1.toNat := digs_numOf q.1 _ hz (by rw [List.length_take, List.length_drop]; omega) (ho.cut _ _)
      rw [List.foldl_cons, hst, partsB, if_neg h16, List.headD_cons, List.tail_cons, e3, hd, sumP_cons]
      have e4 : (q.1 + sumP P).toNat = q.1.toNat + (sumP P).toNat := by omega
      rw [e4, List.take_add, List.drop_drop]
/-- What the first bytes say. -/
theorem nx_pad (t : List Int) : nxK (0 :: t) = 0 ∧ nxP (0 :: t) = ⟨0, [], zeros, []⟩ ∧ nxN (0 :: t) = 1 := by
  have h : nxK (0 :: t) = 0 := by simp [nxK, numOf]
  exact ⟨h, by rw [nxP, if_pos h], by rw [nxN, if_pos h]⟩
theorem chk_pad : chkP ⟨0, [], zeros, []⟩ = 0 := by decide
theorem nxE_pad (n : Nat) (t : List Int) (hn : n ≠ 16) : nxE n (0 :: t) = 0 := by
  obtain ⟨h1, h2, _⟩ := nx_pad t
  rw [nxE, if_neg hn, h1, if_neg (by decide), if_pos rfl, h2, chk_pad]
theorem nxK_cons (x : Int) (t : List Int) : nxK (x :: t) = x := by simp [nxK, numOf]
theorem rd1 (n : Nat) : rdE 1 1 (n + 1) 0 = 0 ∧ rdN 1 1 (n + 1) 0 = 1 := by
  have h : rdE 1 1 (n + 1) 0 = 0 := by
    unfold rdE
    have hz : sizeB 1 = true := by decide
    rw [if_pos rfl, if_neg (by rw [hz]; simp), if_neg (by omega)]
  exact ⟨h, by rw [rdN, if_pos h]; rfl⟩
theorem nx_two (x y : Int) (t : List Int) : nxL (x :: y :: t) = y ∧ nxE1 (x :: y :: t) = 0 ∧ rdN 1 1 ((x :: y :: t).length - 1) 0 = 1 := by
  have e : (x :: y :: t).length - 1 = t.length + 1 := by simp
  obtain ⟨h1, h2⟩ := rd1 t.length
  refine ⟨?_, by rw [nxE1, e, h1], by rw [e, h2]⟩
  rw [nxL, takeV, e, h2]; simp [numOf]
theorem nx_long (x y : Int) (t : List Int) (hy : 0 ≤ y) (h : y ≤ t.length) : nxE2 (x :: y :: t) = 0 ∧ nxN2 (x :: y :: t) = y.toNat ∧ nxC (x :: y :: t) = t.take y.toNat ∧ nxN' (x :: y :: t) = 2 + y.toNat := by
  obtain ⟨h1, h2, h3⟩ := nx_two x y t
  have e : (x :: y :: t).length - (1 + 1) = t.length := by simp
  have hz : sizeB 1 = true := by decide
  have hE : rdE 1 y t.length 0 = 0 := by rw [rdE, if_pos rfl, if_neg (by rw [hz]; simp; omega), if_neg (by omega)]
  have hN : rdN 1 y t.length 0 = y.toNat := by rw [rdN, if_pos hE]; simp
  refine ⟨by rw [nxE2, h3, h1, h2, e, hE], by rw [nxN2, h3, h1, h2, e, hN], ?_, ?_⟩
  · rw [nxC, nxN2, h3, h1, h2, e, hN]; rfl
  · rw [nxN', nxN2, h3, h1, h2, e, hN]
theorem nx_cut (x y : Int) (t : List Int) (hy : 0 ≤ y) (h : (t.length : Int) < y) : nxE2 (x :: y :: t) = 4 := by
  obtain ⟨h1, h2, h3⟩ := nx_two x y t
  have e : (x :: y :: t).length - (1 + 1) = t.length := by simp
  have hz : sizeB 1 = true := by decide
  rw [nxE2, h3, h1, h2, e, rdE, if_pos rfl, if_neg (by rw [hz]; simp; omega), if_pos (by omega)]
theorem nx_none (x : Int) : nxE2 [x] = 4 := by
  have : nxE1 [x] = 4 := (by decide : rdE 1 1 0 0 = 4)
  rw [nxE2, this, rdE, if_neg (by decide)]
theorem spE_0 (e : Int) : spE 0 e = e := by simp [spE]
theorem spE_4 (e : Int) : spE 4 e = 4 := by simp [spE]
theorem nxE_long (n : Nat) (k : Nat) (y : Int) (t : List Int) (hn : n ≠ 16) (hk : k < 10) (hk0 : k ≠ 0) (hy : 0 ≤ y) (h : y ≤ t.length) :
    nxE n ((k : Int) :: y :: t) = spE (filE k (t.take y.toNat) 0) (chkP (filP k (t.take y.toNat) 0)) ∧ nxP ((k : Int) :: y :: t) = filP k (t.take y.toNat) 0 ∧ nxN ((k : Int) :: y :: t) = 2 + y.toNat := by
  obtain ⟨h1, h2, h3, h4⟩ := nx_long k y t hy h
  have hb : kndB (k : Int) = true := by simp [kndB]; omega
  have hne : ¬ ((k : Int) = 0) := by omega
  have hP : nxP ((k : Int) :: y :: t) = filP k (t.take y.toNat) 0 := by rw [nxP, nxK_cons, if_neg hne, h3, h1, Int.toNat_natCast]
  refine ⟨?_, hP, by rw [nxN, nxK_cons, if_neg hne, ← nxN', h4]⟩
  rw [nxE, if_neg hn, nxK_cons, hb, if_neg (by decide), if_neg hne, hP, h3, h1, Int.toNat_natCast, spE_0]
theorem nxE_cut (n : Nat) (k : Nat) (m : List Int) (hn : n ≠ 16) (hk : k < 10) (hk0 : k ≠ 0) (hm : nxK m = k) (h : nxE2 m = 4) : nxE n m = 4 := by
  have hb : kndB (k : Int) = true := by simp [kndB]; omega
  have hne : ¬ ((k : Int) = 0) := by omega
  rw [nxE, if_neg hn, hm, hb, if_neg (by decide), if_neg hne, h, spE_4, spE_4]
theorem nxE_kind (n : Nat) (m : List Int) (hn : n ≠ 16) (h : kndB (nxK m) = false) : nxE n m = 6 := by rw [nxE, if_neg hn, if_pos h]
theorem nxE_full (m : List Int) : nxE 16 m = 2 := by rw [nxE, if_pos rfl]
end Go.Proofs.YtbgogeojdibmkaaDoor

namespace Go.Proofs.YtbgogeojdibmkaaDoor
open Go.ChangeShapes Go.WideShapes Go.ChangeAt Go.RowKit Go.Deep
set_option linter.unusedVariables false
set_option linter.unusedSimpArgs false

theorem prt_any : ∀ k, k < 10 → (prt k).any (fun p => p.1 == 16) = hasA k ∧ ((prt k).filter (fun p => p.1 == 16)).length ≤ 1 := by decide
theorem prt_txb : ∀ k, k < 10 → txb k = true → prt k = [] ∧ hasA k = false ∧ zer k = false := by decide
theorem zer_hasA : ∀ k, k < 10 → zer k = true → hasA k = false ∧ txb k = false ∧ k = 1 := by decide
theorem anyN_zeros (n : Nat) : anyN (List.replicate n 0) = false := by simp [anyN]
theorem zeros_anyN (l : List Int) (h : anyN l = false) : l = List.replicate l.length 0 := by
  apply List.eq_replicate_iff.2
  refine ⟨rfl, fun x hx => ?_⟩
  simp [anyN] at h
  exact h x hx
theorem frm_parts {k : Nat} {o : Po} (h : frmB k o = true) : o.n.length = (nmb (prt k)).length ∧ (o.ad = zeros ∨ hasA k = true) ∧ (o.t = [] ∨ txb k = true) := by
  simp only [frmB, Bool.and_eq_true, Bool.or_eq_true, beq_iff_eq] at h
  exact ⟨h.1, h.2.1, h.2.2.imp List.eq_nil_of_length_eq_zero id⟩
/-- What is behind the length, read. -/
theorem fil_con {o : Po} {k : Nat} (hk : k < 10) (hok : o.k = k) (h : chkP o = 0) (ha : o.ad.length = 16) : filE k (conP k o) 0 = 0 ∧ filP k (conP k o) 0 = o := by
  obtain ⟨h1, h2, h3, h4⟩ := chk0 h
  rw [hok, Int.toNat_natCast] at h2 h3
  obtain ⟨f1, f2, f3⟩ := frm_parts h2
  obtain ⟨ok, on, oad, ot⟩ := o
  simp only at *
  subst hok
  cases hz : zer k
  · cases ht : txb k
    · have hT : ot = [] := by rcases f3 with e | e; · exact e
                              · rw [ht] at e; cases e
      subst hT
      have hc : conP k ⟨k, on, oad, []⟩ = partsB (prt k) on oad := by rw [conP, hz]; simp
      have hs := partsB_length (prt k) (fun p hp => (prt_sizes k hk p hp).imp id (·.1)) on oad ha
      have hf := fold_parts (prt k) (prt_sizes k hk) [] on oad [] zeros [] f1 h3 ha
      simp only [List.nil_append, List.append_nil, List.length_nil, Nat.zero_add] at hf
      have hst : stps (partsB (prt k) on oad) (prt k) = ((partsB (prt k) on oad).length, on, oad) := by
        rw [stps, hf, (prt_any k hk).1]
        rcases f2 with e | e
        · rw [e]; simp
        · rw [e]; simp
      rw [hc]
      refine ⟨?_, ?_⟩
      · simp [filE, hz, ht, hs]
      · simp [filP, hz, ht, hs, hst]
    · obtain ⟨g1, g2, _⟩ := prt_txb k hk ht
      have hA : oad = zeros := by rcases f2 with e | e; · exact e
                                  · rw [g2] at e; cases e
      have hN : on = [] := List.eq_nil_of_length_eq_zero (by rw [f1, g1]; rfl)
      subst hA hN
      have hc : conP k ⟨k, [], zeros, ot⟩ = ot := by rw [conP, hz, g1]; simp [partsB]
      rw [hc]
      exact ⟨by simp [filE, hz, ht], by simp [filP, hz, ht]⟩
  · obtain ⟨g1, g2, rfl⟩ := zer_hasA k hk hz
    have hA : oad = zeros := by rcases f2 with e | e; · exact e
                                · rw [g1] at e; cases e
    have hT : ot = [] := by rcases f3 with e | e; · exact e
                            · rw [g2] at e; cases e
    obtain ⟨m, hm, _⟩ := pads_num f1 h3
    subst hA hT hm
    have hc : conP 1 ⟨((1 : Nat) : Int), [(m : Int)], zeros, []⟩ = List.replicate m 0 := by rw [conP, hz]; simp
    rw [hc]
    refine ⟨by simp [filE, hz, zerE, anyN_zeros], by simp [filP, hz]⟩
/-- One option, read. -/
theorem nx_enc (n : Nat) (o : Po) (rest : List Int) (hn : n ≠ 16) (h : chkP o = 0) (ha : o.ad.length = 16) : nxE n (encP o ++ rest) = 0 ∧ nxP (encP o ++ rest) = o ∧ nxN (encP o ++ rest) = (encP o).length := by
  obtain ⟨h1, h2, h3, h4⟩ := chk0 h
  obtain ⟨k, hk, hk10⟩ := knd_nat h1
  by_cases h0 : k = 0
  · subst h0
    have hk : o.k = 0 := hk
    have e : encP o = [0] := by rw [encP, if_pos hk]
    rw [hk] at h2 h3
    obtain ⟨f1, f2, f3⟩ := frm_parts h2
    obtain ⟨ok, on, oad, ot⟩ := o
    simp only at *
    have hN : on = [] := List.eq_nil_of_length_eq_zero (by rw [f1]; rfl)
    have hA : oad = zeros := by rcases f2 with e | e; · exact e
                                · cases e
    have hT : ot = [] := by rcases f3 with e | e; · exact e
                            · cases e
    subst hN hA hT hk
    rw [e]
    obtain ⟨p1, p2, p3⟩ := nx_pad rest
    exact ⟨nxE_pad n rest hn, p2, p3⟩
  · have e : encP o = (k : Int) :: ((conP k o).length : Int) :: conP k o := by rw [encP, hk, if_neg (by omega), Int.toNat_natCast]
    obtain ⟨q1, q2⟩ := fil_con hk10 hk h ha
    have hlen := conP_le hk10 hk h ha
    obtain ⟨e1, e2, e3⟩ := nxE_long n k ((conP k o).length : Int) (conP k o ++ rest) hn hk10 h0 (by omega) (by simp; omega)
    rw [Int.toNat_natCast, List.take_left' rfl] at e1 e2
    rw [e]
    refine ⟨?_, ?_, ?_⟩
    · rw [List.cons_append, List.cons_append, e1, q1, q2, h]; rfl
    · rw [List.cons_append, List.cons_append, e2, q2]
    · rw [List.cons_append, List.cons_append, e3]; simp; omega
theorem encP_ne (o : Po) : encP o ≠ [] := by unfold encP; split <;> simp
/-- Options that are right, read. -/
theorem dec_enc (L : List Po) : ∀ n, n + L.length ≤ 16 → (∀ o ∈ L, chkP o = 0 ∧ o.ad.length = 16) → dec n (encs L) = (L, 0) := by
  induction L with
  | nil => intro n _ _; exact dec_nil n
  | cons o L ih =>
    intro n hn h
    obtain ⟨h1, h2⟩ := h o (by simp)
    rw [List.length_cons] at hn
    have e : encs (o :: L) = encP o ++ encs L := by simp [encs]
    obtain ⟨e1, e2, e3⟩ := nx_enc n o (encs L) (by omega) h1 h2
    rw [e, dec_ok (by simp [encP_ne]) e1, e2, e3, List.drop_left' rfl, ih (n + 1) (by omega) (fun x hx => h x (by simp [hx]))]
theorem bad_all {L : List Po} (h : bad L = 0) : ∀ o ∈ L, chkP o = 0 := by
  induction L with
  | nil => intro o ho; cases ho
  | cons p L ih =>
    rw [bad] at h
    split at h
    · rename_i hc
      intro o ho
      rcases List.mem_cons.1 ho with e | e
      · rw [e]; exact hc
      · exact ih h o e
    · rename_i hc; exact absurd h hc
theorem bad_of {L : List Po} (h : ∀ o ∈ L, chkP o = 0) : bad L = 0 := by
  induction L with
  | nil => rfl
  | cons p L ih => rw [bad, if_pos (h p (by simp))]; exact ih (fun o ho => h o (by simp [ho]))
theorem encE_0 {L : List Po} (h : encE L = 0) : L.length ≤ 16 ∧ (∀ o ∈ L, chkP o = 0) ∧ (encs L).length ≤ 1280 := by
  unfold encE at h
  split at h
  · cases h
  · split at h
    · rename_i h2; exact absurd h h2
    · rename_i h2
      split at h
      · cases h
      · exact ⟨by omega, bad_all (by simpa using h2), by omega⟩
theorem dec_of {L : List Po} (h : encE L = 0) (ha : ∀ o ∈ L, o.ad.length = 16) : dec 0 (encL L) = (L, 0) := by
  obtain ⟨h1, h2, h3⟩ := encE_0 h
  rw [encL, if_pos h]
  exact dec_enc L 0 (by omega) (fun o ho => ⟨h2 o ho, ha o ho⟩)
/-- What is behind the length, written. -/
theorem con_fil {k : Nat} (hk : k < 10) (l : List Int) (ho : Oct l) (h : filE k l 0 = 0) : conP k (filP k l 0) = l ∧ (filP k l 0).k = k := by
  cases hz : zer k
  · cases ht : txb k
    · by_cases hs : sumP (prt k) = l.length
      · have hP : filP k l 0 = ⟨k, (stps l (prt k)).2.1, (stps l (prt k)).2.2, []⟩ := by simp [filP, hz, ht, hs]
        obtain ⟨_, n', e1, e2, e3⟩ := fold_back l ho (prt k) (prt_all k hk).1 (prt_any k hk).2 0 [] zeros (by omega)
        rw [List.nil_append] at e1
        rw [hP]
        refine ⟨?_, rfl⟩
        rw [conP, hz, if_neg (by simp), List.append_nil, stps, e1, e3, hs, List.drop_zero, Int.toNat_natCast, List.take_length]
      · simp [filE, hz, ht, hs] at h
    · obtain ⟨g1, _, _⟩ := prt_txb k hk ht
      have hP : filP k l 0 = ⟨k, [], zeros, l⟩ := by simp [filP, hz, ht]
      rw [hP]
      exact ⟨by rw [conP, hz, g1]; simp [partsB], rfl⟩
  · have hP : filP k l 0 = ⟨k, [(l.length : Int)], zeros, []⟩ := by simp [filP, hz]
    have hA : anyN l = false := by
      cases hx : anyN l
      · rfl
      · simp [filE, hz, zerE, hx] at h
    rw [hP]
    refine ⟨?_, rfl⟩
    rw [conP, hz]
    simp only [List.getD_cons_zero, Int.toNat_natCast, if_true]
    exact (zeros_anyN l hA).symm
theorem spE_both {a b : Int} (h : spE a b = 0) : a = 0 ∧ b = 0 := by
  unfold spE at h
  split at h
  · rename_i e; exact ⟨e, h⟩
  · rename_i e; exact absurd h e
/-- One option, written. -/
theorem enc_nx (n : Nat) (m : List Int) (hm : m ≠ []) (ho : Oct m) (h : nxE n m = 0) : encP (nxP m) = m.take (nxN m) ∧ chkP (nxP m) = 0 ∧ n ≠ 16 := by
  have hn : n ≠ 16 := fun e => by rw [e, nxE_full] at h; cases h
  have hkb : kndB (nxK m) = true := by
    cases hx : kndB (nxK m)
    · rw [nxE_kind n m hn hx] at h; cases h
    · rfl
  obtain ⟨k, hk, hk10⟩ := knd_nat hkb
  match m, hm with
  | x :: t, _ =>
    rw [nxK_cons] at hk
    subst hk
    by_cases h0 : k = 0
    · subst h0
      obtain ⟨p1, p2, p3⟩ := nx_pad t
      have e0 : ((0 : Nat) : Int) :: t = 0 :: t := rfl
      rw [e0, p2, p3]
      exact ⟨rfl, chk_pad, hn⟩
    · match t with
      | [] => rw [nxE_cut n k _ hn hk10 h0 (nxK_cons _ _) (nx_none _)] at h; cases h
      | y :: t =>
        have hy := ho y (by simp)
        by_cases hl : y ≤ t.length
        · obtain ⟨e1, e2, e3⟩ := nxE_long n k y t hn hk10 h0 hy.1 hl
          rw [e1] at h
          obtain ⟨h1, h2⟩ := spE_both h
          have hoc : Oct (t.take y.toNat) := fun z hz => ho z (by have := List.mem_of_mem_take hz; simp [this])
          obtain ⟨c1, c2⟩ := con_fil hk10 _ hoc h1
          rw [e2, e3]
          refine ⟨?_, h2, hn⟩
          rw [encP, c2, if_neg (by omega), Int.toNat_natCast, c1]
          have hlen : ((t.take y.toNat).length : Int) = y := by rw [List.length_take]; omega
          rw [hlen, Nat.add_comm 2]
          simp
        · rw [nxE_cut n k _ hn hk10 h0 (nxK_cons _ _) (nx_cut _ _ _ hy.1 (by omega))] at h; cases h
theorem enc_dec : ∀ (f : Nat) (n : Nat) (m : List Int), m.length ≤ f → n ≤ 16 → Oct m → (dec n m).2 = 0 → encs (dec n m).1 = m ∧ n + (dec n m).1.length ≤ 16 ∧ ∀ o ∈ (dec n m).1, chkP o = 0 := by
  intro f
  induction f with
  | zero =>
    intro n m hf hn ho h
    have : m = [] := List.eq_nil_of_length_eq_zero (by omega)
    subst this
    rw [dec_nil]
    exact ⟨rfl, by simpa using hn, fun o ho => by cases ho⟩
  | succ f ih =>
    intro n m hf hn ho h
    by_cases hm : m = []
    · subst hm
      rw [dec_nil]
      exact ⟨rfl, by simpa using hn, fun o ho => by cases ho⟩
    · by_cases hE : nxE n m = 0
      · obtain ⟨e1, e2, e3⟩ := enc_nx n m hm ho hE
        rw [dec_ok hm hE] at h ⊢
        have hp := nxN_pos m
        have hml : 0 < m.length := List.length_pos_iff.2 hm
        obtain ⟨i1, i2, i3⟩ := ih (n + 1) (m.drop (nxN m)) (by rw [List.length_drop]; omega) (by omega) (fun x hx => ho x (List.mem_of_mem_drop hx)) h
        refine ⟨?_, ?_, ?_⟩
        · have : encs (nxP m :: (dec (n + 1) (m.drop (nxN m))).1) = encP (nxP m) ++ encs (dec (n + 1) (m.drop (nxN m))).1 := by simp [encs]
          rw [this, i1, e1, List.take_append_drop]
        · rw [List.length_cons]; omega
        · intro o ho'
          rcases List.mem_cons.1 ho' with e | e
          · rw [e]; exact e2
          · exact i3 o e
      · rw [dec_bad hm hE] at h
        exact absurd h hE
theorem enc_of (m : List Int) (ho : Oct m) (hl : m.length ≤ 1280) (h : (dec 0 m).2 = 0) : encE (dec 0 m).1 = 0 ∧ encL (dec 0 m).1 = m := by
  obtain ⟨h1, h2, h3⟩ := enc_dec m.length 0 m (Nat.le_refl _) (by omega) ho h
  have : encE (dec 0 m).1 = 0 := by
    rw [encE, if_neg (by omega), if_neg (by rw [bad_of h3]; simp), h1, if_neg (by omega)]
  exact ⟨this, by rw [encL, if_pos this, h1]⟩
end Go.Proofs.YtbgogeojdibmkaaDoor

namespace Go.Proofs.YtbgogeojdibmkaaDoor
open Go.ChangeShapes Go.WideShapes Go.ChangeAt Go.RowKit Go.Deep
set_option linter.unusedVariables false
set_option linter.unusedSimpArgs false

def chsL : List ByteArray := [⟨#[]⟩, ⟨#[120]⟩, ⟨#[116]⟩, ⟨#[112, 49, 52, 97]⟩, ⟨#[49, 49, 49, 49, 50, 50, 50, 122, 49, 50]⟩, ⟨#[49, 112, 97]⟩, ⟨#[49, 49, 49, 49]⟩, ⟨#[49, 49, 97, 49]⟩, ⟨#[112, 49, 52, 52, 113, 97]⟩, ⟨#[52]⟩]
/-- A kind's letters. -/
def chs (k : Nat) : ByteArray := chsL.getD k ⟨#[]⟩
def lets (n : Int) : ByteArray := if kndB n = true then chs n.toNat else ⟨#[63]⟩
theorem chs_at (k : Nat) (hk : k < 10) : (#[Value.string ⟨#[]⟩, .string ⟨#[120]⟩, .string ⟨#[116]⟩, .string ⟨#[112, 49, 52, 97]⟩, .string ⟨#[49, 49, 49, 49, 50, 50, 50, 122, 49, 50]⟩, .string ⟨#[49, 112, 97]⟩, .string ⟨#[49, 49, 49, 49]⟩, .string ⟨#[49, 49, 97, 49]⟩, .string ⟨#[112, 49, 52, 52, 113, 97]⟩, .string ⟨#[52]⟩] : Array Value)[k]? = some (.string (chs k)) := by
  match k, hk with
  | 0, _ => rfl
  | 1, _ => rfl
  | 2, _ => rfl
  | 3, _ => rfl
  | 4, _ => rfl
  | 5, _ => rfl
  | 6, _ => rfl
  | 7, _ => rfl
  | 8, _ => rfl
  | 9, _ => rfl
theorem wrd_at (k : Nat) (hk : k < 10) : (#[Value.string ⟨#[112, 97, 100]⟩, .string ⟨#[112, 97, 100, 115]⟩, .string ⟨#[109, 101, 116, 114, 105, 99]⟩, .string ⟨#[114, 111, 117, 116, 101]⟩, .string ⟨#[99, 111, 110, 102, 105, 103]⟩, .string ⟨#[116, 97, 114, 103, 101, 116]⟩, .string ⟨#[116, 114, 97, 110, 115, 105, 116]⟩, .string ⟨#[115, 111, 108, 105, 99, 105, 116, 101, 100]⟩, .string ⟨#[112, 114, 101, 102, 105, 120]⟩, .string ⟨#[100, 101, 115, 99, 114, 105, 112, 116, 111, 114]⟩] : Array Value)[k]? = some (.string (wrd k)) := by
  match k, hk with
  | 0, _ => rfl
  | 1, _ => rfl
  | 2, _ => rfl
  | 3, _ => rfl
  | 4, _ => rfl
  | 5, _ => rfl
  | 6, _ => rfl
  | 7, _ => rfl
  | 8, _ => rfl
  | 9, _ => rfl
set_option maxHeartbeats 400000 in
theorem parts_any (n : Int) (w : World) : Calls Tryd.prog 27 #[.int .i64 n] w fun e w' => e = .returned (.string (lets n)) ∧ Below w.heap.size w w' := by
  have B0 := hid (balloc (Below.refl w.heap.size w) (.cells #[Value.string ⟨#[]⟩, .string ⟨#[120]⟩, .string ⟨#[116]⟩, .string ⟨#[112, 49, 52, 97]⟩, .string ⟨#[49, 49, 49, 49, 50, 50, 50, 122, 49, 50]⟩, .string ⟨#[49, 112, 97]⟩, .string ⟨#[49, 49, 49, 49]⟩, .string ⟨#[49, 49, 97, 49]⟩, .string ⟨#[112, 49, 52, 52, 113, 97]⟩, .string ⟨#[52]⟩] 64))
  have R0 := hid (Row.new w 64 #[Value.string ⟨#[]⟩, .string ⟨#[120]⟩, .string ⟨#[116]⟩, .string ⟨#[112, 49, 52, 97]⟩, .string ⟨#[49, 49, 49, 49, 50, 50, 50, 122, 49, 50]⟩, .string ⟨#[49, 112, 97]⟩, .string ⟨#[49, 49, 49, 49]⟩, .string ⟨#[49, 49, 97, 49]⟩, .string ⟨#[112, 49, 52, 52, 113, 97]⟩, .string ⟨#[52]⟩])
  cases hk : kndB n
  · have HV : Hid (lets n = ⟨#[63]⟩) := by simp [Hid, lets, hk]
    have hn : n < 0 ∨ 9 < n := by simp [kndB] at hk; omega
    rcases hn with hn | hn
    · have e0 : decide (n < 0) = true := decide_eq_true hn
      go_enter Tryd.func27, Tryd.ntmps27
      go_upto_region 2 with fail
      generalize w.alloc (.cells #[Value.string ⟨#[]⟩, .string ⟨#[120]⟩, .string ⟨#[116]⟩, .string ⟨#[112, 49, 52, 97]⟩, .string ⟨#[49, 49, 49, 49, 50, 50, 50, 122, 49, 50]⟩, .string ⟨#[49, 112, 97]⟩, .string ⟨#[49, 49, 49, 49]⟩, .string ⟨#[49, 49, 97, 49]⟩, .string ⟨#[112, 49, 52, 52, 113, 97]⟩, .string ⟨#[52]⟩] 64) = w1 at *
      go_wp2_with fail
      go_ret
      exact ⟨ret_str HV.out.symm, B0.out⟩
    · have e0 : decide (n < 0) = false := decide_eq_false (by omega)
      have e1 : decide (9 < n) = true := decide_eq_true hn
      go_enter Tryd.func27, Tryd.ntmps27
      go_upto_region 2 with fail
      generalize w.alloc (.cells #[Value.string ⟨#[]⟩, .string ⟨#[120]⟩, .string ⟨#[116]⟩, .string ⟨#[112, 49, 52, 97]⟩, .string ⟨#[49, 49, 49, 49, 50, 50, 50, 122, 49, 50]⟩, .string ⟨#[49, 112, 97]⟩, .string ⟨#[49, 49, 49, 49]⟩, .string ⟨#[49, 49, 97, 49]⟩, .string ⟨#[112, 49, 52, 52, 113, 97]⟩, .string ⟨#[52]⟩] 64) = w1 at *
      go_wp2_with fail
      go_ret
      exact ⟨ret_str HV.out.symm, B0.out⟩
  · obtain ⟨k, rfl, hk10⟩ := knd_nat hk
    have HV : Hid (lets k = chs k) := by simp [Hid, lets, hk]
    have e0 : decide ((k : Int) < 0) = false := decide_eq_false (by omega)
    have e1 : decide ((9 : Int) < (k : Int)) = false := decide_eq_false (by omega)
    have e2 : decide (9 < k) = false := decide_eq_false (by omega)
    have hk10' : (k : Int) < 10 := by omega
    clear hk
    go_enter Tryd.func27, Tryd.ntmps27
    go_upto_region 2 with fail
    generalize w.alloc (.cells #[Value.string ⟨#[]⟩, .string ⟨#[120]⟩, .string ⟨#[116]⟩, .string ⟨#[112, 49, 52, 97]⟩, .string ⟨#[49, 49, 49, 49, 50, 50, 50, 122, 49, 50]⟩, .string ⟨#[49, 112, 97]⟩, .string ⟨#[49, 49, 49, 49]⟩, .string ⟨#[49, 49, 97, 49]⟩, .string ⟨#[112, 49, 52, 52, 113, 97]⟩, .string ⟨#[52]⟩] 64) = w1 at *
    have ck := (R0.out.cell k).trans (chs_at k hk10)
    go_wp2_with fail
    go_ret
    exact ⟨ret_str HV.out.symm, B0.out⟩
set_option maxHeartbeats 400000 in
theorem refWord_any (n : Int) (w : World) : Calls Tryd.prog 13 #[.int .i64 n] w fun e w' => e = .returned (.string (wordOf n)) ∧ Below w.heap.size w w' := by
  have B0 := hid (balloc (Below.refl w.heap.size w) (.cells #[Value.string ⟨#[112, 97, 100]⟩, .string ⟨#[112, 97, 100, 115]⟩, .string ⟨#[109, 101, 116, 114, 105, 99]⟩, .string ⟨#[114, 111, 117, 116, 101]⟩, .string ⟨#[99, 111, 110, 102, 105, 103]⟩, .string ⟨#[116, 97, 114, 103, 101, 116]⟩, .string ⟨#[116, 114, 97, 110, 115, 105, 116]⟩, .string ⟨#[115, 111, 108, 105, 99, 105, 116, 101, 100]⟩, .string ⟨#[112, 114, 101, 102, 105, 120]⟩, .string ⟨#[100, 101, 115, 99, 114, 105, 112, 116, 111, 114]⟩] 64))
  have R0 := hid (Row.new w 64 #[Value.string ⟨#[112, 97, 100]⟩, .string ⟨#[112, 97, 100, 115]⟩, .string ⟨#[109, 101, 116, 114, 105, 99]⟩, .string ⟨#[114, 111, 117, 116, 101]⟩, .string ⟨#[99, 111, 110, 102, 105, 103]⟩, .string ⟨#[116, 97, 114, 103, 101, 116]⟩, .string ⟨#[116, 114, 97, 110, 115, 105, 116]⟩, .string ⟨#[115, 111, 108, 105, 99, 105, 116, 101, 100]⟩, .string ⟨#[112, 114, 101, 102, 105, 120]⟩, .string ⟨#[100, 101, 115, 99, 114, 105, 112, 116, 111, 114]⟩])
  cases hk : kndB n
  · have HV : Hid (wordOf n = ByteArray.empty) := by simp [Hid, wordOf, hk]
    have hn : n < 0 ∨ 9 < n := by simp [kndB] at hk; omega
    rcases hn with hn | hn
    · have e0 : decide (n < 0) = true := decide_eq_true hn
      go_enter Tryd.func13, Tryd.ntmps13
      go_upto_region 2 with fail
      generalize w.alloc (.cells #[Value.string ⟨#[112, 97, 100]⟩, .string ⟨#[112, 97, 100, 115]⟩, .string ⟨#[109, 101, 116, 114, 105, 99]⟩, .string ⟨#[114, 111, 117, 116, 101]⟩, .string ⟨#[99, 111, 110, 102, 105, 103]⟩, .string ⟨#[116, 97, 114, 103, 101, 116]⟩, .string ⟨#[116, 114, 97, 110, 115, 105, 116]⟩, .string ⟨#[115, 111, 108, 105, 99, 105, 116, 101, 100]⟩, .string ⟨#[112, 114, 101, 102, 105, 120]⟩, .string ⟨#[100, 101, 115, 99, 114, 105, 112, 116, 111, 114]⟩] 64) = w1 at *
      go_wp2_with fail
      go_ret
      exact ⟨ret_str HV.out.symm, B0.out⟩
    · have e0 : decide (n < 0) = false := decide_eq_false (by omega)
      have e1 : decide (9 < n) = true := decide_eq_true hn
      go_enter Tryd.func13, Tryd.ntmps13
      go_upto_region 2 with fail
      generalize w.alloc (.cells #[Value.string ⟨#[112, 97, 100]⟩, .string ⟨#[112, 97, 100, 115]⟩, .string ⟨#[109, 101, 116, 114, 105, 99]⟩, .string ⟨#[114, 111, 117, 116, 101]⟩, .string ⟨#[99, 111, 110, 102, 105, 103]⟩, .string ⟨#[116, 97, 114, 103, 101, 116]⟩, .string ⟨#[116, 114, 97, 110, 115, 105, 116]⟩, .string ⟨#[115, 111, 108, 105, 99, 105, 116, 101, 100]⟩, .string ⟨#[112, 114, 101, 102, 105, 120]⟩, .string ⟨#[100, 101, 115, 99, 114, 105, 112, 116, 111, 114]⟩] 64) = w1 at *
      go_wp2_with fail
      go_ret
      exact ⟨ret_str HV.out.symm, B0.out⟩
  · obtain ⟨k, rfl, hk10⟩ := knd_nat hk
    have HV : Hid (wordOf k = wrd k) := by simp [Hid, wordOf, hk]
    have e0 : decide ((k : Int) < 0) = false := decide_eq_false (by omega)
    have e1 : decide ((9 : Int) < (k : Int)) = false := decide_eq_false (by omega)
    have e2 : decide (9 < k) = false := decide_eq_false (by omega)
    have hk10' : (k : Int) < 10 := by omega
    clear hk
    go_enter Tryd.func13, Tryd.ntmps13
    go_upto_region 2 with fail
    generalize w.alloc (.cells #[Value.string ⟨#[112, 97, 100]⟩, .string ⟨#[112, 97, 100, 115]⟩, .string ⟨#[109, 101, 116, 114, 105, 99]⟩, .string ⟨#[114, 111, 117, 116, 101]⟩, .string ⟨#[99, 111, 110, 102, 105, 103]⟩, .string ⟨#[116, 97, 114, 103, 101, 116]⟩, .string ⟨#[116, 114, 97, 110, 115, 105, 116]⟩, .string ⟨#[115, 111, 108, 105, 99, 105, 116, 101, 100]⟩, .string ⟨#[112, 114, 101, 102, 105, 120]⟩, .string ⟨#[100, 101, 115, 99, 114, 105, 112, 116, 111, 114]⟩] 64) = w1 at *
    have ck := (R0.out.cell k).trans (wrd_at k hk10)
    go_wp2_with fail
    go_ret
    exact ⟨ret_str HV.out.symm, B0.out⟩
/-- A letter's bytes, if it is a number. -/
def szc (c : Int) : Int := if c = 49 ∨ c = 112 ∨ c = 122 ∨ c = 120 then 1 else if c = 50 then 2 else if c = 52 ∨ c = 113 then 4 else 0
set_option maxHeartbeats 800000 in
theorem rsize_any (c : Int) (w : World) : Calls Tryd.prog 28 #[.int .u8 c] w fun e w' => e = .returned (.int .i64 (szc c)) ∧ w' = w := by
  have key : ∀ b1 b2 b3 b4 b5 b6 b7 : Bool, (c == 49) = b1 → (c == 112) = b2 → (c == 122) = b3 → (c == 120) = b4 → (c == 50) = b5 → (c == 52) = b6 → (c == 113) = b7 → szc c = (if (b1 || (b2 || (b3 || b4))) = true then 1 else if b5 = true then 2 else if (b6 || b7) = true then 4 else 0) → Calls Tryd.prog 28 #[.int .u8 c] w fun e w' => e = .returned (.int .i64 (szc c)) ∧ w' = w := by
    intro b1 b2 b3 b4 b5 b6 b7 h1 h2 h3 h4 h5 h6 h7 hs
    have HS := hid hs
    generalize szc c = s at *
    clear hs
    cases b1
    · cases b2
      · cases b3
        · cases b4
          · cases b5
            · cases b6
              · cases b7
                all_goals (go_enter Tryd.func28, Tryd.ntmps28; go_wp2; go_ret; exact ⟨ret_int HS.out.symm, rfl⟩)
              · go_enter Tryd.func28, Tryd.ntmps28; go_wp2; go_ret; exact ⟨ret_int HS.out.symm, rfl⟩
            · go_enter Tryd.func28, Tryd.ntmps28; go_wp2; go_ret; exact ⟨ret_int HS.out.symm, rfl⟩
          · go_enter Tryd.func28, Tryd.ntmps28; go_wp2; go_ret; exact ⟨ret_int HS.out.symm, rfl⟩
        · go_enter Tryd.func28, Tryd.ntmps28; go_wp2; go_ret; exact ⟨ret_int HS.out.symm, rfl⟩
      · go_enter Tryd.func28, Tryd.ntmps28; go_wp2; go_ret; exact ⟨ret_int HS.out.symm, rfl⟩
    · go_enter Tryd.func28, Tryd.ntmps28; go_wp2; go_ret; exact ⟨ret_int HS.out.symm, rfl⟩
  refine key _ _ _ _ _ _ _ rfl rfl rfl rfl rfl rfl rfl ?_
  unfold szc
  simp only [Bool.or_eq_true, beq_iff_eq]
end Go.Proofs.YtbgogeojdibmkaaDoor
