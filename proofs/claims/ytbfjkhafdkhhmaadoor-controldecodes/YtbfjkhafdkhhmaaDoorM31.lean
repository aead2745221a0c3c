/- What is read without fault comes out again when it is written. · Are options the same? · Are lists of options the same? -/
import Derived.Test.YtbfjkhafdkhhmaaDoorM24
import Derived.Test.YtbfjkhafdkhhmaaDoorM25
import Derived.Test.YtbfjkhafdkhhmaaDoorM26
import Derived.Test.YtbfjkhafdkhhmaaDoorM6
import Derived.Deep.QuietTactic
namespace Go.Proofs.YtbfjkhafdkhhmaaDoor
set_option linter.unusedVariables false
set_option linter.unusedSimpArgs false

theorem rdz_ok (z left : Nat) (er : Int) (h : rdE z 1 left er = 0) : er = 0 ∧ z ≤ left ∧ rdN z 1 left er = z := by
  have h0 := h
  unfold rdE at h
  split at h
  · rename_i e
    split at h
    · exact absurd h (by decide)
    · split at h
      · exact absurd h (by decide)
      · refine ⟨e, by omega, ?_⟩
        rw [rdN, if_pos h0]; simp
  · rename_i e; exact absurd h e
theorem spE3 (E : Int) : spE E 3 ≠ 0 := by unfold spE; split <;> omega
/-- What was read of the bytes at a place. -/
structure Was (l : List Int) (s : Nat × Int × List Int) (z : Nat) (n : Int) : Prop where
  er : s.2.1 = 0
  le : s.1 + z ≤ l.length
  bytes : bytesOf z [n] = (l.drop s.1).take z
theorem was_of (l : List Int) (ho : Oct l) (s : Nat × Int × List Int) (z : Nat) (hz : z = 1 ∨ z = 2) (h : rdE z 1 (l.length - s.1) s.2.1 = 0) : Was l s z (takeV z l s.1 l.length s.2.1) ∧ rdN z 1 (l.length - s.1) s.2.1 = z := by
  obtain ⟨h1, h2, h3⟩ := rdz_ok z _ _ h
  have hle : s.1 + z ≤ l.length := by omega
  refine ⟨⟨h1, hle, ?_⟩, h3⟩
  rw [takeV, h3, bytesOf, List.flatMap_singleton]
  refine digs_numOf z _ ?_ ?_ (ho.cut _ _)
  · rcases hz with rfl | rfl <;> rfl
  · rw [List.length_take, List.length_drop]; simp; omega
theorem st_full (l : List Int) (ho : Oct l) (s : Nat × Int × List Int) (z j lst : Nat) (hz : (z = 1 ∧ lst = 255) ∨ (z = 2 ∧ lst = 65535)) (h : (ptStep l s ⟨z, [⟨j, 0, lst⟩]⟩).2.1 = 0) :
    ∃ x : Int, ptStep l s ⟨z, [⟨j, 0, lst⟩]⟩ = (s.1 + z, 0, s.2.2.set j x) ∧ 0 ≤ x ∧ x ≤ lst ∧ Was l s z x := by
  have hb := takeV_bd1 l ho z s.1 l.length s.2.1 (by omega)
  rw [pt_full l ho s z j lst hz] at h ⊢
  obtain ⟨h1, h2⟩ := was_of l ho s z (by omega) h
  refine ⟨_, by rw [h2, show rdE z 1 (l.length - s.1) s.2.1 = 0 from h], hb.1, ?_, h1⟩
  rcases hz with ⟨e, e2⟩ | ⟨e, e2⟩
  · have := hb.2.2 e; omega
  · omega
theorem st_none (l : List Int) (ho : Oct l) (s : Nat × Int × List Int) (z : Nat) (hz : z = 1 ∨ z = 2) (h : (ptStep l s ⟨z, []⟩).2.1 = 0) :
    ptStep l s ⟨z, []⟩ = (s.1 + z, 0, s.2.2) ∧ Was l s z 0 := by
  have e0 : takeV z l s.1 l.length s.2.1 = numOf ((l.drop s.1).take (rdN z 1 (l.length - s.1) s.2.1)) := rfl
  rw [pt_none l s z] at h ⊢
  by_cases hn : numOf ((l.drop s.1).take (rdN z 1 (l.length - s.1) s.2.1)) = 0
  · have h' : zE (l.drop s.1) (l.length - s.1) s.2.1 z = rdE z 1 (l.length - s.1) s.2.1 := by rw [zE, if_pos hn]
    rw [h'] at h ⊢
    obtain ⟨h1, h2⟩ := was_of l ho s z hz h
    rw [e0, hn] at h1
    exact ⟨by rw [h2, show rdE z 1 (l.length - s.1) s.2.1 = 0 from h], h1⟩
  · have h' : zE (l.drop s.1) (l.length - s.1) s.2.1 z = spE (rdE z 1 (l.length - s.1) s.2.1) 3 := by rw [zE, if_neg hn]
    rw [h'] at h
    exact absurd h (spE3 _)
theorem st_fl1 (l : List Int) (ho : Oct l) (s : Nat × Int × List Int) (h : (ptStep l s ⟨1, [⟨3, 7, 1⟩, ⟨4, 3, 7⟩, ⟨5, 0, 7⟩]⟩).2.1 = 0) :
    ∃ g mo pf : Int, ptStep l s ⟨1, [⟨3, 7, 1⟩, ⟨4, 3, 7⟩, ⟨5, 0, 7⟩]⟩ = (s.1 + 1, 0, ((s.2.2.set 3 g).set 4 mo).set 5 pf) ∧ (g = 0 ∨ g = 1) ∧ (0 ≤ mo ∧ mo ≤ 7) ∧ (0 ≤ pf ∧ pf ≤ 7) ∧ Was l s 1 (g * 128 + mo * 8 + pf) := by
  have hb := takeV_bd1 l ho 1 s.1 l.length s.2.1 (.inl rfl)
  have hb2 := hb.2.2 rfl
  have hW := was_of l ho s 1 (.inl rfl)
  rw [pt_fl1 l ho s _ rfl] at h ⊢
  simp only [Int.natCast_one] at hb hb2 hW h ⊢
  generalize takeV 1 l s.1 l.length s.2.1 = b at *
  split at h
  · exact absurd h (spE3 _)
  · rename_i hbit
    obtain ⟨h1, h2⟩ := hW h
    refine ⟨b / 128, b / 8 % 8, b % 8, ?_, by omega, by omega, by omega, ?_⟩
    · rw [h2, if_neg hbit, show rdE 1 1 (l.length - s.1) s.2.1 = 0 from h]
    · have : b / 128 * 128 + b / 8 % 8 * 8 + b % 8 = b := by omega
      rw [this]; exact h1
theorem st_fl2 (l : List Int) (ho : Oct l) (s : Nat × Int × List Int) (h : (ptStep l s ⟨1, [⟨7, 7, 1⟩, ⟨10, 6, 1⟩]⟩).2.1 = 0) :
    ∃ a t : Int, ptStep l s ⟨1, [⟨7, 7, 1⟩, ⟨10, 6, 1⟩]⟩ = (s.1 + 1, 0, (s.2.2.set 7 a).set 10 t) ∧ (a = 0 ∨ a = 1) ∧ (t = 0 ∨ t = 1) ∧ Was l s 1 (a * 128 + t * 64) := by
  have hb := takeV_bd1 l ho 1 s.1 l.length s.2.1 (.inl rfl)
  have hb2 := hb.2.2 rfl
  have hW := was_of l ho s 1 (.inl rfl)
  rw [pt_fl2 l ho s _ rfl] at h ⊢
  simp only [Int.natCast_one] at hb hb2 hW h ⊢
  generalize takeV 1 l s.1 l.length s.2.1 = b at *
  split at h
  · rename_i hbit
    obtain ⟨h1, h2⟩ := hW h
    refine ⟨b / 128, b / 64 % 2, ?_, by omega, by omega, ?_⟩
    · rw [h2, if_pos hbit, show rdE 1 1 (l.length - s.1) s.2.1 = 0 from h]
    · have : b / 128 * 128 + b / 64 % 2 * 64 = b := by omega
      rw [this]; exact h1
  · exact absurd h (spE3 _)
theorem st_fl3 (l : List Int) (ho : Oct l) (s : Nat × Int × List Int) (h : (ptStep l s ⟨1, [⟨10, 7, 1⟩]⟩).2.1 = 0) :
    ∃ t : Int, ptStep l s ⟨1, [⟨10, 7, 1⟩]⟩ = (s.1 + 1, 0, s.2.2.set 10 t) ∧ (t = 0 ∨ t = 1) ∧ Was l s 1 (t * 128) := by
  have hb := takeV_bd1 l ho 1 s.1 l.length s.2.1 (.inl rfl)
  have hb2 := hb.2.2 rfl
  have hW := was_of l ho s 1 (.inl rfl)
  rw [pt_fl3 l ho s _ rfl] at h ⊢
  simp only [Int.natCast_one] at hb hb2 hW h ⊢
  generalize takeV 1 l s.1 l.length s.2.1 = b at *
  split at h
  · rename_i hbit
    obtain ⟨h1, h2⟩ := hW h
    refine ⟨b / 128, ?_, by omega, ?_⟩
    · rw [h2, if_pos hbit, show rdE 1 1 (l.length - s.1) s.2.1 = 0 from h]
    · have : b / 128 * 128 = b := by omega
      rw [this]; exact h1
  · exact absurd h (spE3 _)
theorem Was.next {l : List Int} {s : Nat × Int × List Int} {z : Nat} {n : Int} (h : Was l s z n) {A : List Int} (hA : A = l.take s.1) : A ++ bytesOf z [n] = l.take (s.1 + z) := by
  rw [hA, h.bytes, List.take_add]
/-- What a message's head was read of. -/
structure HdOf (k : Nat) (l : List Int) (at_ : Nat) (v : List Int) : Prop where
  len : v.length = 11
  le : at_ ≤ l.length
  good : ∀ t : Int, t = (if (crt k || v.getD 10 0 == 1) = true then 1 else 0) → frmV k (v.set 10 t) = true ∧ witV k (v.set 10 t) = true ∧ hdV (v.set 10 t) (cpa k) = l.take at_ ∧ [v.getD 0 0, v.getD 1 0, v.getD 2 0, bitI (v.getD 3 0 == 1), v.getD 4 0, v.getD 5 0, v.getD 6 0, bitI (v.getD 7 0 == 1), v.getD 8 0, v.getD 9 0, t] = v.set 10 t
theorem bit1 {g : Int} (h : g = 0 ∨ g = 1) : bitI (g == 1) = g := by rcases h with rfl | rfl <;> rfl
theorem hd_0 (l : List Int) (ho : Oct l) (h : (rdP l (cpa 0)).2.1 = 0) : ∃ at_ v, rdP l (cpa 0) = (at_, 0, v) ∧ HdOf 0 l at_ v := by
  have e : rdP l (cpa 0) = ptStep l (0, 0, zer11) ⟨2, []⟩ := rfl
  rw [e] at h ⊢
  obtain ⟨e1, w1⟩ := st_none l ho _ 2 (.inr rfl) h
  rw [e1]
  refine ⟨_, _, rfl, rfl, w1.le, fun t ht => ?_⟩
  have ht' : t = 0 := by rw [ht]; rfl
  subst ht'
  refine ⟨rfl, rfl, ?_, rfl⟩
  have := w1.next (A := []) rfl
  simpa [hdV, hdP, cpa, cpas, orF] using this
theorem hd_1 (l : List Int) (ho : Oct l) (h : (rdP l (cpa 1)).2.1 = 0) : ∃ at_ v, rdP l (cpa 1) = (at_, 0, v) ∧ HdOf 1 l at_ v := by
  have e : rdP l (cpa 1) = ptStep l (ptStep l (ptStep l (ptStep l (ptStep l (ptStep l (0, 0, zer11) ⟨1, [⟨0, 0, 255⟩]⟩) ⟨1, [⟨1, 0, 255⟩]⟩) ⟨2, [⟨2, 0, 65535⟩]⟩) ⟨1, [⟨3, 7, 1⟩, ⟨4, 3, 7⟩, ⟨5, 0, 7⟩]⟩) ⟨1, [⟨6, 0, 255⟩]⟩) ⟨2, []⟩ := rfl
  rw [e] at h ⊢
  obtain ⟨e6, w6⟩ := st_none l ho _ 2 (.inr rfl) h
  obtain ⟨x6, e5, a5, b5, w5⟩ := st_full l ho _ 1 6 255 (.inl ⟨rfl, rfl⟩) w6.er
  obtain ⟨g, mo, pf, e4, hg, hmo, hpf, w4⟩ := st_fl1 l ho _ w5.er
  obtain ⟨x2, e3, a3, b3, w3⟩ := st_full l ho _ 2 2 65535 (.inr ⟨rfl, rfl⟩) w4.er
  obtain ⟨x1, e2, a2, b2, w2⟩ := st_full l ho _ 1 1 255 (.inl ⟨rfl, rfl⟩) w3.er
  obtain ⟨x0, e1, a1, b1, w1⟩ := st_full l ho _ 1 0 255 (.inl ⟨rfl, rfl⟩) w2.er
  have n1 := w1.next (A := []) rfl
  rw [e1] at e2 w2
  have n2 := w2.next n1
  rw [e1, e2] at e3 w3
  have n3 := w3.next n2
  rw [e1, e2, e3] at e4 w4
  have n4 := w4.next n3
  rw [e1, e2, e3, e4] at e5 w5
  have n5 := w5.next n4
  rw [e1, e2, e3, e4, e5] at e6 w6
  have n6 := w6.next n5
  rw [e1, e2, e3, e4, e5, e6]
  refine ⟨_, _, rfl, rfl, w6.le, fun t ht => ?_⟩
  have ht' : t = 1 := by rw [ht]; rfl
  subst ht'
  clear ht e1 e2 e3 e4 e5 e6 w1 w2 w3 w4 w5 w6 n1 n2 n3 n4 n5
  refine ⟨?_, ?_, ?_, ?_⟩
  · simp [frmV, crt, cpa, cpas, clrP, clrF, zer11]
  · simp [witV, inP, inF, crt, cpa, cpas, zer11]
    omega
  · simp [hdV, hdP, cpa, cpas, orF, zer11] at n6 ⊢
    exact n6
  · simp [zer11, bit1 hg]; rfl
theorem hd_2 (l : List Int) (ho : Oct l) (h : (rdP l (cpa 2)).2.1 = 0) : ∃ at_ v, rdP l (cpa 2) = (at_, 0, v) ∧ HdOf 2 l at_ v := by
  have e : rdP l (cpa 2) = ptStep l (ptStep l (ptStep l (ptStep l (0, 0, zer11) ⟨1, [⟨0, 0, 255⟩]⟩) ⟨1, [⟨7, 7, 1⟩, ⟨10, 6, 1⟩]⟩) ⟨1, []⟩) ⟨1, [⟨8, 0, 255⟩]⟩ := rfl
  rw [e] at h ⊢
  obtain ⟨x8, e4, a4, b4, w4⟩ := st_full l ho _ 1 8 255 (.inl ⟨rfl, rfl⟩) h
  obtain ⟨e3, w3⟩ := st_none l ho _ 1 (.inl rfl) w4.er
  obtain ⟨a, t0, e2, ha, ht0, w2⟩ := st_fl2 l ho _ w3.er
  obtain ⟨x0, e1, a1, b1, w1⟩ := st_full l ho _ 1 0 255 (.inl ⟨rfl, rfl⟩) w2.er
  have n1 := w1.next (A := []) rfl
  rw [e1] at e2 w2
  have n2 := w2.next n1
  rw [e1, e2] at e3 w3
  have n3 := w3.next n2
  rw [e1, e2, e3] at e4 w4
  have n4 := w4.next n3
  rw [e1, e2, e3, e4]
  refine ⟨_, _, rfl, rfl, w4.le, fun t ht => ?_⟩
  have ht' : t = t0 := by
    rw [ht]
    rcases ht0 with rfl | rfl <;> rfl
  subst ht'
  clear ht e1 e2 e3 e4 w1 w2 w3 w4 n1 n2 n3
  refine ⟨?_, ?_, ?_, ?_⟩
  · simp [frmV, crt, cpa, cpas, clrP, clrF, zer11]
  · simp [witV, inP, inF, crt, cpa, cpas, zer11]
    omega
  · simp [hdV, hdP, cpa, cpas, orF, zer11] at n4 ⊢
    exact n4
  · simp [zer11, bit1 ha]; rfl
theorem hd_3 (l : List Int) (ho : Oct l) (h : (rdP l (cpa 3)).2.1 = 0) : ∃ at_ v, rdP l (cpa 3) = (at_, 0, v) ∧ HdOf 3 l at_ v := by
  have e : rdP l (cpa 3) = ptStep l (ptStep l (ptStep l (ptStep l (0, 0, zer11) ⟨1, [⟨0, 0, 255⟩]⟩) ⟨1, [⟨10, 7, 1⟩]⟩) ⟨1, [⟨8, 0, 255⟩]⟩) ⟨1, [⟨9, 0, 255⟩]⟩ := rfl
  rw [e] at h ⊢
  obtain ⟨x9, e4, a4, b4, w4⟩ := st_full l ho _ 1 9 255 (.inl ⟨rfl, rfl⟩) h
  obtain ⟨x8, e3, a3, b3, w3⟩ := st_full l ho _ 1 8 255 (.inl ⟨rfl, rfl⟩) w4.er
  obtain ⟨t0, e2, ht0, w2⟩ := st_fl3 l ho _ w3.er
  obtain ⟨x0, e1, a1, b1, w1⟩ := st_full l ho _ 1 0 255 (.inl ⟨rfl, rfl⟩) w2.er
  have n1 := w1.next (A := []) rfl
  rw [e1] at e2 w2
  have n2 := w2.next n1
  rw [e1, e2] at e3 w3
  have n3 := w3.next n2
  rw [e1, e2, e3] at e4 w4
  have n4 := w4.next n3
  rw [e1, e2, e3, e4]
  refine ⟨_, _, rfl, rfl, w4.le, fun t ht => ?_⟩
  have ht' : t = t0 := by
    rw [ht]
    rcases ht0 with rfl | rfl <;> rfl
  subst ht'
  clear ht e1 e2 e3 e4 w1 w2 w3 w4 n1 n2 n3
  refine ⟨?_, ?_, ?_, ?_⟩
  · simp [frmV, crt, cpa, cpas, clrP, clrF, zer11]
  · simp [witV, inP, inF, crt, cpa, cpas, zer11]
    omega
  · simp [hdV, hdP, cpa, cpas, orF, zer11] at n4 ⊢
    exact n4
  · simp [zer11]; rfl
theorem hd_of (k : Nat) (hk : k < 4) (l : List Int) (ho : Oct l) (h : (rdP l (cpa k)).2.1 = 0) : ∃ at_ v, rdP l (cpa k) = (at_, 0, v) ∧ HdOf k l at_ v := by
  have hk' : k = 0 ∨ k = 1 ∨ k = 2 ∨ k = 3 := by omega
  rcases hk' with rfl | rfl | rfl | rfl
  · exact hd_0 l ho h
  · exact hd_1 l ho h
  · exact hd_2 l ho h
  · exact hd_3 l ho h
theorem opE_0 {c : Int} {l : List Int} {at_ : Nat} {er : Int} (h : opE c l at_ er = 0) : er = 0 ∧ (dec 0 (l.drop at_)).2 = 0 ∧ allM c (dec 0 (l.drop at_)).1 = true ∧ opP l at_ er = (dec 0 (l.drop at_)).1 := by
  by_cases he : er = 0
  · subst he
    simp only [opE, opP, rst, if_true, spE] at h ⊢
    by_cases h5 : (dec 0 (l.drop at_)).2 = 0
    · simp only [h5, if_true] at h ⊢
      refine ⟨trivial, trivial, ?_, trivial⟩
      by_cases ha : allM c (dec 0 (l.drop at_)).1 = true
      · exact ha
      · rw [if_neg ha] at h; exact absurd h (by decide)
    · simp only [h5, if_false, if_true] at h
      simp [allM] at h
      exact absurd h h5
  · exfalso
    simp only [opE, opP, rst, if_neg he, spE] at h
    rw [dec_nil] at h
    simp [allM, he] at h
/-- What Decode answers without fault, Encode gives back. -/
theorem round_trip (k : Nat) (hk : k < 4) (l : List Int) (ho : Oct l) (hl : l.length ≤ 1280) (h : dcE k l = 0) : eE (dcM k l) = 0 ∧ eL (dcM k l) = l := by
  obtain ⟨h1, h2, h3, h4⟩ := opE_0 h
  have hE1 : (rdP l (cpa k)).2.1 = 0 := by
    rw [rdT] at h1
    split at h1
    · by_cases hh : rdE 1 16 (l.length - (rdP l (cpa k)).1) (rdP l (cpa k)).2.1 = 0
      · unfold rdE at hh
        split at hh
        · assumption
        · exact hh
      · exfalso
        revert h1
        simp only [adE, spE, if_neg hh]
        split <;> exact hh
    · exact h1
  obtain ⟨at_, v, hr, hd⟩ := hd_of k hk l ho hE1
  have hro : ∃ ro at3, rdT k l = (at3, 0, ro) ∧ thr ro = (if (crt k || v.getD 10 0 == 1) = true then 1 else 0) ∧ (if thr ro = 1 then ro else []) = (l.drop at_).take (at3 - at_) ∧ at_ ≤ at3 ∧ at3 ≤ l.length := by
    have hB : rdB k (rdP l (cpa k)) = (crt k || v.getD 10 0 == 1) := by rw [rdB, hr]
    have hT : rdT k l = if (crt k || v.getD 10 0 == 1) = true then (adA l at_ 0, adE l at_ 0, adR l at_ 0) else (at_, 0, zeros) := by rw [rdT, hB, hr]
    rw [hT] at h1 ⊢
    split
    · rename_i hb
      rw [if_pos hb] at h1
      have h1 : adE l at_ 0 = 0 := h1
      by_cases hz : adR l at_ 0 = zeros
      · exfalso
        simp only [adE, if_pos hz, spE] at h1
        split at h1
        · exact absurd h1 (by decide)
        · rename_i hn; exact hn h1
      · simp only [adE, if_neg hz] at h1
        obtain ⟨_, g1, g2⟩ : (0 : Int) = 0 ∧ 16 ≤ l.length - at_ ∧ rdN 1 16 (l.length - at_) 0 = 16 := by
          have h0 := h1
          unfold rdE at h1
          rw [if_pos rfl] at h1
          split at h1
          · exact absurd h1 (by decide)
          · split at h1
            · exact absurd h1 (by decide)
            · refine ⟨rfl, by omega, ?_⟩
              rw [rdN, if_pos h0]; rfl
        have hR : adR l at_ 0 = (l.drop at_).take 16 := by rw [adR, if_pos h1]
        have ht : thr (adR l at_ 0) = 1 := by rw [thr_1]; exact hz
        refine ⟨adR l at_ 0, adA l at_ 0, ?_, ht, ?_, ?_, ?_⟩
        · rw [adE, if_neg hz, h1]
        · rw [if_pos ht, hR, adA, g2]; congr 1; omega
        · rw [adA]; omega
        · rw [adA, g2]; omega
    · refine ⟨zeros, at_, rfl, rfl, ?_, Nat.le_refl _, hd.le⟩
      rw [if_neg (by decide)]; simp
  obtain ⟨ro, at3, hT, ht, hb, hle, hle3⟩ := hro
  obtain ⟨g1, g2, g3, g4⟩ := hd.good (thr ro) ht
  have h2' : (dec 0 (l.drop at3)).2 = 0 := by rw [hT] at h2; exact h2
  have h3' : allM k (dec 0 (l.drop at3)).1 = true := by rw [hT] at h3; exact h3
  have hP : dcP k l = (dec 0 (l.drop at3)).1 := by rw [dcP, h4, hT]
  obtain ⟨n1, n2⟩ := enc_of (l.drop at3) (fun x hx => ho x (List.mem_of_mem_drop hx)) (by rw [List.length_drop]; omega) h2'
  generalize (dec 0 (l.drop at3)).1 = P at *
  have hM : dcM k l = { (vm v k).p with ro := ro, o := P } := by rw [dcM, hP, hT, hr]
  have hvs : (dcM k l).vs = v.set 10 (thr ro) := by rw [hM, ← g4]; rfl
  have hc : (dcM k l).c = k := by rw [hM]; rfl
  have ho2 : (dcM k l).o = P := by rw [hM]
  have hro2 : (dcM k l).ro = ro := by rw [hM]
  have hck : chkM (dcM k l) = 0 := by
    have h0 : chk0M (dcM k l) = 0 := by
      rw [chk0M, hc, hvs, ho2, Int.toNat_natCast, if_pos (codB_nat hk), if_pos g1, if_pos g2, if_pos h3']
    rw [chkM, if_pos h0, ho2]; exact n1
  have hv10 : (v.set 10 (thr ro)).getD 10 0 = thr ro := by
    have := hd.len
    simp [List.getD_eq_getElem?_getD, List.getElem?_set, this]
  have hh : hdM (dcM k l) = l.take at3 := by
    rw [hdM, hvs, hc, hro2, Int.toNat_natCast, g3, hv10, hb]
    conv => rhs; rw [show at3 = at_ + (at3 - at_) by omega, List.take_add]
  have hall : hdM (dcM k l) ++ encsL (dcM k l).o = l := by rw [hh, ho2, n2, List.take_append_drop]
  have hE : eE (dcM k l) = 0 := by
    rw [eE, if_neg (by rw [hck]; simp), if_neg]
    have := congrArg List.length hall
    rw [List.length_append] at this
    omega
  exact ⟨hE, by rw [eL, if_pos hE]; exact hall⟩
theorem round_trip_any (code : Int) (l : List Int) (ho : Oct l) (hl : l.length ≤ 1280) (h : dE code l = 0) : eE (dM code l) = 0 ∧ eL (dM code l) = l := by
  unfold dE at h
  split at h
  · rename_i hc
    rw [dM, if_pos hc, if_pos h]
    obtain ⟨k, e, hk⟩ := cod_nat hc
    rw [e, Int.toNat_natCast] at h ⊢
    exact round_trip k hk l ho hl h
  · exact absurd h (by decide)
end Go.Proofs.YtbfjkhafdkhhmaaDoor

namespace Go.Proofs.YtbfjkhafdkhhmaaDoor
open Go.ChangeShapes Go.WideShapes Go.ChangeAt Go.RowKit Go.Deep
set_option linter.unusedVariables false
set_option linter.unusedSimpArgs false

set_option maxHeartbeats 400000 in
theorem equal39_len (a b : Option Addr) (n ca cb : Nat) (l m : List Int) (w : World) (ha : Lies .i64 w a n ca l) (hb : Lies .i64 w b n cb m) :
    Calls Tryd.prog 60 #[.slice a n ca, .slice b n cb] w fun e w' => e = .returned (.bool (l == m)) ∧ ∃ q, w' = w.drewN q := by
  obtain ⟨hl, hlc, hcm, _, hc⟩ := ha
  obtain ⟨hl2, hlc2, hcm2, _, hc2⟩ := hb
  unfold maxLen at hcm hcm2
  have HC : Hid _ := hc
  have HL : Hid (l.length = n) := hl
  have HC2 : Hid _ := hc2
  have HL2 : Hid (m.length = n) := hl2
  clear hc hl hc2 hl2
  go_enter Tryd.func60, Tryd.ntmps60
  go_wp2
  go_loopw [13] (fun i wr => ∃ k : Nat, k ≤ n ∧ i = .int .i64 k ∧ Hid (l.take k = m.take k) ∧ ∃ q, wr = w.drewN q) (fun i _ => n - (intOf i).toNat)
  case atStart => exact ⟨0, Nat.zero_le _, rfl, rfl, 0, rfl⟩
  case round =>
    obtain ⟨k, hk, rfl, hall, q, rfl⟩ := hrel
    by_cases hlt : k < n
    · obtain ⟨b1, off1, rfl, hcell1⟩ := HC.out k hlt
      obtain ⟨b2, off2, rfl, hcell2⟩ := HC2.out k hlt
      have HD : Hid (l.getD k 0 ≠ m.getD k 0 → (l == m) = false) := take_differ l m k (by rw [HL.out]; exact hlt) (by rw [HL2.out]; exact hlt)
      have HS : Hid (l.getD k 0 = m.getD k 0 → l.take (k + 1) = m.take (k + 1)) := take_same l m k (by rw [HL.out]; exact hlt) (by rw [HL2.out]; exact hlt) hall.out
      have hlt' : (k : Int) < (n : Int) := by omega
      generalize l.getD k 0 = x at *
      generalize m.getD k 0 = y at *
      go_wp2
      go_quiet (fail)
      by_cases hxy : x = y
      · have hb : (x != y) = false := by simp [hxy]
        have HX : Hid (x = y) := hxy
        clear hxy
        go_wp2
        go_roundw
        case rel => exact ⟨k + 1, by omega, by go_num, HS.out HX.out, q + nq, rfl⟩
        case measure => simp [intOf]; omega
      · have hb : (x != y) = true := by rw [bne_iff_ne]; exact hxy
        go_wp2
        go_ret
        exact ⟨ret_bool (HD.out hxy).symm, q + nq, World.drewN_drewN ..⟩
    · obtain rfl : k = n := by omega
      go_wp2
      go_ret
      refine ⟨ret_bool ?_, q, rfl⟩
      have h1 : l.take k = l := List.take_of_length_le (by rw [HL.out]; exact Nat.le_refl _)
      have h2 : m.take k = m := List.take_of_length_le (by rw [HL2.out]; exact Nat.le_refl _)
      have := hall.out
      rw [h1, h2] at this
      simp [this]
theorem equal39_any (a b : Option Addr) (la ca lb cb : Nat) (l m : List Int) (w : World) (ha : Lies .i64 w a la ca l) (hb : Lies .i64 w b lb cb m) :
    Calls Tryd.prog 60 #[.slice a la ca, .slice b lb cb] w fun e w' => e = .returned (.bool (l == m)) ∧ ∃ q, w' = w.drewN q := by
  by_cases h : la = lb
  · subst h; exact equal39_len a b la ca cb l m w ha hb
  · have hne : ((la : Int) != (lb : Int)) = true := by rw [bne_iff_ne]; omega
    have HE : Hid ((l == m) = false) := by
      rw [Hid, beq_eq_false_iff_ne]
      intro e; subst e
      exact h (ha.1.symm.trans hb.1)
    clear h ha hb
    go_enter Tryd.func60, Tryd.ntmps60
    go_wp2
    go_ret
    exact ⟨ret_bool HE.out.symm, 0, rfl⟩
set_option maxHeartbeats 400000 in
theorem equal40_len (a b : Option Addr) (n ca cb : Nat) (l m : List Int) (w : World) (ha : Lies .u8 w a n ca l) (hb : Lies .u8 w b n cb m) :
    Calls Tryd.prog 61 #[.slice a n ca, .slice b n cb] w fun e w' => e = .returned (.bool (l == m)) ∧ ∃ q, w' = w.drewN q := by
  obtain ⟨hl, hlc, hcm, _, hc⟩ := ha
  obtain ⟨hl2, hlc2, hcm2, _, hc2⟩ := hb
  unfold maxLen at hcm hcm2
  have HC : Hid _ := hc
  have HL : Hid (l.length = n) := hl
  have HC2 : Hid _ := hc2
  have HL2 : Hid (m.length = n) := hl2
  clear hc hl hc2 hl2
  go_enter Tryd.func61, Tryd.ntmps61
  go_wp2
  go_loopw [13] (fun i wr => ∃ k : Nat, k ≤ n ∧ i = .int .i64 k ∧ Hid (l.take k = m.take k) ∧ ∃ q, wr = w.drewN q) (fun i _ => n - (intOf i).toNat)
  case atStart => exact ⟨0, Nat.zero_le _, rfl, rfl, 0, rfl⟩
  case round =>
    obtain ⟨k, hk, rfl, hall, q, rfl⟩ := hrel
    by_cases hlt : k < n
    · obtain ⟨b1, off1, rfl, hcell1⟩ := HC.out k hlt
      obtain ⟨b2, off2, rfl, hcell2⟩ := HC2.out k hlt
      have HD : Hid (l.getD k 0 ≠ m.getD k 0 → (l == m) = false) := take_differ l m k (by rw [HL.out]; exact hlt) (by rw [HL2.out]; exact hlt)
      have HS : Hid (l.getD k 0 = m.getD k 0 → l.take (k + 1) = m.take (k + 1)) := take_same l m k (by rw [HL.out]; exact hlt) (by rw [HL2.out]; exact hlt) hall.out
      have hlt' : (k : Int) < (n : Int) := by omega
      generalize l.getD k 0 = x at *
      generalize m.getD k 0 = y at *
      go_wp2
      go_quiet (fail)
      by_cases hxy : x = y
      · have hb : (x != y) = false := by simp [hxy]
        have HX : Hid (x = y) := hxy
        clear hxy
        go_wp2
        go_roundw
        case rel => exact ⟨k + 1, by omega, by go_num, HS.out HX.out, q + nq, rfl⟩
        case measure => simp [intOf]; omega
      · have hb : (x != y) = true := by rw [bne_iff_ne]; exact hxy
        go_wp2
        go_ret
        exact ⟨ret_bool (HD.out hxy).symm, q + nq, World.drewN_drewN ..⟩
    · obtain rfl : k = n := by omega
      go_wp2
      go_ret
      refine ⟨ret_bool ?_, q, rfl⟩
      have h1 : l.take k = l := List.take_of_length_le (by rw [HL.out]; exact Nat.le_refl _)
      have h2 : m.take k = m := List.take_of_length_le (by rw [HL2.out]; exact Nat.le_refl _)
      have := hall.out
      rw [h1, h2] at this
      simp [this]
theorem equal40_any (a b : Option Addr) (la ca lb cb : Nat) (l m : List Int) (w : World) (ha : Lies .u8 w a la ca l) (hb : Lies .u8 w b lb cb m) :
    Calls Tryd.prog 61 #[.slice a la ca, .slice b lb cb] w fun e w' => e = .returned (.bool (l == m)) ∧ ∃ q, w' = w.drewN q := by
  by_cases h : la = lb
  · subst h; exact equal40_len a b la ca cb l m w ha hb
  · have hne : ((la : Int) != (lb : Int)) = true := by rw [bne_iff_ne]; omega
    have HE : Hid ((l == m) = false) := by
      rw [Hid, beq_eq_false_iff_ne]
      intro e; subst e
      exact h (ha.1.symm.trans hb.1)
    clear h ha hb
    go_enter Tryd.func61, Tryd.ntmps61
    go_wp2
    go_ret
    exact ⟨ret_bool HE.out.symm, 0, rfl⟩
/-- Are two options the same? -/
def Po.eqB (p q : Po) : Bool := p.k == q.k && (p.ad == q.ad && (p.n == q.n && p.t == q.t))
theorem Po.eqB_self (p : Po) : p.eqB p = true := by simp [Po.eqB]
theorem Po.eq_of {p q : Po} (h : p.eqB q = true) : p = q := by
  simp [Po.eqB] at h
  obtain ⟨h1, h2, h3, h4⟩ := h
  cases p; cases q; simp_all
set_option maxHeartbeats 1600000 in
theorem same1_any (o p : Ov) (w : World) (ho : o.ok w) (hp : p.ok w) :
    Calls Tryd.prog 59 #[.agg o.cs, .agg p.cs] w fun e w' => e = .returned (.bool (o.p.eqB p.p)) ∧ Below w.heap.size w w' := by
  have B0 := hid (balloc (balloc (Below.refl w.heap.size w) (.cells o.cs 54)) (.cells p.cs 54))
  have R0 := hid ((Row.new w 54 o.cs).alloc (.cells p.cs 54))
  have R1 := hid (Row.new (w.alloc (.cells o.cs 54)) 54 p.cs)
  have hs1 : (w.alloc (.cells o.cs 54)).heap.size = w.heap.size + 1 := World.size_alloc ..
  rw [hs1] at R1
  have O0 := hid (ho.below B0.out)
  have P0 := hid (hp.below B0.out)
  have HA := hid ho.ad
  have HB := hid hp.ad
  have hq := eq41 o.ad p.ad ho.ad.1 hp.ad.1
  have HF : Hid (o.p.eqB p.p = (o.k == p.k && (o.ad == p.ad && (o.n.l == p.n.l && o.t.l == p.t.l)))) := rfl
  have cN := hid (fun w' (hb : Below w.heap.size w w') => equal39_any o.n.a p.n.a o.n.n o.n.cap p.n.n p.n.cap o.n.l p.n.l w' (ho.n.below hb) (hp.n.below hb))
  have cT := hid (fun w' (hb : Below w.heap.size w w') => equal40_any o.t.a p.t.a o.t.n o.t.cap p.t.n p.t.cap o.t.l p.t.l w' (ho.t.below hb) (hp.t.below hb))
  generalize o.p.eqB p.p = fb at *
  clear ho hp hs1
  generalize hkk : (o.k == p.k) = kb at *
  generalize (o.ad == p.ad) = ab at *
  generalize (o.n.l == p.n.l) = nb at *
  generalize (o.t.l == p.t.l) = tb at *
  go_enter Tryd.func59, Tryd.ntmps59
  go_upto_region 1 with fail
  generalize hw1 : (w.alloc (.cells o.cs 54)).alloc (.cells p.cs 54) = w1 at *
  have a0 := (R0.out.cell 0).trans o.at0
  have b0 := (R1.out.cell 0).trans p.at0
  have a1 := (R0.out.cell 1).trans o.at1
  have b1 := (R1.out.cell 1).trans p.at1
  have a18 := (R0.out.cell 18).trans (Ov.at18 HA.out)
  have b18 := (R1.out.cell 18).trans (Ov.at18 HB.out)
  have PA := hid (R0.out.part.ovA HA.out)
  have PB := hid (R1.out.part.ovA HB.out)
  clear hw1
  cases kb
  · go_wp2_with fail
    go_ret
    exact ⟨ret_bool (by rw [HF.out]; rfl), B0.out⟩
  · cases ab
    · go_wp2_with (first | (refine ld41 _ rfl rfl _ _ rfl o.ad HA.out PA.out ?_) | (refine ld41 _ rfl rfl _ _ rfl p.ad HB.out PB.out ?_))
      go_ret
      exact ⟨ret_bool (by rw [HF.out]; rfl), B0.out⟩
    · go_wp2_with (first | (refine ld41 _ rfl rfl _ _ rfl o.ad HA.out PA.out ?_) | (refine ld41 _ rfl rfl _ _ rfl p.ad HB.out PB.out ?_))
      refine (cN.out _ B0.out).mono ?_
      rintro e w2 ⟨rfl, q, rfl⟩
      have B2 := hid (bdrew B0.out q)
      cases nb
      · go_wp2_with fail
        go_ret
        exact ⟨ret_bool (by rw [HF.out]; rfl), B2.out⟩
      · go_wp2_with fail
        refine (cT.out _ B2.out).mono ?_
        rintro e w3 ⟨rfl, q3, rfl⟩
        cases tb
        · go_wp2_with fail
          go_ret
          exact ⟨ret_bool (by rw [HF.out]; rfl), bdrew B0.out _⟩
        · go_wp2_with fail
          go_ret
          exact ⟨ret_bool (by rw [HF.out]; rfl), bdrew B0.out _⟩
end Go.Proofs.YtbfjkhafdkhhmaaDoor

namespace Go.Proofs.YtbfjkhafdkhhmaaDoor
open Go.ChangeShapes Go.WideShapes Go.ChangeAt Go.RowKit Go.Deep
set_option linter.unusedVariables false
set_option linter.unusedSimpArgs false

/-- Are the first ones the same? -/
def allTo (L M : List Po) (j : Nat) : Bool := (List.range j).all fun i => (L.getD i Po.none).eqB (M.getD i Po.none)
def allB (L M : List Po) : Bool := (L.length == M.length) && allTo L M L.length
theorem allTo_succ (L M : List Po) (j : Nat) : allTo L M (j + 1) = (allTo L M j && (L.getD j Po.none).eqB (M.getD j Po.none)) := by
  unfold allTo; rw [List.range_succ, List.all_append]; simp
theorem allTo_no (L M : List Po) (j n : Nat) (hj : j < n) (h : (L.getD j Po.none).eqB (M.getD j Po.none) = false) : allTo L M n = false := by
  unfold allTo; rw [List.all_eq_false]; exact ⟨j, by simpa using hj, by simpa using h⟩
theorem allB_self (L : List Po) : allB L L = true := by
  simp [allB, allTo, Po.eqB_self]
theorem allB_one (p q : Po) : allB [p] [q] = p.eqB q := by simp [allB, allTo, List.range_succ]
set_option maxRecDepth 100000 in
set_option maxHeartbeats 1600000 in
theorem equalFunc_any (a b : Option Addr) (n ca m cb : Nat) (L M : List Ov) (w : World) (hL : Opts w a n ca L) (hM : Opts w b m cb M) :
    Calls Tryd.prog 58 #[.slice a n ca, .slice b m cb, .func (.func 59) #[] #[]] w fun e w' => e = .returned (.bool (allB (pos L) (pos M))) ∧ Below w.heap.size w w' := by
  have hz := zov
  have k1 := Nat.le_trans hL.le hL.max
  have k2 := Nat.le_trans hM.le hM.max
  unfold maxLen at k1 k2
  have HL := hid hL
  have HM := hid hM
  have HF : Hid (allB (pos L) (pos M) = ((n == m) && allTo (pos L) (pos M) n)) := by rw [Hid, allB, pos_len, pos_len, hL.len, hM.len]
  have ll := hid hL.len
  have lm := hid hM.len
  clear hL hM
  generalize allB (pos L) (pos M) = fb at *
  by_cases hnm : n = m
  · subst hnm
    have HF : Hid (fb = allTo (pos L) (pos M) n) := by rw [Hid, HF.out]; simp
    go_enter Tryd.func58, Tryd.ntmps58
    go_wp2_with fail
    go_loopw [17] (fun i wr => ∃ j : Nat, j ≤ n ∧ i = .int .i64 j ∧ Hid (allTo (pos L) (pos M) j = true) ∧ Hid (Below w.heap.size w wr)) (fun i _ => n - (intOf i).toNat)
    case atStart => exact ⟨0, Nat.zero_le _, rfl, rfl, Below.refl _ _⟩
    case round =>
      obtain ⟨j, hj, rfl, hall, hb⟩ := hrel
      by_cases hlt : j < n
      · have hlt' : (j : Int) < (n : Int) := by omega
        obtain ⟨b1, off1, rfl, hp1⟩ := (HL.out.below hb.out).cell j hlt
        obtain ⟨b2, off2, rfl, hp2⟩ := (HM.out.below hb.out).cell j hlt
        have ok1 := (HL.out.below hb.out).at j hlt
        have ok2 := (HM.out.below hb.out).at j hlt
        have HS := hid (allTo_succ (pos L) (pos M) j)
        have HN := hid (allTo_no (pos L) (pos M) j n hlt)
        rw [pos_at L j (by rw [ll.out]; exact hlt), pos_at M j (by rw [lm.out]; exact hlt)] at HS HN
        generalize L.getD j Ov.zero = o at *
        generalize M.getD j Ov.zero = p at *
        have P1 := hid hp1
        have P2 := hid hp2
        have O1 := hid ok1
        have O2 := hid ok2
        have A1 := hid ok1.ad
        have A2 := hid ok2.ad
        clear hp1 hp2 ok1 ok2
        have Ra := hid (layOo_new wr 54 o)
        have Ba := hid (layOo_below wr 54 o)
        go_upto_region 6 with (first | (refine ldOo o43 _ rfl rfl _ _ rfl o A1.out P1.out ?_) | (refine stOo o43 _ _ rfl rfl wr.heap.size o A1.out rfl rfl 54 Ov.zero adr_zeros (Row.new wr 54 _) ?_))
        generalize hw2 : (wr.alloc (.cells Ov.zero.cs 54)).setRow wr.heap.size o.cs = w2 at *
        generalize hg1 : wr.heap.size = g1 at *
        have P3 := hid (Part.below P2.out (by rw [hg1]; exact Ba.out))
        have O3 := hid (O1.out.below (by rw [hg1]; exact Ba.out))
        have O4 := hid (O2.out.below (by rw [hg1]; exact Ba.out))
        have B3 := hid (bthen hb.out (by rw [hg1]; exact Ba.out))
        clear hw2 P1 P2 O1 O2
        have Rb := hid (layOo_new w2 54 p)
        have Bb := hid (layOo_below w2 54 p)
        have Rc := hid (Ra.out.below Bb.out)
        go_upto_region 7 with (first | (refine ldOo o43 _ rfl rfl _ _ rfl p A2.out P3.out ?_) | (refine stOo o43 _ _ rfl rfl w2.heap.size p A2.out rfl rfl 54 Ov.zero adr_zeros (Row.new w2 54 _) ?_))
        generalize hw3 : (w2.alloc (.cells Ov.zero.cs 54)).setRow w2.heap.size p.cs = w3 at *
        have O5 := hid (O3.out.below Bb.out)
        have O6 := hid (O4.out.below Bb.out)
        have B4 := hid (bthen B3.out Bb.out)
        generalize hg2 : w2.heap.size = g2 at *
        clear hw3 O3 O4 P3 hg1 hg2
        go_wp2_with (first | (refine ldOo o43 _ rfl rfl _ _ rfl o A1.out Rc.out.part ?_) | (refine ldOo o43 _ rfl rfl _ _ rfl p A2.out Rb.out.part ?_))
        refine (same1_any o p _ O5.out O6.out).mono ?_
        rintro e w4 ⟨rfl, hb4⟩
        have B5 := hid (bthen B4.out hb4)
        clear hb4
        cases hc : o.p.eqB p.p
        · rw [hc] at HN
          go_wp2_with fail
          go_ret
          exact ⟨ret_bool (by rw [HF.out]; exact (HN.out (by simp)).symm), B5.out⟩
        · rw [hc] at HS
          go_wp2_with fail
          go_roundw
          case rel => exact ⟨j + 1, by omega, by go_num, by rw [Hid, HS.out, hall.out]; rfl, B5.out⟩
          case measure => simp [intOf]; omega
      · obtain rfl : j = n := by omega
        go_wp2_with fail
        go_ret
        exact ⟨ret_bool (by rw [HF.out]; exact hall.out.symm), hb.out⟩
  · have hne : ((n : Int) != (m : Int)) = true := by rw [bne_iff_ne]; omega
    have HF : Hid (fb = false) := by rw [Hid, HF.out]; simp [hnm]
    clear hnm
    go_enter Tryd.func58, Tryd.ntmps58
    go_wp2_with fail
    go_ret
    exact ⟨ret_bool HF.out.symm, Below.refl _ _⟩
theorem oSame_any (a b : Option Addr) (n ca m cb : Nat) (L M : List Ov) (w : World) (hL : Opts w a n ca L) (hM : Opts w b m cb M) :
    Calls Tryd.prog 33 #[.slice a n ca, .slice b m cb] w fun e w' => e = .returned (.bool (allB (pos L) (pos M))) ∧ Below w.heap.size w w' := by
  have HL := hid hL
  have HM := hid hM
  clear hL hM
  go_enter Tryd.func33, Tryd.ntmps33
  go_wp2_with fail
  refine (equalFunc_any a b n ca m cb L M _ HL.out HM.out).mono ?_
  rintro e w' ⟨rfl, hb⟩
  go_wp2_with fail
  go_ret
  exact ⟨rfl, hb⟩
end Go.Proofs.YtbfjkhafdkhhmaaDoor
