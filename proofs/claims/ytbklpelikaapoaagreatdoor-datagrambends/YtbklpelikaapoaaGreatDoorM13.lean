/- What is written without fault is read as it was. · Are options the same? · Are lists of options the same? · Are two messages the same? · Datagrams, plainly: what is wrong with a packet, its bytes; what bytes are. · datagram's Encode: data, control messages. · datagram's reading: what reads the bytes behind a header. · datagram's Control. · A control datagram with one bit turned behind its header: the checksum tells. · A message's targets. · The document's answer: May; and the chapter's example. · The document's answer: bit; has a message more than its code has? · The document's answer: Check. · The document's answer: the bytes of a message. -/
import Derived.Test.YtbklpelikaapoaaGreatDoorM12
import Derived.Test.YtbklpelikaapoaaGreatDoorM3
import Derived.Deep.QuietTactic
import Derived.Test.YtbklpelikaapoaaGreatDoorM5
import Derived.Test.YtbklpelikaapoaaGreatDoorM9
import Derived.Test.YtbklpelikaapoaaGreatDoorM10
import Derived.Test.YtbklpelikaapoaaGreatDoorM11
import Derived.Test.YtbklpelikaapoaaGreatDoorM6
import Derived.Test.YtbklpelikaapoaaGreatDoorM7
import Derived.Test.YtbklpelikaapoaaGreatDoorM4
import Derived.Deep.CutBlock
namespace Go.Proofs.YtbklpelikaapoaaGreatDoor
set_option linter.unusedVariables false
set_option linter.unusedSimpArgs false

theorem partsB_oct (P : List (Int × Int)) (ad : List Int) (h : Oct ad) : ∀ n, Oct (partsB P n ad) := by
  induction P with
  | nil => intro n x hx; cases hx
  | cons q P ih =>
    intro n x hx
    rw [partsB] at hx
    split at hx
    · rcases List.mem_append.1 hx with e | e
      · exact h x e
      · exact ih _ x e
    · rcases List.mem_append.1 hx with e | e
      · exact digs_oct _ _ x e
      · exact ih _ x e
theorem encP_oct {o : Po} (h : chkP o = 0) (ha : Adr o.ad) (ht : Oct o.t) : Oct (encP o) := by
  obtain ⟨k, hk, hk10⟩ := knd_nat (chk0 h).1
  have hl := conP_le hk10 hk h ha.1
  have hc : Oct (conP k o) := by
    unfold conP
    split
    · intro x hx; have := (List.mem_replicate.1 hx).2; omega
    · intro x hx
      rcases List.mem_append.1 hx with e | e
      · exact partsB_oct _ _ ha.2 _ x e
      · exact ht x e
  unfold encP
  split
  · intro x hx; simp at hx; omega
  · rw [hk, Int.toNat_natCast]
    intro x hx
    rcases List.mem_cons.1 hx with e | e
    · omega
    · rcases List.mem_cons.1 e with e | e
      · omega
      · exact hc x e
theorem encsL_oct {L : List Ov} (h : ∀ o ∈ L, Adr o.ad ∧ Oct o.t.l) : Oct (encsL (pos L)) := by
  unfold encsL
  split
  · rename_i h0
    have h1 := (encE_0 h0).2.1
    intro x hx
    obtain ⟨p, hp, hx⟩ := List.mem_flatMap.1 hx
    obtain ⟨o, ho, rfl⟩ := List.mem_map.1 hp
    exact encP_oct (h1 _ hp) (h o ho).1 (h o ho).2 x hx
  · intro x hx; cases hx
theorem hdV_oct (v : List Int) (ps : List Pa) : Oct (hdV v ps) := by
  intro x hx
  obtain ⟨p, hp, hx⟩ := List.mem_flatMap.1 hx
  exact bytesOf_oct _ _ x hx
/-- Where the reader stands: behind A, without fault. -/
structure At (l A R : List Int) (s : Nat × Int × List Int) : Prop where
  eq : l = A ++ R
  at_ : s.1 = A.length
  er : s.2.1 = 0
theorem At.next {l A R : List Int} {s : Nat × Int × List Int} {z : Nat} {n : Int} (h : At l A (bytesOf z [n] ++ R) s) (hz : z = 1 ∨ z = 2) {v : List Int} : At l (A ++ bytesOf z [n]) R (s.1 + z, 0, v) := by
  refine ⟨by rw [h.eq, List.append_assoc], ?_, rfl⟩
  show s.1 + z = _
  rw [List.length_append, bytesOf_length _ _ (by rcases hz with rfl | rfl <;> rfl), h.at_]
  simp
theorem fw {l A R : List Int} {s : Nat × Int × List Int} {z : Nat} {n : Int} (hz : z = 1 ∨ z = 2) (h : At l A (bytesOf z [n] ++ R) s) (hn : okB z n = true) :
    takeV z l s.1 l.length s.2.1 = n ∧ rdN z 1 (l.length - s.1) s.2.1 = z ∧ rdE z 1 (l.length - s.1) s.2.1 = 0 := by
  have hsz : sizeB z = true := by rcases hz with rfl | rfl <;> rfl
  have hlb : (bytesOf z [n]).length = z := by rw [bytesOf_length _ _ hsz]; simp
  have hlen : l.length = A.length + (z + R.length) := by rw [h.eq]; simp [hlb]
  have hE : rdE z 1 (l.length - s.1) s.2.1 = 0 := by
    rw [rdE, if_pos h.er, if_neg (by rw [hsz]; simp), if_neg]
    rw [h.at_]; omega
  have hN : rdN z 1 (l.length - s.1) s.2.1 = z := by rw [rdN, if_pos hE]; simp
  refine ⟨?_, hN, hE⟩
  rw [takeV, hN, h.eq, h.at_, List.drop_left, List.take_left' hlb, bytesOf, List.flatMap_singleton]
  exact numOf_digs z n hsz hn
theorem f_full {l A R : List Int} {s : Nat × Int × List Int} {z j lst : Nat} {n : Int} (ho : Oct l) (hz : (z = 1 ∧ lst = 255) ∨ (z = 2 ∧ lst = 65535)) (h : At l A (bytesOf z [n] ++ R) s) (hn : okB z n = true) :
    ptStep l s ⟨z, [⟨j, 0, lst⟩]⟩ = (s.1 + z, 0, s.2.2.set j n) := by
  obtain ⟨h1, h2, h3⟩ := fw (by omega) h hn
  rw [pt_full l ho s z j lst hz, h1, h2, h3]
theorem f_none {l A R : List Int} {s : Nat × Int × List Int} {z : Nat} (hz : z = 1 ∨ z = 2) (h : At l A (bytesOf z [0] ++ R) s) :
    ptStep l s ⟨z, []⟩ = (s.1 + z, 0, s.2.2) := by
  obtain ⟨h1, h2, h3⟩ := fw hz h (by rcases hz with rfl | rfl <;> rfl)
  rw [pt_none l s z, zE, if_pos (by exact h1), h2, h3]
theorem f_fl1 {l A R : List Int} {s : Nat × Int × List Int} {g mo pf : Int} (ho : Oct l) (hg : g = 0 ∨ g = 1) (hm : 0 ≤ mo ∧ mo ≤ 7) (hp : 0 ≤ pf ∧ pf ≤ 7) (h : At l A (bytesOf 1 [g * 128 + mo * 8 + pf] ++ R) s) :
    ptStep l s ⟨1, [⟨3, 7, 1⟩, ⟨4, 3, 7⟩, ⟨5, 0, 7⟩]⟩ = (s.1 + 1, 0, ((s.2.2.set 3 g).set 4 mo).set 5 pf) := by
  obtain ⟨h1, h2, h3⟩ := fw (z := 1) (.inl rfl) h (by simp [okB, top]; omega)
  rw [pt_fl1 l ho s _ h1, show rdN 1 1 (l.length - s.1) s.2.1 = 1 from h2, show rdE 1 1 (l.length - s.1) s.2.1 = 0 from h3, if_neg (by omega)]
  rw [show (g * 128 + mo * 8 + pf) / 128 = g by omega, show (g * 128 + mo * 8 + pf) / 8 % 8 = mo by omega, show (g * 128 + mo * 8 + pf) % 8 = pf by omega]
theorem f_fl2 {l A R : List Int} {s : Nat × Int × List Int} {a t : Int} (ho : Oct l) (ha : a = 0 ∨ a = 1) (ht : t = 0 ∨ t = 1) (h : At l A (bytesOf 1 [a * 128 + t * 64] ++ R) s) :
    ptStep l s ⟨1, [⟨7, 7, 1⟩, ⟨10, 6, 1⟩]⟩ = (s.1 + 1, 0, (s.2.2.set 7 a).set 10 t) := by
  obtain ⟨h1, h2, h3⟩ := fw (z := 1) (.inl rfl) h (by simp [okB, top]; omega)
  rw [pt_fl2 l ho s _ h1, show rdN 1 1 (l.length - s.1) s.2.1 = 1 from h2, show rdE 1 1 (l.length - s.1) s.2.1 = 0 from h3, if_pos (by omega)]
  rw [show (a * 128 + t * 64) / 128 = a by omega, show (a * 128 + t * 64) / 64 % 2 = t by omega]
theorem f_fl3 {l A R : List Int} {s : Nat × Int × List Int} {t : Int} (ho : Oct l) (ht : t = 0 ∨ t = 1) (h : At l A (bytesOf 1 [t * 128] ++ R) s) :
    ptStep l s ⟨1, [⟨10, 7, 1⟩]⟩ = (s.1 + 1, 0, s.2.2.set 10 t) := by
  obtain ⟨h1, h2, h3⟩ := fw (z := 1) (.inl rfl) h (by simp [okB, top]; omega)
  rw [pt_fl3 l ho s _ h1, show rdN 1 1 (l.length - s.1) s.2.1 = 1 from h2, show rdE 1 1 (l.length - s.1) s.2.1 = 0 from h3, if_pos (by omega)]
  rw [show (t * 128) / 128 = t by omega]
theorem bit01 (b : Bool) : bitI b = 0 ∨ bitI b = 1 := by cases b <;> simp [bitI]
theorem bit_eq (b : Bool) : (bitI b == 1) = b := by cases b <;> rfl
theorem ok1 {x : Int} (h : 0 ≤ x ∧ x ≤ 255) : okB ((1 : Nat) : Int) x = true := by simp [okB, top]; omega
theorem ok2 {x : Int} (h : 0 ≤ x ∧ x ≤ 65535) : okB ((2 : Nat) : Int) x = true := by simp [okB, top]; omega
/-- The head that is written is read again. -/
def Back (k : Nat) (p : Pm) : Prop := ∀ (l R : List Int), Oct l → l = hdV p.vs (cpa k) ++ R → ∃ v, rdP l (cpa k) = ((hdV p.vs (cpa k)).length, 0, v) ∧ (crt k || v.getD 10 0 == 1) = (thr p.ro == 1) ∧ ({ (vm v k).p with ro := p.ro, o := p.o } : Pm) = p
theorem back_0 (p : Pm) (hc : p.c = ((0 : Nat) : Int)) (hf : frmV 0 p.vs = true) (hw : witV 0 p.vs = true) : Back 0 p := by
  intro l R ho hl
  obtain ⟨c, i, v, r, mo, pf, d, sq, st, g, a, ro, o⟩ := p
  simp [frmV, crt, cpa, cpas, clrP, clrF, Pm.vs, zer11, bitI_0, thr_0, List.replicate] at hf
  have hh : hdV (Pm.vs ⟨c, i, v, r, mo, pf, d, sq, st, g, a, ro, o⟩) (cpa 0) = bytesOf 2 [0] := by simp [hdV, hdP, cpa, cpas, ctOr]
  rw [hh] at hl ⊢
  have A0 : At l [] (bytesOf 2 [0] ++ R) (0, 0, zer11) := ⟨hl, rfl, rfl⟩
  have e1 := f_none (z := 2) (.inr rfl) A0
  have e : rdP l (cpa 0) = ptStep l (0, 0, zer11) ⟨2, []⟩ := rfl
  refine ⟨zer11, by rw [e, e1]; rfl, ?_, ?_⟩
  · have : thr ro = 0 := by rw [thr_0]; simp_all
    rw [this]; rfl
  · simp at hc
    simp [vm, zer11, Mv.p, pos]
    simp_all
theorem back_1 (p : Pm) (hc : p.c = ((1 : Nat) : Int)) (hf : frmV 1 p.vs = true) (hw : witV 1 p.vs = true) : Back 1 p := by
  intro l R ho hl
  obtain ⟨c, i, v, r, mo, pf, d, sq, st, g, a, ro, o⟩ := p
  simp [frmV, crt, cpa, cpas, clrP, clrF, Pm.vs, zer11, bitI_0, thr_0, List.replicate] at hf
  simp [witV, inP, inF, crt, cpa, cpas, Pm.vs] at hw
  have hh : hdV (Pm.vs ⟨c, i, v, r, mo, pf, d, sq, st, g, a, ro, o⟩) (cpa 1) = bytesOf 1 [i] ++ (bytesOf 1 [v] ++ (bytesOf 2 [r] ++ (bytesOf 1 [bitI g * 128 + mo * 8 + pf] ++ (bytesOf 1 [d] ++ bytesOf 2 [0])))) := by simp [hdV, hdP, cpa, cpas, ctOr, Pm.vs]
  rw [hh] at hl
  have hlen : (hdV (Pm.vs ⟨c, i, v, r, mo, pf, d, sq, st, g, a, ro, o⟩) (cpa 1)).length = 8 := by rw [hh]; rfl
  rw [hlen]
  simp only [List.append_assoc] at hl
  have A0 : At l [] _ (0, 0, zer11) := ⟨hl, rfl, rfl⟩
  have e1 := f_full (j := 0) ho (.inl ⟨rfl, rfl⟩) A0 (ok1 (by omega))
  have A1 := A0.next (v := zer11.set 0 i) (.inl rfl)
  have e2 := f_full (j := 1) ho (.inl ⟨rfl, rfl⟩) A1 (ok1 (by omega))
  have A2 := A1.next (v := (zer11.set 0 i).set 1 v) (.inl rfl)
  have e3 := f_full (j := 2) ho (.inr ⟨rfl, rfl⟩) A2 (ok2 (by omega))
  have A3 := A2.next (v := ((zer11.set 0 i).set 1 v).set 2 r) (.inr rfl)
  have e4 := f_fl1 ho (bit01 g) (by omega) (by omega) A3
  have A4 := A3.next (v := (((((zer11.set 0 i).set 1 v).set 2 r).set 3 (bitI g)).set 4 mo).set 5 pf) (.inl rfl)
  have e5 := f_full (j := 6) ho (.inl ⟨rfl, rfl⟩) A4 (ok1 (by omega))
  have A5 := A4.next (v := ((((((zer11.set 0 i).set 1 v).set 2 r).set 3 (bitI g)).set 4 mo).set 5 pf).set 6 d) (.inl rfl)
  have e6 := f_none (z := 2) (.inr rfl) A5
  have e : rdP l (cpa 1) = ptStep l (ptStep l (ptStep l (ptStep l (ptStep l (ptStep l (0, 0, zer11) ⟨1, [⟨0, 0, 255⟩]⟩) ⟨1, [⟨1, 0, 255⟩]⟩) ⟨2, [⟨2, 0, 65535⟩]⟩) ⟨1, [⟨3, 7, 1⟩, ⟨4, 3, 7⟩, ⟨5, 0, 7⟩]⟩) ⟨1, [⟨6, 0, 255⟩]⟩) ⟨2, []⟩ := rfl
  refine ⟨_, by rw [e, e1, e2, e3, e4, e5, e6], ?_, ?_⟩
  · have : thr ro = 1 := by omega
    rw [this]; rfl
  · simp at hc
    simp [vm, zer11, Mv.p, pos, bit_eq]
    simp_all
theorem back_2 (p : Pm) (hc : p.c = ((2 : Nat) : Int)) (hf : frmV 2 p.vs = true) (hw : witV 2 p.vs = true) : Back 2 p := by
  intro l R ho hl
  obtain ⟨c, i, v, r, mo, pf, d, sq, st, g, a, ro, o⟩ := p
  simp [frmV, crt, cpa, cpas, clrP, clrF, Pm.vs, zer11, bitI_0, thr_0, List.replicate] at hf
  simp [witV, inP, inF, crt, cpa, cpas, Pm.vs] at hw
  have hh : hdV (Pm.vs ⟨c, i, v, r, mo, pf, d, sq, st, g, a, ro, o⟩) (cpa 2) = bytesOf 1 [i] ++ (bytesOf 1 [bitI a * 128 + thr ro * 64] ++ (bytesOf 1 [0] ++ bytesOf 1 [sq])) := by simp [hdV, hdP, cpa, cpas, ctOr, Pm.vs]
  rw [hh] at hl
  have hlen : (hdV (Pm.vs ⟨c, i, v, r, mo, pf, d, sq, st, g, a, ro, o⟩) (cpa 2)).length = 4 := by rw [hh]; rfl
  rw [hlen]
  simp only [List.append_assoc] at hl
  have A0 : At l [] _ (0, 0, zer11) := ⟨hl, rfl, rfl⟩
  have e1 := f_full (j := 0) ho (.inl ⟨rfl, rfl⟩) A0 (ok1 (by omega))
  have A1 := A0.next (v := zer11.set 0 i) (.inl rfl)
  have e2 := f_fl2 ho (bit01 a) (show thr ro = 0 ∨ thr ro = 1 from bit01 _) A1
  have A2 := A1.next (v := ((zer11.set 0 i).set 7 (bitI a)).set 10 (thr ro)) (.inl rfl)
  have e3 := f_none (z := 1) (.inl rfl) A2
  have A3 := A2.next (v := ((zer11.set 0 i).set 7 (bitI a)).set 10 (thr ro)) (.inl rfl)
  have e4 := f_full (j := 8) ho (.inl ⟨rfl, rfl⟩) A3 (ok1 (by omega))
  have e : rdP l (cpa 2) = ptStep l (ptStep l (ptStep l (ptStep l (0, 0, zer11) ⟨1, [⟨0, 0, 255⟩]⟩) ⟨1, [⟨7, 7, 1⟩, ⟨10, 6, 1⟩]⟩) ⟨1, []⟩) ⟨1, [⟨8, 0, 255⟩]⟩ := rfl
  refine ⟨_, by rw [e, e1, e2, e3, e4], ?_, ?_⟩
  · simp [crt, zer11]
  · simp at hc
    simp [vm, zer11, Mv.p, pos, bit_eq]
    simp_all
theorem back_3 (p : Pm) (hc : p.c = ((3 : Nat) : Int)) (hf : frmV 3 p.vs = true) (hw : witV 3 p.vs = true) : Back 3 p := by
  intro l R ho hl
  obtain ⟨c, i, v, r, mo, pf, d, sq, st, g, a, ro, o⟩ := p
  simp [frmV, crt, cpa, cpas, clrP, clrF, Pm.vs, zer11, bitI_0, thr_0, List.replicate] at hf
  simp [witV, inP, inF, crt, cpa, cpas, Pm.vs] at hw
  have hh : hdV (Pm.vs ⟨c, i, v, r, mo, pf, d, sq, st, g, a, ro, o⟩) (cpa 3) = bytesOf 1 [i] ++ (bytesOf 1 [thr ro * 128] ++ (bytesOf 1 [sq] ++ bytesOf 1 [st])) := by simp [hdV, hdP, cpa, cpas, ctOr, Pm.vs]
  rw [hh] at hl
  have hlen : (hdV (Pm.vs ⟨c, i, v, r, mo, pf, d, sq, st, g, a, ro, o⟩) (cpa 3)).length = 4 := by rw [hh]; rfl
  rw [hlen]
  simp only [List.append_assoc] at hl
  have A0 : At l [] _ (0, 0, zer11) := ⟨hl, rfl, rfl⟩
  have e1 := f_full (j := 0) ho (.inl ⟨rfl, rfl⟩) A0 (ok1 (by omega))
  have A1 := A0.next (v := zer11.set 0 i) (.inl rfl)
  have e2 := f_fl3 ho (show thr ro = 0 ∨ thr ro = 1 from bit01 _) A1
  have A2 := A1.next (v := (zer11.set 0 i).set 10 (thr ro)) (.inl rfl)
  have e3 := f_full (j := 8) ho (.inl ⟨rfl, rfl⟩) A2 (ok1 (by omega))
  have A3 := A2.next (v := ((zer11.set 0 i).set 10 (thr ro)).set 8 sq) (.inl rfl)
  have e4 := f_full (j := 9) ho (.inl ⟨rfl, rfl⟩) A3 (ok1 (by omega))
  have e : rdP l (cpa 3) = ptStep l (ptStep l (ptStep l (ptStep l (0, 0, zer11) ⟨1, [⟨0, 0, 255⟩]⟩) ⟨1, [⟨10, 7, 1⟩]⟩) ⟨1, [⟨8, 0, 255⟩]⟩) ⟨1, [⟨9, 0, 255⟩]⟩ := rfl
  refine ⟨_, by rw [e, e1, e2, e3, e4], ?_, ?_⟩
  · simp [crt, zer11]
  · simp at hc
    simp [vm, zer11, Mv.p, pos, bit_eq]
    simp_all
theorem back_all (k : Nat) (hk : k < 4) (p : Pm) (hc : p.c = (k : Int)) (hf : frmV k p.vs = true) (hw : witV k p.vs = true) : Back k p := by
  have hk' : k = 0 ∨ k = 1 ∨ k = 2 ∨ k = 3 := by omega
  rcases hk' with rfl | rfl | rfl | rfl
  · exact back_0 p hc hf hw
  · exact back_1 p hc hf hw
  · exact back_2 p hc hf hw
  · exact back_3 p hc hf hw
theorem chkM_0 {m : Pm} (h : chkM m = 0) : codB m.c = true ∧ frmV m.c.toNat m.vs = true ∧ witV m.c.toNat m.vs = true ∧ allM m.c m.o = true ∧ encE m.o = 0 := by
  unfold chkM chk0M at h
  by_cases h1 : codB m.c = true
  · by_cases h2 : frmV m.c.toNat m.vs = true
    · by_cases h3 : witV m.c.toNat m.vs = true
      · by_cases h4 : allM m.c m.o = true
        · simp [h1, h2, h3, h4] at h; exact ⟨h1, h2, h3, h4, h⟩
        · simp [h1, h2, h3, h4] at h
      · simp [h1, h2, h3] at h
    · simp [h1, h2] at h
  · simp [h1] at h
theorem eE_0 {m : Pm} (h : eE m = 0) : chkM m = 0 ∧ eL m = hdM m ++ encsL m.o := by
  refine ⟨?_, by rw [eL, if_pos h]⟩
  rw [eE] at h
  split at h
  · assumption
  · rename_i hn; exact Classical.byContradiction fun hh => hn hh
/-- What Encode answers without fault, Decode gives back. -/
theorem back_trip (m : Pm) (h : eE m = 0) (hro : m.ro.length = 16) (ho : Oct (eL m)) (had : ∀ o ∈ m.o, o.ad.length = 16) : dE m.c (eL m) = 0 ∧ dM m.c (eL m) = m := by
  obtain ⟨h1, h2⟩ := eE_0 h
  obtain ⟨c1, c2, c3, c4, c5⟩ := chkM_0 h1
  obtain ⟨k, hk, hk4⟩ := cod_nat c1
  rw [hk, Int.toNat_natCast] at c2 c3
  rw [hk] at c4
  have hdm : hdM m = hdV m.vs (cpa k) ++ (if thr m.ro = 1 then m.ro else []) := by rw [hdM, hk, Int.toNat_natCast]; rfl
  have hl : eL m = hdV m.vs (cpa k) ++ ((if thr m.ro = 1 then m.ro else []) ++ encsL m.o) := by rw [h2, hdm, List.append_assoc]
  obtain ⟨v, g1, g2, g3⟩ := back_all k hk4 m hk c2 c3 (eL m) _ ho hl
  have hdec := dec_of c5 had
  generalize eL m = l at *
  generalize hdV m.vs (cpa k) = H at *
  have hT : rdT k l = (H.length + (if thr m.ro = 1 then m.ro else []).length, 0, if thr m.ro = 1 then m.ro else zeros) := by
    have hB : rdB k (rdP l (cpa k)) = (thr m.ro == 1) := by rw [rdB, g1]; exact g2
    rw [rdT, hB, g1]
    by_cases ht : thr m.ro = 1
    · rw [if_pos ht] at hl
      rw [if_pos (by rw [ht]; rfl), if_pos ht, if_pos ht]
      have hlen : l.length = H.length + (16 + (encsL m.o).length) := by rw [hl]; simp [hro]
      have hE : rdE 1 16 (l.length - H.length) 0 = 0 := by
        rw [rdE, if_pos rfl, if_neg (by simp [sizeB]), if_neg (by omega)]
      have hR : adR l H.length 0 = m.ro := by
        rw [adR, if_pos hE, hl, List.drop_left, List.take_left' hro]
      have hz : m.ro ≠ zeros := by rw [← thr_1]; exact ht
      have hA : adE l H.length 0 = 0 := by rw [adE, hR, if_neg hz, hE]
      have hAA : adA l H.length 0 = H.length + 16 := by rw [adA, rdN, if_pos hE]; rfl
      rw [hA, hAA, hR, hro]
    · rw [if_neg (by simpa using ht), if_neg ht, if_neg ht]; rfl
  have hd : l.drop (H.length + (if thr m.ro = 1 then m.ro else []).length) = encsL m.o := by
    rw [hl, ← List.append_assoc, ← List.length_append, List.drop_left]
  have hro2 : (if thr m.ro = 1 then m.ro else zeros) = m.ro := by
    by_cases ht : thr m.ro = 1
    · rw [if_pos ht]
    · rw [if_neg ht]
      have : ¬ m.ro ≠ zeros := by rw [← thr_1]; exact ht
      exact (Classical.not_not.1 this).symm
  have hE : ctE k l = 0 := by
    rw [ctE, hT]
    simp only [opE, opP, rst, if_true, hd, hdec, spE, c4]
  have hM : dcM k l = m := by
    have hP : dcP k l = m.o := by rw [dcP, hT]; simp only [opP, rst, if_true, hd, hdec]
    rw [dcM, hP, hT, g1]
    simp only [hro2]
    exact g3
  constructor
  · rw [dE, if_pos c1, hk, Int.toNat_natCast]; exact hE
  · rw [dM, if_pos c1, hk, Int.toNat_natCast, if_pos hE]; exact hM
end Go.Proofs.YtbklpelikaapoaaGreatDoor

namespace Go.Proofs.YtbklpelikaapoaaGreatDoor
open Go.ChangeShapes Go.WideShapes Go.ChangeAt Go.RowKit Go.Deep
set_option linter.unusedVariables false
set_option linter.unusedSimpArgs false

/-- Are two options the same? -/
def Po.eqB (p q : Po) : Bool := p.k == q.k && (p.ad == q.ad && (p.n == q.n && p.t == q.t))
theorem Po.eqB_self (p : Po) : p.eqB p = true := by simp [Po.eqB]
end Go.Proofs.YtbklpelikaapoaaGreatDoor

namespace Go.Proofs.YtbklpelikaapoaaGreatDoor
open Go.ChangeShapes Go.WideShapes Go.ChangeAt Go.RowKit Go.Deep
set_option linter.unusedVariables false
set_option linter.unusedSimpArgs false

/-- Are the first ones the same? -/
def allTo (L M : List Po) (j : Nat) : Bool := (List.range j).all fun i => (L.getD i Po.none).eqB (M.getD i Po.none)
def allB (L M : List Po) : Bool := (L.length == M.length) && allTo L M L.length
theorem allB_self (L : List Po) : allB L L = true := by
  simp [allB, allTo, Po.eqB_self]
end Go.Proofs.YtbklpelikaapoaaGreatDoor

namespace Go.Proofs.YtbklpelikaapoaaGreatDoor
open Go.ChangeShapes Go.WideShapes Go.ChangeAt Go.RowKit Go.Deep
set_option linter.unusedVariables false
set_option linter.unusedSimpArgs false

/-- The same message? -/
def sameM (a b : Pm) : Bool := (a.c == b.c) && ((a.ro == b.ro) && ((a.vs == b.vs) && allB a.o b.o))
end Go.Proofs.YtbklpelikaapoaaGreatDoor

namespace Go.Proofs.YtbklpelikaapoaaGreatDoor
open Go.ChangeShapes Go.WideShapes Go.ChangeAt Go.RowKit Go.Deep
set_option linter.unusedVariables false
set_option linter.unusedSimpArgs false

/-- A packet. -/
structure Pp where
  h : Hd
  d : Bool
  m : Pm
  o : Ho
  n : Int
  t : List Int
def Pv.p (v : Pv) : Pp := ⟨v.h, v.d, v.m.p, v.o, v.n, v.t.l⟩
def Pp.zero : Pp := ⟨Hd.zero, false, Pm.zero, Ho.zero, 0, []⟩
/-- What is behind the header. -/
def datL (p : Pp) : List Int := optL 17 p.o ++ (digs 4 p.n ++ p.t)
def ctlL (p : Pp) : List Int := [155, p.m.c, 0, 0] ++ eL p.m
def datE (p : Pp) : Int := if okO p.o = true then (if okB 4 p.n = true then withE (p.h.setNx 0) (datL p) else 1) else 1
def ctlE (p : Pp) : Int := if eE p.m = 0 then withE (p.h.setNx 58) (ctlL p) else eE p.m
/-- What is wrong with a packet; its bytes. -/
def pgE (p : Pp) : Int := if p.d = true then datE p else ctlE p
def ctlR (p : Pp) : List Int := setL p.h.f p.h.t 58 (ctlL p) 2
def datB (p : Pp) : List Int := hdrL ((p.h.setNx 0).setLn (datL p).length) ++ datL p
def ctlB (p : Pp) : List Int := hdrL ((p.h.setNx 58).setLn (ctlL p).length) ++ ctlR p
/-- The bytes of a data packet, of a control packet, where it has some. -/
def datO (p : Pp) : List Int := if datE p = 0 then datB p else []
def ctlO (p : Pp) : List Int := if ctlE p = 0 then ctlB p else []
def pgL (p : Pp) : List Int := if pgE p = 0 then (if p.d = true then datB p else ctlB p) else []
/-- Bytes behind a header, of a control message and of data: what is wrong, and the packet. -/
def rcE (h : Hd) (l : List Int) : Int := if l.length < 4 then 4 else if chkB h.f h.t 58 l = true then (if l.getD 0 0 = 155 then dE (l.getD 1 0) (l.drop 4) else 6) else 5
def rdtE (l : List Int) : Int := if dcE l = 0 then (if dcN l = 17 then (if (dcR l).length < 4 then 4 else 0) else 6) else dcE l
def rhE (h : Hd) (l : List Int) : Int := if h.nx = 58 then rcE h l else if h.nx = 0 then rdtE l else 6
def rhP (h : Hd) (l : List Int) : Pp := if rhE h l = 0 then (if h.nx = 58 then ⟨h, false, dM (l.getD 1 0) (l.drop 4), Ho.zero, 0, []⟩ else ⟨h, true, Pm.zero, dcO l, numOf ((dcR l).take 4), (dcR l).drop 4⟩) else Pp.zero
/-- What is wrong with bytes; their packet. -/
def dgE (l : List Int) : Int := if decE l = 0 then rhE (decV l) (decR l) else decE l
def dgP (l : List Int) : Pp := if decE l = 0 then rhP (decV l) (decR l) else Pp.zero
/-! The same? -/
def Hd.ch (h : Hd) : Hd := (h.setLn 0).setNx 0
def Hd.eqB (a b : Hd) : Bool := a.c == b.c && (a.fl == b.fl && (a.ln == b.ln && (a.nx == b.nx && (a.hp == b.hp && (a.f == b.f && a.t == b.t)))))
theorem Hd.eqB_iff (a b : Hd) : a.eqB b = true ↔ a = b := by
  obtain ⟨c, fl, ln, nx, hp, f, t⟩ := a
  obtain ⟨c', fl', ln', nx', hp', f', t'⟩ := b
  simp [Hd.eqB]
theorem Ho.eqB_iff (a b : Ho) : a.eqB b = true ↔ a = b := by
  obtain ⟨d, w, f, i, r⟩ := a
  obtain ⟨d', w', f', i', r'⟩ := b
  simp [Ho.eqB]
def sameP (a b : Pp) : Bool := (a.d == b.d && a.h.ch.eqB b.h.ch) && (if a.d = true then a.o.eqB b.o && (a.n == b.n && a.t == b.t) else sameM a.m b.m)
theorem sameM_self (a : Pm) : sameM a a = true := by simp [sameM, allB_self]
/-- All that a packet has is the same, but for the header's length and next header. -/
theorem sameP_of {a b : Pp} (hd : a.d = b.d) (hh : a.h.ch = b.h.ch) (h1 : a.d = true → a.o = b.o ∧ a.n = b.n ∧ a.t = b.t) (h2 : a.d = false → a.m = b.m) : sameP a b = true := by
  unfold sameP
  rw [← hd, ← hh, (Hd.eqB_iff a.h.ch a.h.ch).2 rfl]
  cases hc : a.d
  · rw [← h2 hc, sameM_self]; simp
  · obtain ⟨e1, e2, e3⟩ := h1 hc
    rw [← e1, ← e2, ← e3, Ho.eqB_self]; simp
theorem withE_0 {h : Hd} {B : List Int} (e : withE h B = 0) : okH (h.setLn 0) = true ∧ B.length ≤ 1240 := by
  unfold withE at e
  split at e
  · split at e
    · omega
    · exact ⟨‹_›, by omega⟩
  · omega
theorem datL_len (p : Pp) : (datL p).length = 12 + p.t.length := by
  rw [datL, List.length_append, List.length_append, optL_len, digs_length 4 _ (by decide)]; show 8 + (4 + _) = _; omega
theorem ctlL_len (p : Pp) : (ctlL p).length = 4 + (eL p.m).length := by rw [ctlL, List.length_append]; rfl
theorem ctlR_len (p : Pp) : (ctlR p).length = (ctlL p).length := setL_len _ _ _ _ _
theorem eE_cod {m : Pm} (h : eE m = 0) : codB m.c = true := (chkM_0 (eE_0 h).1).1
theorem cod_byte {c : Int} (h : codB c = true) : 0 ≤ c ∧ c < 256 := by
  have : 0 ≤ c ∧ c < 4 := by simpa [codB] using h
  omega
theorem ctlL_oct {p : Pp} (h : eE p.m = 0) (ho : Oct (eL p.m)) : Oct (ctlL p) := by
  refine Oct.app ?_ ho
  have := cod_byte (eE_cod h)
  intro x hx
  simp at hx
  omega
theorem psE_58 {n : Nat} (h : n ≤ 1280) : psE 58 n = 0 := by
  unfold psE
  rw [if_pos (by omega), if_neg (by omega)]
/-! There and back. -/
/-- An encoded packet is decoded as it was. -/
theorem pg_dg (p : Pp) (hh : p.h.ok) (ho : Oct (eL p.m)) (hro : p.m.ro.length = 16) (had : ∀ o ∈ p.m.o, o.ad.length = 16) (ht : Oct p.t) (h : pgE p = 0) : dgE (pgL p) = 0 ∧ sameP (dgP (pgL p)) p = true ∧ Oct (pgL p) ∧ (pgL p).length ≤ 1280 := by
  rw [pgL, if_pos h]
  unfold pgE at h
  cases hd : p.d
  · rw [hd] at h
    simp only [Bool.false_eq_true, if_false] at h ⊢
    have he : eE p.m = 0 := by
      unfold ctlE at h
      split at h
      · assumption
      · contradiction
    rw [ctlE, if_pos he] at h
    obtain ⟨h1, h2⟩ := withE_0 h
    have hO := ctlL_oct he ho
    have hRl := ctlR_len p
    have hRo : Oct (ctlR p) := setL_oct _ _ _ _ _ hO
    have hlen := ctlL_len p
    have k1 : ((p.h.setNx 58).setLn ((ctlL p).length : Nat)).ok := hh
    have hy : okH ((p.h.setNx 58).setLn ((ctlL p).length : Nat)) = true := okH_ln h1 (by omega) (by omega)
    obtain ⟨d1, d2, d3⟩ := dec_with k1 hy (ctlR p) hRo (by show ((ctlL p).length : Int) = ((ctlR p).length : Nat); rw [hRl]) (by omega)
    have hck : chkB p.h.f p.h.t 58 (ctlR p) = true := setL_right _ _ _ _ _ hh.1 hh.2 hO (psE_58 (by omega)) (by decide) (by omega)
    have ht2 : (ctlR p).take 2 = [155, p.m.c] := by rw [ctlR, setL_take _ _ _ _ _ (by omega)]; rfl
    have hd4 : (ctlR p).drop 4 = eL p.m := by rw [ctlR, setL_drop _ _ _ _ 2 (by omega)]; rfl
    have g0 : (ctlR p).getD 0 0 = 155 := by
      have := congrArg (fun l => l.getD 0 0) ht2
      simpa [List.getD_eq_getElem?_getD, List.getElem?_take] using this
    have g1 : (ctlR p).getD 1 0 = p.m.c := by
      have := congrArg (fun l => l.getD 1 0) ht2
      simpa [List.getD_eq_getElem?_getD, List.getElem?_take] using this
    obtain ⟨b1, b2⟩ := back_trip p.m he hro ho had
    have hnx : ((p.h.setNx 58).setLn ((ctlL p).length : Nat)).nx = 58 := rfl
    have hR : rhE ((p.h.setNx 58).setLn ((ctlL p).length : Nat)) (ctlR p) = 0 := by
      rw [rhE, if_pos hnx, rcE, if_neg (by omega)]
      show (if chkB p.h.f p.h.t 58 (ctlR p) = true then _ else _) = _
      rw [if_pos hck, if_pos g0, g1, hd4, b1]
    have hE : dgE (ctlB p) = 0 := by rw [ctlB, dgE, if_pos d1, d2, d3, hR]
    refine ⟨hE, ?_, (hdrL_oct k1).app hRo, ?_⟩
    · rw [ctlB, dgP, if_pos d1, d2, d3, rhP, if_pos hR, if_pos hnx, g1, hd4, b2]
      exact sameP_of hd.symm rfl (fun e => by cases e) (fun _ => rfl)
    · rw [ctlB, List.length_append, hdrL_len k1]; omega
  · rw [hd] at h
    simp only [if_true] at h ⊢
    unfold datE at h
    split at h
    · rename_i ho1
      split at h
      · rename_i hn1
        obtain ⟨h1, h2⟩ := withE_0 h
        have hDo : Oct (datL p) := (optL_oct _ _).app ((digs_oct _ _).app ht)
        have hlen := datL_len p
        have k1 : ((p.h.setNx 0).setLn ((datL p).length : Nat)).ok := hh
        have hy : okH ((p.h.setNx 0).setLn ((datL p).length : Nat)) = true := okH_ln h1 (by omega) (by omega)
        obtain ⟨d1, d2, d3⟩ := dec_with k1 hy (datL p) hDo rfl (by omega)
        obtain ⟨b1, b2, b3, b4⟩ := bits_back p.o
        have hol := optL_list (next := 17) (h := p.o) (by decide) ho1
        obtain ⟨⟨i0, i1⟩, ⟨r0, r1⟩⟩ := okO_yes ho1
        have hL : datL p = [17, 0, 99, 4, bitsV p.o, p.o.i, p.o.r / 256, p.o.r % 256] ++ (digs 4 p.n ++ p.t) := by rw [datL, hol]
        have c1 : dcE (datL p) = 0 := by
          rw [dcE, if_neg (by omega), hL]
          show (if ((0 : Int) = 0 ∧ (99 : Int) = 99 ∧ (4 : Int) = 4) then (if bitsV p.o % 32 = 0 then (0 : Int) else 3) else 6) = 0
          rw [if_pos ⟨rfl, rfl, rfl⟩, if_pos b4]
        have c2 : dcN (datL p) = 17 := by rw [dcN, if_pos c1, hL]; rfl
        have c3 : dcO (datL p) = p.o := by
          rw [dcO, if_pos c1, hL]
          show (⟨bitsV p.o / 128 == 1, bitsV p.o / 64 % 2 == 1, bitsV p.o / 32 % 2 == 1, p.o.i, 256 * (p.o.r / 256) + p.o.r % 256⟩ : Ho) = p.o
          rw [b1, b2, b3, show 256 * (p.o.r / 256) + p.o.r % 256 = p.o.r by omega]
        have c4 : dcR (datL p) = digs 4 p.n ++ p.t := by rw [dcR, if_pos c1, hL]; rfl
        have hnx : ((p.h.setNx 0).setLn ((datL p).length : Nat)).nx = 0 := rfl
        have hnn : ¬ ((p.h.setNx 0).setLn ((datL p).length : Nat)).nx = 58 := by rw [hnx]; decide
        have dl : (digs 4 p.n).length = 4 := digs_length 4 _ (by decide)
        have hR : rhE ((p.h.setNx 0).setLn ((datL p).length : Nat)) (datL p) = 0 := by
          rw [rhE, if_neg hnn, if_pos hnx, rdtE, if_pos c1, if_pos c2, c4, if_neg (by rw [List.length_append]; omega)]
        have hE : dgE (datB p) = 0 := by rw [datB, dgE, if_pos d1, d2, d3, hR]
        refine ⟨hE, ?_, (hdrL_oct k1).app hDo, ?_⟩
        · rw [datB, dgP, if_pos d1, d2, d3, rhP, if_pos hR, if_neg hnn, c3, c4]
          refine sameP_of hd.symm rfl (fun _ => ⟨rfl, ?_, ?_⟩) (fun e => by cases e)
          · show numOf ((digs 4 p.n ++ p.t).take 4) = p.n
            rw [List.take_left' dl]
            have hb : 0 ≤ p.n ∧ p.n < 4294967296 := by simpa [okB, top] using hn1
            simp [digs, numOf]; omega
          · show (digs 4 p.n ++ p.t).drop 4 = p.t
            exact List.drop_left' dl
        · rw [datB, List.length_append, hdrL_len k1]; omega
      · omega
    · omega
end Go.Proofs.YtbklpelikaapoaaGreatDoor

namespace Go.Proofs.YtbklpelikaapoaaGreatDoor
open Go.ChangeShapes Go.WideShapes Go.ChangeAt Go.RowKit Go.Deep
set_option linter.unusedVariables false
set_option linter.unusedSimpArgs false

theorem texts_lit (w : World) (L : List Txt) (h : ∀ t ∈ L, t.ok w) (hn : L.length ≤ 1000) : Texts (w.alloc (.cells (L.map Txt.v).toArray 30)) (some ⟨w.heap.size, 0, none⟩) L.length L.length L := by
  refine ⟨rfl, Nat.le_refl _, by unfold maxLen; omega, fun k hk => ⟨w.heap.size, 0, rfl, ?_⟩, fun t ht => (h t ht).below (balloc (Below.refl _ _) _)⟩
  have := World.news_of_block (heap_alloc_new w (.cells (L.map Txt.v).toArray 30)) k (L.getD k Txt.none).v (by simp [hk])
  rwa [Addr.add_lit] at this
theorem own_pre {w : World} {b : Nat} {e : TypeId} {g N cap : Nat} {xs : List Value} (h : w.ownsRow b e 1 (.slice (some ⟨g, 0, none⟩) N cap) N xs) (k : Nat) (hk : k ≤ N) : w.ownsRow b e 1 (.slice (some ⟨g, 0, none⟩) k cap) k (xs.take k) := by
  obtain ⟨h1, h2 | ⟨g', cap', cur, he, hb, hg, hnc, hcm, hcs, hx⟩⟩ := h
  · cases h2.1
  · cases he
    refine ⟨by rw [List.length_take, h1]; omega, .inr ⟨g, cap, cur, rfl, hb, hg, by omega, hcm, hcs, ?_⟩⟩
    rw [← hx, List.take_take]
    congr 1; omega
theorem encOE_17 (o : Ho) : encOE 17 o = if okO o = true then 0 else 1 := by simp [encOE, encB, byB]
theorem encOL_17 {o : Ho} (h : okO o = true) : encOL 17 o = optL 17 o := by simp [encOL, encB, byB, h]
theorem putE_4 (l : List Int) (n : Int) (hl : l.length = 8) : putE 4 l.length [n] = if okB 4 n = true then 0 else 1 := by
  rw [hl]; unfold putE fitsB
  cases h : okB 4 n <;> simp [sizeB, h]
theorem putL_4 {l : List Int} {n : Int} (hl : l.length = 8) (h : okB 4 n = true) : putL 4 l [n] = l ++ digs 4 n := by
  rw [putL, putE_4 l n hl, if_pos h, if_pos rfl]; simp [bytesOf]
theorem put_code {c : Int} (h : codB c = true) : putE 1 ([] : List Int).length [155, c] = 0 ∧ putL 1 [] [155, c] = [155, c] := by
  have hc := cod_byte h
  have e : putE 1 ([] : List Int).length [155, c] = 0 := by
    unfold putE fitsB
    have : okB 1 c = true := by simp [okB, top]; omega
    simp [sizeB, okB, top, hc]
  refine ⟨e, ?_⟩
  rw [putL, if_pos e]
  simp [bytesOf, digs]; omega
theorem datO_bad {p : Pp} (h : datE p ≠ 0) : datO p = [] := by rw [datO, if_neg h]
theorem datE_1 {p : Pp} (h : okO p.o = false) : datE p = 1 := by rw [datE, h]; rfl
theorem datE_2 {p : Pp} (h : okO p.o = true) (h2 : okB 4 p.n = false) : datE p = 1 := by rw [datE, h, h2]; rfl
theorem datE_3 {p : Pp} (h : okO p.o = true) (h2 : okB 4 p.n = true) : datE p = withE (p.h.setNx 0) (datL p) := by rw [datE, if_pos h, if_pos h2]
set_option maxRecDepth 100000 in
set_option maxHeartbeats 3200000 in
theorem dataBytes_any (p : Pv) (w : World) (h : p.ok w) :
    Calls Tryz.prog 25 #[.agg p.cs] w fun e w' => (∃ v, e = .returned (.tuple #[v, .int .i64 (datE p.p)]) ∧ Hid (w'.ownsRow w.heap.size 5 1 v (datO p.p).length (u8s (datO p.p)))) ∧ Below w.heap.size w w' := by
  have HF := hid h.fit
  have R0 := hid (Row.new w 41 p.cs)
  have B0 := hid (balloc (Below.refl w.heap.size w) (.cells p.cs 41))
  have U0 := hid h.t
  have c72 := Pv.rT HF.out R0.out
  have c71 := Pv.rN HF.out R0.out
  have HD1 : Hid (okO p.o = false → datE p.p = 1) := hid (fun e => datE_1 e)
  have HD2 : Hid (okO p.o = true → okB 4 p.n = false → datE p.p = 1) := hid (fun e e2 => datE_2 e e2)
  have HD3 : Hid (okO p.o = true → okB 4 p.n = true → datE p.p = withE (p.h.setNx 0) (datL p.p)) := hid (fun e e2 => datE_3 e e2)
  clear h
  go_enter Tryz.func25, Tryz.ntmps25
  go_upto_region 1 with fail
  generalize hw1 : w.alloc (.cells p.cs 41) = w1 at *
  have hg1 : w1.heap.size = w.heap.size + 1 := by rw [← hw1]; simp
  have HG1 := hid hg1
  clear hw1 hg1
  go_wp2_with (refine ldOq oh _ rfl rfl w.heap.size 66 rfl p.o (Pv.rO HF.out R0.out) ?_)
  refine (hopEncode_any 17 p.o _).mono ?_
  rintro e w2 ⟨v, rfl, hown, hb⟩
  have c72' : w2.cell? ⟨w.heap.size, 72, none⟩ = some p.t.v := by rw [hb.cell (p := ⟨w.heap.size, 72, none⟩) R0.out.lt]; exact c72
  have c71' : w2.cell? ⟨w.heap.size, 71, none⟩ = some (.int .i64 p.n) := by rw [hb.cell (p := ⟨w.heap.size, 71, none⟩) R0.out.lt]; exact c71
  have R2 := hid (R0.out.below hb)
  have B2 := hid (bthen B0.out hb)
  rw [encOE_17]
  clear hb R0 B0 c71 c72
  cases ho : okO p.o
  · have HE := hid (HD1.out ho)
    rw [if_neg (by simp)]
    clear hown HD1 HD2 HD3
    go_wp2_with fail
    go_ret2
    exact ⟨⟨.slice none 0 0, by rw [HE.out]; rfl, by rw [datO_bad (by rw [HE.out]; decide)]; exact World.ownsRow_nil _ _ _ _⟩, B2.out⟩
  · have HO := hid ho
    rw [if_pos rfl]
    rw [encOL_17 ho] at hown
    obtain ⟨a, c, rfl, hl, _⟩ := owns_lies hown
    have L2 := hid hl
    clear hown hl HD1
    have hl8 := optL_len 17 p.o
    rw [hl8] at L2 ⊢
    have HL8 := hid hl8
    have L3 := hid (lies_new .i64 w2 #[.int .i64 p.n] 3 [p.n] rfl (by simp))
    have b3 := balloc (Below.refl w2.heap.size w2) (.cells #[.int .i64 p.n] 3)
    have R3 := hid (R2.out.below b3)
    have B3 := hid (bthen B2.out b3)
    have L2' := hid (L2.out.below b3)
    clear hl8 b3 R2 B2 L2 ho
    go_wp2_with fail
    generalize w2.alloc (.cells #[.int .i64 p.n] 3) = w3 at *
    refine (put_any _ _ 8 _ 1 _ 4 _ [p.n] _ L2'.out L3.out (by omega) (by omega)).mono ?_
    rintro e w4 ⟨v4, rfl, hown, hb⟩
    have R4 := hid (R3.out.below hb)
    have B4 := hid (bthen B3.out hb)
    rw [putE_4 _ _ HL8.out]
    clear hb R3 B3 L2' L3
    cases hn : okB 4 p.n
    · have HE := hid (HD2.out HO.out hn)
      rw [if_neg (by simp)]
      clear hown HD2 HD3
      go_wp2_with fail
      go_ret2
      exact ⟨⟨.slice none 0 0, by rw [HE.out]; rfl, by rw [datO_bad (by rw [HE.out]; decide)]; exact World.ownsRow_nil _ _ _ _⟩, B4.out⟩
    · rw [if_pos rfl]
      rw [putL_4 HL8.out hn] at hown
      have HE := hid (HD3.out HO.out hn)
      obtain ⟨a4, k4, rfl, _, _⟩ := owns_lies hown
      have O4 := hid hown
      have HXo : Hid (Oct (optL 17 p.o ++ digs 4 p.n)) := hid ((optL_oct _ _).app (digs_oct _ _))
      clear hown HD2 HD3
      generalize hX : optL 17 p.o ++ digs 4 p.n = X at *
      have HX := hid hX
      generalize hxn : X.length = xn at *
      have HXN := hid hxn
      clear hX hn hxn
      have c3 : w4.cell? ⟨w.heap.size, 3, none⟩ = some (.int .i64 p.h.nx) := by rw [R4.out.cell]; have := (Pv.rH HF.out R4.out).at 3 _ p.h.at3; rwa [R4.out.cell] at this
      have f3 := R4.out.frozen 3
      have R5 : Hid (Row (w4.setCell ⟨w.heap.size, 3, none⟩ (.int .i64 0)) w.heap.size 41 (p.setNx 0).cs) := by rw [Hid, ← Pv.put3 HF.out]; exact R4.out.set 3 _
      have B5 := hid (Below.setCell B4.out (p := ⟨w.heap.size, 3, none⟩) (Nat.le_refl _) (.int .i64 0))
      have T5 : Hid (Txt.ok (w4.setCell ⟨w.heap.size, 3, none⟩ (.int .i64 0)) ⟨a4, xn, k4, X⟩) := by
        have o5 := O4.out.kept (grownBy_setCell w4 w.heap.size 3 (.int .i64 0)) (.inr (own_row O4.out R4.out (by decide)))
        rw [← HXN.out] at o5 ⊢
        obtain ⟨a9, k9, e9, h9, _⟩ := owns_lies o5
        cases e9
        exact hid ⟨h9, HXo.out⟩
      have U5 : Hid (p.t.ok (w4.setCell ⟨w.heap.size, 3, none⟩ (.int .i64 0))) := hid (U0.out.below B5.out)
      clear O4 HXo HXN
      go_upto_region 8 with fail
      generalize w4.setCell ⟨w.heap.size, 3, none⟩ (.int .i64 0) = w5 at *
      clear c3 f3 R4 B4 c71' c72'
      have c72 : w5.cell? ⟨w.heap.size, 72, none⟩ = some (.slice p.t.a p.t.n p.t.cap) := Pv.rT HF.out (p := p.setNx 0) R5.out
      have HT := hid (texts_lit w5 [⟨a4, xn, k4, X⟩, p.t] (by intro t ht; simp at ht; rcases ht with rfl | rfl; exact T5.out; exact U5.out) (by simp))
      have B6 := hid (balloc B5.out (.cells #[Txt.v ⟨a4, xn, k4, X⟩, p.t.v] 30))
      go_wp2_with (refine ldHoH _ rfl rfl w.heap.size 0 rfl (p.h.setNx 0) (Hd.setNx_ok HF.out.1 0) (Pv.rH HF.out (p := p.setNx 0) R5.out) ?_)
      refine (hdrWith_any (p.h.setNx 0) (Hd.setNx_ok HF.out.1 0) _ 2 2 [⟨a4, xn, k4, X⟩, p.t] _ HT.out).mono ?_
      rintro e w7 ⟨v7, rfl, hown, hb⟩
      have hbb : bytes [⟨a4, xn, k4, X⟩, p.t] = datL p.p := by
        simp only [bytes, List.flatMap_cons, List.flatMap_nil, List.append_nil]
        rw [← HX.out, List.append_assoc]; rfl
      rw [hbb] at hown ⊢
      rw [← HE.out]
      have hL : withL (p.h.setNx 0) (datL p.p) = datO p.p := by rw [withL, ← HE.out]; rfl
      rw [hL] at hown
      have O7 := hid hown
      have B7 := hid (bthen B6.out hb)
      clear hown hb hbb hL
      go_wp2_with fail
      go_ret2
      exact ⟨⟨_, rfl, hid (own_mono O7.out B6.out.size)⟩, B7.out⟩
end Go.Proofs.YtbklpelikaapoaaGreatDoor

namespace Go.Proofs.YtbklpelikaapoaaGreatDoor
open Go.ChangeShapes Go.WideShapes Go.ChangeAt Go.RowKit Go.Deep
set_option linter.unusedVariables false
set_option linter.unusedSimpArgs false

/-- A header that was read, and what is behind it, in memory. -/
def rdc (h : Hd) (t : Txt) : Array Value := h.cs ++ #[.slice t.a t.n t.cap]
theorem rdc_size {h : Hd} (k : h.ok) (t : Txt) : (rdc h t).size = 38 := by simp [rdc, Hd.size k]
theorem rdc_h {w : World} {g : Nat} {ty : TypeId} {h : Hd} {t : Txt} (r : Row w g ty (rdc h t)) : Part w g 0 h.cs := r.part.left
theorem rdc_t {w : World} {g : Nat} {ty : TypeId} {h : Hd} {t : Txt} (k : h.ok) (r : Row w g ty (rdc h t)) : w.cell? ⟨g, 37, none⟩ = some (.slice t.a t.n t.cap) := by
  have := (r.part.right 37 (Hd.size k)) 0 (.slice t.a t.n t.cap) rfl
  simpa using this
theorem sizeRd : (Tryz.prog.info? 91).map (·.size) = some 38 := by kernel_rfl
theorem ldRd {ops : Array Oper} {rest : List Oper} {o : Oper} {a : Act} {w : World} {Q : Exit → Act → World → Prop} (x : Operand) (ho : o.op = .load 91 x) (hw : Region.wanted o (yielded ops a.tmps) = true) (g : Nat) (hx : a.eval x = .pointer (some ⟨g, 0, none⟩)) (h : Hd) (t : Txt) (k : h.ok) (t' : TypeId) (hg : Row w g t' (rdc h t))
    (hn : wpList Tryz.prog ops Q rest (a.put o.dst (.agg (rdc h t))) w) : wpList Tryz.prog ops Q (o :: rest) a w :=
  wp_ld 91 x ho hw g 0 hx (rdc h t) _ Tryz.underlying91 rfl (by rw [rdc_size k]; exact sizeRd) hg.part hn
set_option maxRecDepth 100000 in
theorem builtRd' (c fl ln nx hp a0 a1 a2 a3 a4 a5 a6 a7 a8 a9 a10 a11 a12 a13 a14 a15 b0 b1 b2 b3 b4 b5 b6 b7 b8 b9 b10 b11 b12 b13 b14 b15 : Int) (ta : Option Addr) (tn tc : Nat) (tl : List Int) : Tryz.prog.built 91 [(0, .agg (Hd.cs ⟨c, fl, ln, nx, hp, [a0, a1, a2, a3, a4, a5, a6, a7, a8, a9, a10, a11, a12, a13, a14, a15], [b0, b1, b2, b3, b4, b5, b6, b7, b8, b9, b10, b11, b12, b13, b14, b15]⟩)), (1, .slice ta tn tc)] = some (rdc ⟨c, fl, ln, nx, hp, [a0, a1, a2, a3, a4, a5, a6, a7, a8, a9, a10, a11, a12, a13, a14, a15], [b0, b1, b2, b3, b4, b5, b6, b7, b8, b9, b10, b11, b12, b13, b14, b15]⟩ ⟨ta, tn, tc, tl⟩) := by kernel_rfl
theorem builtRd (h : Hd) (t : Txt) (kh : h.ok) : Tryz.prog.built 91 [(0, .agg h.cs), (1, .slice t.a t.n t.cap)] = some (rdc h t) := by
  obtain ⟨c, fl, ln, nx, hp, f, tt⟩ := h
  obtain ⟨⟨hf, _⟩, ht, _⟩ := kh
  obtain ⟨ta, tn, tc, tl⟩ := t
  simp only at hf ht
  match f, hf, tt, ht with
  | [a0, a1, a2, a3, a4, a5, a6, a7, a8, a9, a10, a11, a12, a13, a14, a15], _, [b0, b1, b2, b3, b4, b5, b6, b7, b8, b9, b10, b11, b12, b13, b14, b15], _ => exact builtRd' c fl ln nx hp a0 a1 a2 a3 a4 a5 a6 a7 a8 a9 a10 a11 a12 a13 a14 a15 b0 b1 b2 b3 b4 b5 b6 b7 b8 b9 b10 b11 b12 b13 b14 b15 ta tn tc tl
theorem bdRd {ops : Array Oper} {rest : List Oper} {o : Oper} {a : Act} {w : World} {Q : Exit → Act → World → Prop} (x0 x1 : Operand) (ho : o.op = .build 91 #[(0, x0), (1, x1)]) (hg : o.guard = none)
    (h : Hd) (t : Txt) (kh : h.ok) (h0 : a.eval x0 = .agg h.cs) (h1 : a.eval x1 = .slice t.a t.n t.cap)
    (hn : wpList Tryz.prog ops Q rest (a.put o.dst (.agg (rdc h t))) w) : wpList Tryz.prog ops Q (o :: rest) a w :=
  wp_bd 91 _ ho hg _ (by simp only [List.map_toArray, List.map_cons, List.map_nil, h0, h1]; exact builtRd h t kh) hn
/-- A store of a whole array or struct, next in a drawn region. -/
theorem anyH_st {P : Program} {ops : Array Oper} {Q : Exit → Act → World → Prop} {md : Region.Mode} {S : World → Prop} {fuel : Nat} {listed : Array Bool} {a : Act} {w : World} (i : Nat) {o : Oper} (hr : Region.ready md ops listed = [i]) (ho : ops[i]? = some o) (hgd : o.guard = none) (ty : TypeId) (x y : Operand) (hop : o.op = .store ty x y)
    (g : Nat) (cells : Array Value) (hx : a.eval x = .pointer (some ⟨g, 0, none⟩)) (hy : a.eval y = .agg cells) (t : TypeId) (old : Array Value) (hg : Row w g t old) (hi : (P.info? ty).map (·.size) = some cells.size)
    (hold : old.size = cells.size) (h1 : cells.all (·.oneCell') = true) (hS : S (w.setRow g cells)) (h : wpAnyH P md ops Q S fuel (listed.setIfInBounds i true) (a.put o.dst undef) (w.setRow g cells)) : wpAnyH P md ops Q S (fuel + 1) listed a w :=
  wpAnyH_ready hr (by simp) (AllReadyH.cons ho (fun K hK => step_st hgd ty x y hop g cells hx hy t old hg hi hold h1 (hK.out _ _ hS (fun _ => h))) AllReadyH.nil)
/-- A packet whose memory is the call's own. -/
structure POwn (base : Nat) (w : World) (p : Pv) : Prop where
  h : p.h.ok
  m : MOwn base w p.m
  t : w.ownsRow base 5 1 p.t.v p.t.l.length (u8s p.t.l)
  tn : p.t.n = p.t.l.length
  oct : Oct p.t.l
theorem MOwn.row {base g : Nat} {w w' : World} {m : Mv} {t : TypeId} {cs : Array Value} (h : MOwn base w m) (hr : Row w g t cs) (h3 : (3 : TypeId) ≠ t) (h5 : (5 : TypeId) ≠ t) (hO : (140 : TypeId) ≠ t) (hg : w.grownBy w' (some g)) : MOwn base w' m :=
  ⟨h.ro, h.own.kept hg (.inr (own_row h.own hr hO)), fun o ho => (h.own2 o ho).row hr h3 h5 hg, h.len, h.le⟩
theorem MOwn.below {base : Nat} {w w' : World} {m : Mv} (h : MOwn base w m) (hb : Below w.heap.size w w') : MOwn base w' m := ⟨h.ro, own_below h.own hb, fun o ho => (h.own2 o ho).below hb, h.len, h.le⟩
theorem MOwn.mono {base base' : Nat} {w : World} {m : Mv} (h : MOwn base w m) (hb : base' ≤ base) : MOwn base' w m := ⟨h.ro, own_mono h.own hb, fun o ho => (h.own2 o ho).mono hb, h.len, h.le⟩
theorem POwn.ok {base : Nat} {w : World} {p : Pv} (h : POwn base w p) : p.ok w := by
  refine ⟨h.h, h.m.ok, ?_, h.oct⟩
  obtain ⟨a, cap, e, hl, _⟩ := owns_lies h.t
  have e1 : Value.slice p.t.a p.t.n p.t.cap = .slice a p.t.l.length cap := e
  injection e1 with e2 e3 e4
  rw [e2, e3, e4]; exact hl
theorem POwn.row {base g : Nat} {w w' : World} {p : Pv} {t : TypeId} {cs : Array Value} (h : POwn base w p) (hr : Row w g t cs) (h3 : (3 : TypeId) ≠ t) (h5 : (5 : TypeId) ≠ t) (hO : (140 : TypeId) ≠ t) (hg : w.grownBy w' (some g)) : POwn base w' p :=
  ⟨h.h, h.m.row hr h3 h5 hO hg, h.t.kept hg (.inr (own_row h.t hr h5)), h.tn, h.oct⟩
theorem POwn.below {base : Nat} {w w' : World} {p : Pv} (h : POwn base w p) (hb : Below w.heap.size w w') : POwn base w' p := ⟨h.h, h.m.below hb, own_below h.t hb, h.tn, h.oct⟩
theorem POwn.mono {base base' : Nat} {w : World} {p : Pv} (h : POwn base w p) (hb : base' ≤ base) : POwn base' w p := ⟨h.h, h.m.mono hb, own_mono h.t hb, h.tn, h.oct⟩
theorem POwn.zero (base : Nat) (w : World) : POwn base w Pv.zero := ⟨Hd.zero_ok, zero_own _ _, World.ownsRow_nil _ _ _ _, rfl, fun x hx => by cases hx⟩
/-- What a reading answers: an error, or a packet. -/
def RdOk (w : World) (E : Int) (P : Pp) (e : Ending) (w' : World) : Prop := ∃ v : Pv, e = .returned (.tuple #[.agg v.cs, .int .i64 E]) ∧ Hid (POwn w.heap.size w' v) ∧ Hid (v.p = P) ∧ Hid (Below w.heap.size w w')
set_option maxRecDepth 100000 in
set_option maxHeartbeats 1600000 in
theorem unknown_any (h : Hd) (t : Txt) (k : h.ok) (w : World) :
    Calls Tryz.prog 71 #[.agg (rdc h t)] w (RdOk w 6 Pp.zero) := by
  have hz := zpkP
  have R1 := hid (Row.new (w.alloc (.cells (rdc h t) 91)) 41 Pv.zero.cs)
  have B1 := hid (balloc (balloc (Below.refl w.heap.size w) (.cells (rdc h t) 91)) (.cells Pv.zero.cs 41))
  have hs1 : (w.alloc (.cells (rdc h t) 91)).heap.size = w.heap.size + 1 := World.size_alloc ..
  rw [hs1] at R1
  clear k
  go_enter Tryz.func71, Tryz.ntmps71
  go_upto_region 1 with fail
  generalize (w.alloc (.cells (rdc h t) 91)).alloc (.cells Pv.zero.cs 41) = w1 at *
  clear hs1
  go_wp2_with (first | (refine bdPz ptP rfl rfl ?_) | (refine stP ptP _ _ rfl rfl (w.heap.size + 1) Pv.zero Pv.zero_fit rfl rfl 41 Pv.zero Pv.zero_fit R1.out ?_))
  refine bodyPost_ret (resPe ptP rfl _ _ (w.heap.size + 1) 41 Pv.zero Pv.zero_fit (.int .i64 6) rfl rfl (R1.out.setRow _)) rfl ?_
  exact ⟨Pv.zero, rfl, hid (POwn.zero _ _), rfl, hid (below_setRow' B1.out (Nat.le_succ _) _)⟩
theorem rdtE_1 {l : List Int} (h : dcE l ≠ 0) : rdtE l = dcE l := by rw [rdtE, if_neg h]
theorem rdtE_2 {l : List Int} (h : dcE l = 0) (h2 : dcN l ≠ 17) : rdtE l = 6 := by rw [rdtE, if_pos h, if_neg h2]
theorem rdtE_3 {l : List Int} (h : dcE l = 0) (h2 : dcN l = 17) (h3 : (dcR l).length < 4) : rdtE l = 4 := by rw [rdtE, if_pos h, if_pos h2, if_pos h3]
theorem rdtE_4 {l : List Int} (h : dcE l = 0) (h2 : dcN l = 17) (h3 : ¬ (dcR l).length < 4) : rdtE l = 0 := by rw [rdtE, if_pos h, if_pos h2, if_neg h3]
def rdtP (h : Hd) (l : List Int) : Pp := if rdtE l = 0 then ⟨h, true, Pm.zero, dcO l, numOf ((dcR l).take 4), (dcR l).drop 4⟩ else Pp.zero
theorem rdtP_bad {h : Hd} {l : List Int} (e : rdtE l ≠ 0) : rdtP h l = Pp.zero := by rw [rdtP, if_neg e]
theorem rdtP_ok {h : Hd} {l : List Int} (e : rdtE l = 0) : rdtP h l = ⟨h, true, Pm.zero, dcO l, numOf ((dcR l).take 4), (dcR l).drop 4⟩ := by rw [rdtP, if_pos e]
theorem rd4_small {n : Nat} (h : n < 4) : rdE 4 1 n 0 = 4 := by unfold rdE; rw [if_pos rfl, if_neg (by simp [sizeB]), if_pos (by omega)]
set_option maxRecDepth 100000 in
set_option maxHeartbeats 3200000 in
theorem rdData1 (h : Hd) (t : Txt) (k : h.ok) (w : World) (ht : t.ok w) (hs : t.n ≤ 100000) (h1 : dcE t.l ≠ 0) :
    Calls Tryz.prog 70 #[.agg (rdc h t)] w (RdOk w (rdtE t.l) (rdtP h t.l)) := by
  have hz := zpkP
  have hzo := zho
  have HK := hid k
  have R1 := hid (Row.new (w.alloc (.cells (rdc h t) 91)) 41 Pv.zero.cs)
  have S1 := hid ((Row.new w 91 (rdc h t)).alloc (.cells Pv.zero.cs 41))
  have B1 := hid (balloc (balloc (Below.refl w.heap.size w) (.cells (rdc h t) 91)) (.cells Pv.zero.cs 41))
  have hs1 : (w.alloc (.cells (rdc h t) 91)).heap.size = w.heap.size + 1 := World.size_alloc ..
  rw [hs1] at R1
  have T1 := hid (ht.below B1.out)
  have HG : Hid (w.heap.size ≤ w.heap.size + 1) := hid (Nat.le_succ _)
  have c37 := rdc_t k S1.out
  have HDO := hid (dcR_oct ht.2)
  have HDL := hid (dcR_len t.l)
  have HTL := hid ht.1.1
  have HSm := hid hs
  have HE : Hid (rdtE t.l = dcE t.l) := hid (rdtE_1 h1)
  have HP : Hid (rdtP h t.l = Pp.zero) := hid (rdtP_bad (by rw [HE.out]; exact h1))
  have HN0 : Hid (dcN t.l = 0) := hid (by rw [dcN, if_neg h1])
  have hq : (dcE t.l != 0) = true := bne_iff_ne.2 h1
  clear h1
  clear k ht hs
  go_enter Tryz.func70, Tryz.ntmps70
  go_upto_region 1 with fail
  generalize (w.alloc (.cells (rdc h t) 91)).alloc (.cells Pv.zero.cs 41) = w1 at *
  clear hs1
  generalize hg1 : w.heap.size + 1 = g1 at *
  have HG1 := hid hg1
  clear hg1
  go_wp2_with fail
  refine (hopDecode_any t.a t.n t.cap t.l _ T1.out.1 T1.out.2 HSm.out).mono ?_
  rintro e w2 ⟨v2, rfl, hown, hb⟩
  have R2 := hid (R1.out.below hb)
  have S2 := hid (S1.out.below hb)
  have B2 := hid (bthen B1.out hb)
  have O2 := hid hown
  clear hb hown R1 S1 T1 c37 B1
  rw [HN0.out]
  generalize dcO t.l = O at *
  have Z3 := hid (layO_new w2 39 O)
  have b3 := layO_below w2 39 O
  have R3 := hid (R2.out.below b3)
  have S3 := hid (S2.out.below b3)
  have B3 := hid (bthen B2.out b3)
  have O3 := hid (own_below O2.out b3)
  clear b3
  go_upto_region 2 with (refine stO oh _ _ rfl rfl w2.heap.size O rfl rfl 39 Ho.zero (Row.new w2 39 _) ?_)
  generalize (w2.alloc (.cells Ho.zero.cs 39)).setRow w2.heap.size O.cs = w3 at *
  have HG3 : Hid (w.heap.size + 1 < w2.heap.size) := hid (by rw [HG1.out]; exact R2.out.lt)
  generalize w2.heap.size = g3 at *
  clear R2 S2 B2 O2
  generalize dcE t.l = E at *
  go_wp2_with (first | (refine bdPz ptP rfl rfl ?_) | (refine stP ptP _ _ rfl rfl g1 Pv.zero Pv.zero_fit rfl rfl 41 Pv.zero Pv.zero_fit R3.out ?_))
  refine bodyPost_ret (resPe ptP rfl _ _ g1 41 Pv.zero Pv.zero_fit (.int .i64 (E)) rfl rfl (R3.out.setRow _)) rfl ?_
  exact ⟨Pv.zero, by rw [HE.out], hid (POwn.zero _ _), HP.out.symm, hid (below_setRow' B3.out HG.out _)⟩
set_option maxRecDepth 100000 in
set_option maxHeartbeats 3200000 in
theorem rdData2 (h : Hd) (t : Txt) (k : h.ok) (w : World) (ht : t.ok w) (hs : t.n ≤ 100000) (h1 : dcE t.l = 0) (h2 : dcN t.l ≠ 17) :
    Calls Tryz.prog 70 #[.agg (rdc h t)] w (RdOk w (rdtE t.l) (rdtP h t.l)) := by
  have hz := zpkP
  have hzo := zho
  have HK := hid k
  have R1 := hid (Row.new (w.alloc (.cells (rdc h t) 91)) 41 Pv.zero.cs)
  have S1 := hid ((Row.new w 91 (rdc h t)).alloc (.cells Pv.zero.cs 41))
  have B1 := hid (balloc (balloc (Below.refl w.heap.size w) (.cells (rdc h t) 91)) (.cells Pv.zero.cs 41))
  have hs1 : (w.alloc (.cells (rdc h t) 91)).heap.size = w.heap.size + 1 := World.size_alloc ..
  rw [hs1] at R1
  have T1 := hid (ht.below B1.out)
  have HG : Hid (w.heap.size ≤ w.heap.size + 1) := hid (Nat.le_succ _)
  have c37 := rdc_t k S1.out
  have HDO := hid (dcR_oct ht.2)
  have HDL := hid (dcR_len t.l)
  have HTL := hid ht.1.1
  have HSm := hid hs
  have HE : Hid (rdtE t.l = 6) := hid (rdtE_2 h1 h2)
  have HP : Hid (rdtP h t.l = Pp.zero) := hid (rdtP_bad (by rw [HE.out]; decide))
  have hq : (dcN t.l != 17) = true := bne_iff_ne.2 h2
  have HE0 := hid h1
  clear h1 h2
  clear k ht hs
  go_enter Tryz.func70, Tryz.ntmps70
  go_upto_region 1 with fail
  generalize (w.alloc (.cells (rdc h t) 91)).alloc (.cells Pv.zero.cs 41) = w1 at *
  clear hs1
  generalize hg1 : w.heap.size + 1 = g1 at *
  have HG1 := hid hg1
  clear hg1
  go_wp2_with fail
  refine (hopDecode_any t.a t.n t.cap t.l _ T1.out.1 T1.out.2 HSm.out).mono ?_
  rintro e w2 ⟨v2, rfl, hown, hb⟩
  have R2 := hid (R1.out.below hb)
  have S2 := hid (S1.out.below hb)
  have B2 := hid (bthen B1.out hb)
  have O2 := hid hown
  clear hb hown R1 S1 T1 c37 B1
  rw [HE0.out]
  generalize dcO t.l = O at *
  have Z3 := hid (layO_new w2 39 O)
  have b3 := layO_below w2 39 O
  have R3 := hid (R2.out.below b3)
  have S3 := hid (S2.out.below b3)
  have B3 := hid (bthen B2.out b3)
  have O3 := hid (own_below O2.out b3)
  clear b3
  go_upto_region 2 with (refine stO oh _ _ rfl rfl w2.heap.size O rfl rfl 39 Ho.zero (Row.new w2 39 _) ?_)
  generalize (w2.alloc (.cells Ho.zero.cs 39)).setRow w2.heap.size O.cs = w3 at *
  have HG3 : Hid (w.heap.size + 1 < w2.heap.size) := hid (by rw [HG1.out]; exact R2.out.lt)
  generalize w2.heap.size = g3 at *
  clear R2 S2 B2 O2
  generalize dcN t.l = N at *
  go_wp2_with (first | (refine bdPz ptP rfl rfl ?_) | (refine stP ptP _ _ rfl rfl g1 Pv.zero Pv.zero_fit rfl rfl 41 Pv.zero Pv.zero_fit R3.out ?_))
  refine bodyPost_ret (resPe ptP rfl _ _ g1 41 Pv.zero Pv.zero_fit (.int .i64 (6)) rfl rfl (R3.out.setRow _)) rfl ?_
  exact ⟨Pv.zero, by rw [HE.out], hid (POwn.zero _ _), HP.out.symm, hid (below_setRow' B3.out HG.out _)⟩
set_option maxRecDepth 100000 in
set_option maxHeartbeats 3200000 in
theorem rdData3 (h : Hd) (t : Txt) (k : h.ok) (w : World) (ht : t.ok w) (hs : t.n ≤ 100000) (h1 : dcE t.l = 0) (h2 : dcN t.l = 17) (h3 : (dcR t.l).length < 4) :
    Calls Tryz.prog 70 #[.agg (rdc h t)] w (RdOk w (rdtE t.l) (rdtP h t.l)) := by
  have hz := zpkP
  have hzo := zho
  have HK := hid k
  have R1 := hid (Row.new (w.alloc (.cells (rdc h t) 91)) 41 Pv.zero.cs)
  have S1 := hid ((Row.new w 91 (rdc h t)).alloc (.cells Pv.zero.cs 41))
  have B1 := hid (balloc (balloc (Below.refl w.heap.size w) (.cells (rdc h t) 91)) (.cells Pv.zero.cs 41))
  have hs1 : (w.alloc (.cells (rdc h t) 91)).heap.size = w.heap.size + 1 := World.size_alloc ..
  rw [hs1] at R1
  have T1 := hid (ht.below B1.out)
  have HG : Hid (w.heap.size ≤ w.heap.size + 1) := hid (Nat.le_succ _)
  have c37 := rdc_t k S1.out
  have HDO := hid (dcR_oct ht.2)
  have HDL := hid (dcR_len t.l)
  have HTL := hid ht.1.1
  have HSm := hid hs
  have HE : Hid (rdtE t.l = 4) := hid (rdtE_3 h1 h2 h3)
  have HP : Hid (rdtP h t.l = Pp.zero) := hid (rdtP_bad (by rw [HE.out]; decide))
  have HE0 := hid h1
  have HN0 := hid h2
  have H4 := hid h3
  clear h1 h2 h3
  clear k ht hs
  go_enter Tryz.func70, Tryz.ntmps70
  go_upto_region 1 with fail
  generalize (w.alloc (.cells (rdc h t) 91)).alloc (.cells Pv.zero.cs 41) = w1 at *
  clear hs1
  generalize hg1 : w.heap.size + 1 = g1 at *
  have HG1 := hid hg1
  clear hg1
  go_wp2_with fail
  refine (hopDecode_any t.a t.n t.cap t.l _ T1.out.1 T1.out.2 HSm.out).mono ?_
  rintro e w2 ⟨v2, rfl, hown, hb⟩
  have R2 := hid (R1.out.below hb)
  have S2 := hid (S1.out.below hb)
  have B2 := hid (bthen B1.out hb)
  have O2 := hid hown
  clear hb hown R1 S1 T1 c37 B1
  rw [HE0.out, HN0.out]
  generalize dcO t.l = O at *
  have Z3 := hid (layO_new w2 39 O)
  have b3 := layO_below w2 39 O
  have R3 := hid (R2.out.below b3)
  have S3 := hid (S2.out.below b3)
  have B3 := hid (bthen B2.out b3)
  have O3 := hid (own_below O2.out b3)
  clear b3
  go_upto_region 2 with (refine stO oh _ _ rfl rfl w2.heap.size O rfl rfl 39 Ho.zero (Row.new w2 39 _) ?_)
  generalize (w2.alloc (.cells Ho.zero.cs 39)).setRow w2.heap.size O.cs = w3 at *
  have HG3 : Hid (w.heap.size + 1 < w2.heap.size) := hid (by rw [HG1.out]; exact R2.out.lt)
  generalize w2.heap.size = g3 at *
  clear R2 S2 B2 O2
  obtain ⟨a3, k3, rfl, _, _⟩ := owns_lies O3.out
  have L3 : Hid (Lies .u8 w3 a3 (dcR t.l).length k3 (dcR t.l)) := by
    obtain ⟨a9, k9, e9, h9, _⟩ := owns_lies O3.out
    cases e9
    exact h9
  clear O3
  generalize dcR t.l = X at *
  generalize hxn : X.length = xn at *
  have HXN := hid hxn
  clear hxn
  go_wp2_with fail
  refine (over_any a3 xn k3 X _ L3.out HDO.out (by have := HDL.out; have := HTL.out; have := HSm.out; omega)).mono ?_
  rintro e w4 ⟨c, a4, k4, rfl, hc, hb, hc1, hc2⟩
  have R4 := hid (R3.out.below hb)
  have S4 := hid (S3.out.below hb)
  have Z4 := hid (Z3.out.below hb)
  have B4 := hid (bthen B3.out hb)
  have C4 := hid hc
  have HC := hid hc1
  have HR3 := hid R3.out.lt
  have HS3 := hid S3.out.lt
  have HZ3 := hid Z3.out.lt
  have HW3 := hid B3.out.size
  clear hc hb hc1 hc2 R3 S3 Z3 B3 L3
  go_wp2_with fail
  refine (take_any _ c a4 xn k4 0 X 0 4 C4.out).mono ?_
  rintro e w5 ⟨rfl, hc, hg, hz5⟩
  rw [show rdE 4 1 (xn - 0) 0 = 4 from rd4_small (by have := H4.out; omega)] at hc
  have R5 := hid (R4.out.kept hg (fun e => absurd (Option.some.inj e) (by have := HC.out; have := HR3.out; omega)))
  have S5 := hid (S4.out.kept hg (fun e => absurd (Option.some.inj e) (by have := HC.out; have := HS3.out; omega)))
  have Z5 := hid (Z4.out.kept hg (fun e => absurd (Option.some.inj e) (by have := HC.out; have := HZ3.out; omega)))
  have B5 := hid (bgrown B4.out hg (by have := HC.out; have := HW3.out; omega))
  have C5 := hid hc
  clear hc hg hz5 R4 S4 Z4 B4 C4
  generalize takeV 4 X 0 xn 0 = V at *
  go_wp2_with fail
  refine (err_any _ c 4 C5.out.cell2).mono ?_
  rintro e w5 ⟨rfl, rfl⟩
  go_wp2_with (first | (refine bdPz ptP rfl rfl ?_) | (refine stP ptP _ _ rfl rfl g1 Pv.zero Pv.zero_fit rfl rfl 41 Pv.zero Pv.zero_fit R5.out ?_))
  refine bodyPost_ret (resPe ptP rfl _ _ g1 41 Pv.zero Pv.zero_fit (.int .i64 (4)) rfl rfl (R5.out.setRow _)) rfl ?_
  exact ⟨Pv.zero, by rw [HE.out], hid (POwn.zero _ _), HP.out.symm, hid (below_setRow' B5.out HG.out _)⟩
end Go.Proofs.YtbklpelikaapoaaGreatDoor

namespace Go.Proofs.YtbklpelikaapoaaGreatDoor
open Go.ChangeShapes Go.WideShapes Go.ChangeAt Go.RowKit Go.Deep
set_option linter.unusedVariables false
set_option linter.unusedSimpArgs false

set_option maxRecDepth 100000 in
theorem builtH3' (hp a0 a1 a2 a3 a4 a5 a6 a7 a8 a9 a10 a11 a12 a13 a14 a15 b0 b1 b2 b3 b4 b5 b6 b7 b8 b9 b10 b11 b12 b13 b14 b15 : Int) : Tryz.prog.built 35 [(4, .int .i64 hp), (5, .agg (arr [a0, a1, a2, a3, a4, a5, a6, a7, a8, a9, a10, a11, a12, a13, a14, a15])), (6, .agg (arr [b0, b1, b2, b3, b4, b5, b6, b7, b8, b9, b10, b11, b12, b13, b14, b15]))] = some (Hd.cs ⟨0, 0, 0, 0, hp, [a0, a1, a2, a3, a4, a5, a6, a7, a8, a9, a10, a11, a12, a13, a14, a15], [b0, b1, b2, b3, b4, b5, b6, b7, b8, b9, b10, b11, b12, b13, b14, b15]⟩) := by kernel_rfl
theorem builtH3 (hp : Int) (f t : List Int) (hf : f.length = 16) (ht : t.length = 16) : Tryz.prog.built 35 [(4, .int .i64 hp), (5, .agg (arr f)), (6, .agg (arr t))] = some (Hd.cs ⟨0, 0, 0, 0, hp, f, t⟩) := by
  match f, hf, t, ht with
  | [a0, a1, a2, a3, a4, a5, a6, a7, a8, a9, a10, a11, a12, a13, a14, a15], _, [b0, b1, b2, b3, b4, b5, b6, b7, b8, b9, b10, b11, b12, b13, b14, b15], _ => exact builtH3' hp a0 a1 a2 a3 a4 a5 a6 a7 a8 a9 a10 a11 a12 a13 a14 a15 b0 b1 b2 b3 b4 b5 b6 b7 b8 b9 b10 b11 b12 b13 b14 b15
theorem ybdH3 {ops : Array Oper} {S : World → Prop} {op : Oper} {a : Act} (hw : Region.wanted op (yielded ops a.tmps) = true) (x4 x5 x6 : Operand) (ho : op.op = .build 35 #[(4, x4), (5, x5), (6, x6)])
    (hp : Int) (f t : List Int) (hf : f.length = 16) (ht : t.length = 16) (h4 : a.eval x4 = .int .i64 hp) (h5 : a.eval x5 = .agg (arr f)) (h6 : a.eval x6 = .agg (arr t)) : YieldsIf Tryz.prog ops S op (.agg (Hd.cs ⟨0, 0, 0, 0, hp, f, t⟩)) a :=
  .inl ⟨hw, fun w _ => by
    have hb : Tryz.prog.built 35 ((#[(4, x4), (5, x5), (6, x6)] : Array (Nat × Operand)).map fun (i, x) => (i, a.eval x)).toList = some (Hd.cs ⟨0, 0, 0, 0, hp, f, t⟩) := by
      simp only [List.map_toArray, List.map_cons, List.map_nil, h4, h5, h6]; exact builtH3 hp f t hf ht
    unfold execOp
    simp only [ho, Sem.run_bind, run_build w 35 _ _ hb, Result.andThen_ok]
    rfl⟩
theorem CpM.row {base g : Nat} {w : World} {m : Mv} {t : TypeId} {c : Array Value} (h : CpM base w m) (hr : Row w g t c) (h3 : (3 : TypeId) ≠ t) (h5 : (5 : TypeId) ≠ t) (hO : (140 : TypeId) ≠ t) (cs : Array Value) : CpM base (w.setRow g cs) m :=
  ⟨h.ro, own_setRowT h.own hr hO, fun o ho => ⟨own_setRowT (h.own2 o ho).n hr h3, (h.own2 o ho).nn, (h.own2 o ho).ad, own_setRowT (h.own2 o ho).t hr h5, (h.own2 o ho).tn, (h.own2 o ho).oct⟩, h.len⟩
theorem CpM.mono {base base' : Nat} {w : World} {m : Mv} (h : CpM base w m) (hb : base' ≤ base) : CpM base' w m := ⟨h.ro, own_mono h.own hb, fun o ho => (h.own2 o ho).mono hb, h.len⟩
set_option maxRecDepth 100000 in
set_option maxHeartbeats 3200000 in
theorem dgControl_any (f t : List Int) (hf : Adr f) (ht : Adr t) (m : Mv) (w : World) (hm : m.ok w) (hn : m.on ≤ 1000) (hs : Sml m.L) : Calls Tryz.prog 19 #[.agg (arr f), .agg (arr t), .agg m.cs] w fun e w' => (∃ m' : Mv, e = .returned (.agg (Pv.cs ⟨⟨0, 0, 0, 0, 255, f, t⟩, false, m', Ho.zero, 0, Txt.none⟩)) ∧ m'.on = m.on ∧ Hid (m'.p = m.p) ∧ Hid (CpM w.heap.size w' m')) ∧ Below w.heap.size w w' := by
  have hz := zpkP
  have HF := hid hf
  have HT := hid ht
  have HM0 := hid hm
  have HSm := hid hs
  have hs1 : (w.alloc (.cells (arr f) 33)).heap.size = w.heap.size + 1 := World.size_alloc ..
  have hs2 : ((w.alloc (.cells (arr f) 33)).alloc (.cells (arr t) 33)).heap.size = w.heap.size + 2 := by rw [World.size_alloc, hs1]
  have hs3 : (((w.alloc (.cells (arr f) 33)).alloc (.cells (arr t) 33)).alloc (.cells m.cs 38)).heap.size = w.heap.size + 3 := by rw [World.size_alloc, hs2]
  have F1 := hid ((((Row.new w 33 (arr f)).alloc (.cells (arr t) 33)).alloc (.cells m.cs 38)).alloc (.cells Pv.zero.cs 41))
  have T1 := hid (((Row.new (w.alloc (.cells (arr f) 33)) 33 (arr t)).alloc (.cells m.cs 38)).alloc (.cells Pv.zero.cs 41))
  have R1 := hid ((Row.new ((w.alloc (.cells (arr f) 33)).alloc (.cells (arr t) 33)) 38 m.cs).alloc (.cells Pv.zero.cs 41))
  have Z1 := hid (Row.new (((w.alloc (.cells (arr f) 33)).alloc (.cells (arr t) 33)).alloc (.cells m.cs 38)) 41 Pv.zero.cs)
  have B1 := hid (balloc (balloc (balloc (balloc (Below.refl w.heap.size w) (.cells (arr f) 33)) (.cells (arr t) 33)) (.cells m.cs 38)) (.cells Pv.zero.cs 41))
  rw [hs1] at T1
  rw [hs2] at R1
  rw [hs3] at Z1
  clear hm hs hf ht
  go_enter Tryz.func19, Tryz.ntmps19
  go_upto_region 1 with fail
  generalize hw1 : (((w.alloc (.cells (arr f) 33)).alloc (.cells (arr t) 33)).alloc (.cells m.cs 38)).alloc (.cells Pv.zero.cs 41) = w1 at *
  have B1 : Hid (Below w.heap.size w w1.drew) := hid (B1.out.trans ⟨rfl, rfl, rfl, Nat.le_refl _, fun _ _ => rfl⟩)
  have F1 : Hid (Row w1.drew w.heap.size 33 (arr f)) := F1
  have T1 : Hid (Row w1.drew (w.heap.size + 1) 33 (arr t)) := T1
  have R1 : Hid (Row w1.drew (w.heap.size + 2) 38 m.cs) := R1
  have Z1 : Hid (Row w1.drew (w.heap.size + 3) 41 Pv.zero.cs) := Z1
  clear hw1 hs1 hs2 hs3 hz
  generalize hg3 : w.heap.size + 3 = g3 at *
  generalize hg2 : w.heap.size + 2 = g2 at *
  generalize hg1 : w.heap.size + 1 = g1 at *
  generalize hg0 : w.heap.size = g0 at *
  have HG : Hid (g1 = g0 + 1 ∧ g2 = g0 + 2 ∧ g3 = g0 + 3 ∧ w.heap.size = g0) := hid ⟨hg1.symm, hg2.symm, hg3.symm, hg0⟩
  rw [← hg0] at B1
  clear hg0 hg1 hg2 hg3
  refine wp_region_held_drew (S := fun w' => Hid (Row w' g0 33 (arr f)) ∧ (Hid (Row w' g1 33 (arr t)) ∧ Hid (Row w' g2 38 m.cs))) (by kernel_rfl) ?_ (fun hHeld => ?_)
  · exact ⟨F1, T1, R1⟩
  refine wpAnyH_take (i := 0) (oi := _) (v := .agg (arr f)) rfl (by kernel_rfl) (by kernel_rfl) (by kernel_rfl) (fun _ _ _ h => h) (yld41 (by rfl) _ rfl g0 0 rfl f HF.out (fun w h => h.1.out.part)) (by assumption) ?_
  try simp only [List.getElem_toArray, List.getElem_cons_zero, List.getElem_cons_succ, Act.put, List.setIfInBounds_toArray, List.set_cons_zero, List.set_cons_succ]
  refine wpAnyH_take (i := 1) (oi := _) (v := .agg (arr t)) rfl (by kernel_rfl) (by kernel_rfl) (by kernel_rfl) (fun _ _ _ h => h) (yld41 (by rfl) _ rfl g1 0 rfl t HT.out (fun w h => h.2.1.out.part)) (by assumption) ?_
  try simp only [List.getElem_toArray, List.getElem_cons_zero, List.getElem_cons_succ, Act.put, List.setIfInBounds_toArray, List.set_cons_zero, List.set_cons_succ]
  refine wpAnyH_take (i := 2) (oi := _) (v := .agg (Hd.cs ⟨0, 0, 0, 0, 255, f, t⟩)) rfl (by kernel_rfl) (by kernel_rfl) (by kernel_rfl) (fun _ _ _ h => h) (ybdH3 (by rfl) _ _ _ rfl 255 f t HF.out.1 HT.out.1 rfl rfl rfl) (by assumption) ?_
  try simp only [List.getElem_toArray, List.getElem_cons_zero, List.getElem_cons_succ, Act.put, List.setIfInBounds_toArray, List.set_cons_zero, List.set_cons_succ]
  refine wpAnyH_take (i := 3) (oi := _) (v := .agg m.cs) rfl (by kernel_rfl) (by kernel_rfl) (by kernel_rfl) (fun _ _ _ h => h) (yldM m29 (by rfl) _ rfl g2 0 rfl m HM0.out.ro (fun w h => h.2.2.out.part)) (by assumption) ?_
  try simp only [List.getElem_toArray, List.getElem_cons_zero, List.getElem_cons_succ, Act.put, List.setIfInBounds_toArray, List.set_cons_zero, List.set_cons_succ]
  refine wpAnyH_ready (rs := [4]) (by kernel_rfl) (by simp) ?_
  refine AllReadyH.cons (o := _) rfl (fun K hK => ?_) AllReadyH.nil
  go_simp
  refine (dgCopied_any m _ (HM0.out.below B1.out) hn HSm.out).mono ?_
  rintro e w2 ⟨⟨m', rfl, hon, hp, hC⟩, hb⟩
  have F2 := hid (F1.out.below hb)
  have T2 := hid (T1.out.below hb)
  have R2 := hid (R1.out.below hb)
  have Z2 := hid (Z1.out.below hb)
  have B2 := hid (bthen B1.out hb)
  have C2 := hid hC.out
  have HP := hid hp.out
  clear hb hC hp F1 T1 R1 Z1
  go_wp2_with fail
  refine hK.out _ _ ⟨F2, T2, R2⟩ (fun hHeld => ?_)
  clear hK K
  try simp only [List.getElem_toArray, List.getElem_cons_zero, List.getElem_cons_succ, Act.put, List.setIfInBounds_toArray, List.set_cons_zero, List.set_cons_succ]
  have HK : Hid (Pv.fit ⟨⟨0, 0, 0, 0, 255, f, t⟩, false, m', Ho.zero, 0, Txt.none⟩) := hid ⟨⟨HF.out, HT.out⟩, C2.out.ro⟩
  refine wpAnyH_take (i := 5) (oi := _) (v := .agg (Pv.cs ⟨⟨0, 0, 0, 0, 255, f, t⟩, false, m', Ho.zero, 0, Txt.none⟩)) rfl (by kernel_rfl) (by kernel_rfl) (by kernel_rfl) (fun _ _ _ h => h) (ybdPc ptP (by rfl) _ _ rfl ⟨0, 0, 0, 0, 255, f, t⟩ m' HK.out.1 HK.out.2 rfl rfl) (by assumption) ?_
  try simp only [List.getElem_toArray, List.getElem_cons_zero, List.getElem_cons_succ, Act.put, List.setIfInBounds_toArray, List.set_cons_zero, List.set_cons_succ]
  generalize hq : (⟨⟨0, 0, 0, 0, 255, f, t⟩, false, m', Ho.zero, 0, Txt.none⟩ : Pv) = q at *
  have HQ := hid hq
  clear hq
  have F3 := hid (F2.out.rowOther g3 q.cs (by have := HG.out; omega))
  have T3 := hid (T2.out.rowOther g3 q.cs (by have := HG.out; omega))
  have R3 := hid (R2.out.rowOther g3 q.cs (by have := HG.out; omega))
  have Z3 := hid (Z2.out.setRow q.cs)
  have B3 := hid (below_setRow' B2.out (g := g3) (by have := HG.out; omega) q.cs)
  have C3 := hid ((C2.out.mono B1.out.size).row Z2.out (by decide) (by decide) (by decide) q.cs)
  refine anyH_st 6 ?qwa rfl rfl 41 _ _ rfl g3 q.cs ?qwb ?qwc 41 Pv.zero.cs ?qwd ?qwe ?qwf ?qwg ?qwh ?_
  case qwa => kernel_rfl
  case qwb => rfl
  case qwc => rfl
  case qwd => exact Z2.out
  case qwe => rw [Pv.size HK.out]; exact ptP.info
  case qwf => rw [Pv.size HK.out, Pv.size Pv.zero_fit]
  case qwg => exact Pv.one _
  case qwh => exact ⟨F3, T3, R3⟩
  try simp only [List.getElem_toArray, List.getElem_cons_zero, List.getElem_cons_succ, Act.put, List.setIfInBounds_toArray, List.set_cons_zero, List.set_cons_succ]
  refine wpAnyH_done (by kernel_rfl) ?_ _
  go_wp2_with fail
  exact bodyPost_ret (resP ptP rfl _ _ g3 41 q HK.out rfl Z3.out) rfl ⟨⟨m', by rw [← HQ.out], hon, HP, C3⟩, B3.out⟩
end Go.Proofs.YtbklpelikaapoaaGreatDoor

namespace Go.Proofs.YtbklpelikaapoaaGreatDoor
open Go.ChangeShapes Go.WideShapes Go.ChangeAt Go.RowKit Go.Deep
set_option linter.unusedVariables false
set_option linter.unusedSimpArgs false

theorem wsum_at (l : List Int) (i : Nat) (x : Int) (h : i < l.length) : wsum 0 (l.set i x) = wsum 0 l - wt i (l.getD i 0) + wt i x := by
  have h1 : l.set i x = l.take i ++ ([x] ++ l.drop (i + 1)) := by rw [List.set_eq_take_append_cons_drop, if_pos h]; rfl
  have h2 : l = l.take i ++ ([l.getD i 0] ++ l.drop (i + 1)) := by
    have := List.set_eq_take_append_cons_drop (l := l) (i := i) (a := l.getD i 0)
    rw [if_pos h] at this
    have h3 : l.set i (l.getD i 0) = l := by simp [h]
    rw [h3] at this
    exact this
  have hl : (l.take i).length = i := by simp; omega
  have e1 : ∀ y, wsum 0 (l.take i ++ ([y] ++ l.drop (i + 1))) = wsum 0 (l.take i) + wt i y + wsum (i + 1) (l.drop (i + 1)) := by
    intro y
    rw [wsum_app, wsum_app, hl]
    simp [wsum]; omega
  have h4 : wsum 0 l = wsum 0 (l.take i) + wt i (l.getD i 0) + wsum (i + 1) (l.drop (i + 1)) := by rw [← e1, ← h2]
  rw [h1, e1, h4]; omega
/-- The eight powers of two that a bit of a byte may be. -/
def bitB (d : Int) : Prop := d = 1 ∨ d = 2 ∨ d = 4 ∨ d = 8 ∨ d = 16 ∨ d = 32 ∨ d = 64 ∨ d = 128
theorem norm_bent (S d : Int) (hS : norm S = 65535) (h : (0 < d ∧ d < 65535) ∨ (-65535 < d ∧ d < 0)) : norm (S + d) ≠ 65535 := by
  unfold norm at hS ⊢
  split at hS
  · omega
  · split <;> omega
theorem bend_chk {f t l : List Int} {i : Nat} {y d : Int} (hf : Adr f) (ht : Adr t) (hn : l.length ≤ 1280) (hi : i < l.length) (hc : chkB f t 58 l = true) (hd : bitB d) (hy : y = l.getD i 0 + d ∨ y = l.getD i 0 - d) : chkB f t 58 (l.set i y) = false := by
  have hE := psE_58 hn
  have hh := hdr_len f t 58 l.length hf ht
  have e1 : ∀ M, wsum 0 (hdr f t 58 l.length ++ M) = wsum 0 (hdr f t 58 l.length) + wsum 0 M := fun M => by rw [wsum_app, wsum_even (0 + (hdr f t 58 l.length).length) (by omega)]
  unfold chkB psV at hc ⊢
  rw [List.length_set]
  rw [hE] at hc ⊢
  simp only [if_true, beq_self_eq_true, Bool.true_and, beq_iff_eq, beq_eq_false_iff_ne] at hc ⊢
  rw [sumV, e1] at hc ⊢
  rw [wsum_at l i y hi]
  have hb : wt i y - wt i (l.getD i 0) = wt i (y - l.getD i 0) := by unfold wt; split <;> omega
  have hm : ∃ z, y - l.getD i 0 = z ∧ (bitB z ∨ bitB (-z)) := by
    rcases hy with rfl | rfl
    · exact ⟨d, by omega, .inl hd⟩
    · exact ⟨-d, by omega, .inr (by rw [Int.neg_neg]; exact hd)⟩
  obtain ⟨z, hz, hzz⟩ := hm
  rw [hz] at hb
  have hc' : norm (wsum 0 (hdr f t 58 l.length) + wsum 0 l) = 65535 := by omega
  have := norm_bent (wsum 0 (hdr f t 58 l.length) + wsum 0 l) (wt i z) hc' (by unfold bitB at hzz; unfold wt; split <;> omega)
  rw [show wsum 0 (hdr f t 58 l.length) + (wsum 0 l - wt i (l.getD i 0) + wt i y) = wsum 0 (hdr f t 58 l.length) + wsum 0 l + wt i z by omega]
  omega
theorem bend_dg (p : Pp) (hh : p.h.ok) (ho : Oct (eL p.m)) (hd : p.d = false) (h : pgE p = 0) (i : Nat) (y d : Int) (hi : 40 ≤ i) (hi2 : i < (pgL p).length) (hb : bitB d) (hy : y = (pgL p).getD i 0 + d ∨ y = (pgL p).getD i 0 - d) (hyo : 0 ≤ y ∧ y < 256) : dgE ((pgL p).set i y) = 5 := by
  have hL : pgL p = ctlB p := by rw [pgL, if_pos h, hd]; rfl
  rw [hL] at hi2 hy ⊢
  unfold pgE at h
  rw [hd] at h
  simp only [Bool.false_eq_true, if_false] at h
  have he : eE p.m = 0 := by
    unfold ctlE at h
    split at h
    · assumption
    · contradiction
  rw [ctlE, if_pos he] at h
  obtain ⟨h1, h2⟩ := withE_0 h
  have hO := ctlL_oct he ho
  have hRl := ctlR_len p
  have hRo : Oct (ctlR p) := setL_oct _ _ _ _ _ hO
  have hlen := ctlL_len p
  have k1 : ((p.h.setNx 58).setLn ((ctlL p).length : Nat)).ok := hh
  have hy1 : okH ((p.h.setNx 58).setLn ((ctlL p).length : Nat)) = true := okH_ln h1 (by omega) (by omega)
  have hl40 := hdrL_len k1
  have hs : (ctlB p).set i y = hdrL ((p.h.setNx 58).setLn ((ctlL p).length : Nat)) ++ (ctlR p).set (i - 40) y := by
    rw [ctlB, List.set_append, if_neg (by omega), hl40]
  have hg : (ctlB p).getD i 0 = (ctlR p).getD (i - 40) 0 := by
    rw [ctlB, List.getD_eq_getElem?_getD, List.getElem?_append, if_neg (by omega), hl40, List.getD_eq_getElem?_getD]
  have hi3 : i - 40 < (ctlR p).length := by
    rw [ctlB, List.length_append, hl40] at hi2; omega
  rw [hg] at hy
  have hSo : Oct ((ctlR p).set (i - 40) y) := by
    intro x hx
    rcases List.mem_or_eq_of_mem_set hx with h' | rfl
    · exact hRo x h'
    · exact hyo
  have hsl : ((ctlR p).set (i - 40) y).length = (ctlR p).length := List.length_set ..
  obtain ⟨d1, d2, d3⟩ := dec_with k1 hy1 ((ctlR p).set (i - 40) y) hSo (by show ((ctlL p).length : Int) = (((ctlR p).set (i - 40) y).length : Nat); rw [hsl, hRl]) (by omega)
  have hck : chkB p.h.f p.h.t 58 (ctlR p) = true := setL_right _ _ _ _ _ hh.1 hh.2 hO (psE_58 (by omega)) (by decide) (by omega)
  have hcb := bend_chk hh.1 hh.2 (by omega) hi3 hck hb hy
  have hnx : ((p.h.setNx 58).setLn ((ctlL p).length : Nat)).nx = 58 := rfl
  rw [hs, dgE, if_pos d1, d2, d3, rhE, if_pos hnx, rcE, if_neg (by omega)]
  show (if chkB p.h.f p.h.t 58 ((ctlR p).set (i - 40) y) = true then _ else _) = _
  rw [hcb]; rfl
end Go.Proofs.YtbklpelikaapoaaGreatDoor

namespace Go.Proofs.YtbklpelikaapoaaGreatDoor
open Go.ChangeShapes Go.WideShapes Go.ChangeAt Go.RowKit Go.Deep
set_option linter.unusedVariables false
set_option linter.unusedSimpArgs false

/-- One of many options, in a slice of its own. -/
theorem Opts.one {w : World} {b off : Nat} {n cap : Nat} {L : List Ov} (h : Opts w (some ⟨b, off, Option.none⟩) n cap L) (k : Nat) (hk : k < n) : Opts w (some ⟨b, off + k * 19, Option.none⟩) 1 (cap - k) [L.getD k Ov.zero] := by
  have h1 := h.le
  have h2 := h.max
  refine ⟨rfl, by omega, by omega, (fun h => by cases h), fun j hj => ?_, fun o ho => ?_⟩
  · obtain rfl : j = 0 := by omega
    obtain ⟨b', off', he, hp⟩ := h.cell k hk
    obtain ⟨rfl, rfl⟩ : b = b' ∧ off = off' := by have := Option.some.inj he; simpa using this
    exact ⟨b, off + k * 19, rfl, by simpa using hp⟩
  · rw [List.mem_singleton.1 ho]; exact h.at k hk
end Go.Proofs.YtbklpelikaapoaaGreatDoor

namespace Go.Proofs.YtbklpelikaapoaaGreatDoor
open Go.ChangeShapes Go.WideShapes Go.ChangeAt Go.RowKit Go.Deep
set_option linter.unusedVariables false
set_option linter.unusedSimpArgs false

end Go.Proofs.YtbklpelikaapoaaGreatDoor

namespace Go.Proofs.YtbklpelikaapoaaGreatDoor
open Go.ChangeShapes Go.WideShapes Go.ChangeAt Go.RowKit Go.Deep
set_option linter.unusedVariables false
set_option linter.unusedSimpArgs false

end Go.Proofs.YtbklpelikaapoaaGreatDoor

namespace Go.Proofs.YtbklpelikaapoaaGreatDoor
open Go.ChangeShapes Go.WideShapes Go.ChangeAt Go.RowKit Go.Deep
set_option linter.unusedVariables false
set_option linter.unusedSimpArgs false

end Go.Proofs.YtbklpelikaapoaaGreatDoor

namespace Go.Proofs.YtbklpelikaapoaaGreatDoor
open Go.ChangeShapes Go.WideShapes Go.ChangeAt Go.RowKit Go.Deep
set_option linter.unusedVariables false
set_option linter.unusedSimpArgs false

end Go.Proofs.YtbklpelikaapoaaGreatDoor
