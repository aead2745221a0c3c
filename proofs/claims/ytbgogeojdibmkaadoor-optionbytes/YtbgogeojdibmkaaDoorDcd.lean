/- Reading: Decode. -/
import Derived.Test.YtbgogeojdibmkaaDoorNxo
namespace Go.Proofs.YtbgogeojdibmkaaDoor
open Go.ChangeShapes Go.WideShapes Go.ChangeAt Go.RowKit Go.Deep
set_option linter.unusedVariables false
set_option linter.unusedSimpArgs false

theorem next_any {B base : Nat} (w w0 : World) (p c : Nat) (a : Option Addr) (len cap : Nat) (l : List Int) (at_ : Nat) (gv : Value) (L : List Ov) (h : NxAt base w w0 p c a len cap l at_ 0 gv L) (hV : Vars B w0) (hB : B ≤ base) (hat : at_ < len) (hL : L.length ≤ 16) :
    Calls Tryd.prog 35 #[.pointer (some ⟨p, 0, none⟩)] w0 fun e w' => e = .returned (.tuple #[]) ∧ Hid (NxOk base w w' p c a len cap l at_ L) := by
  by_cases h16 : L.length = 16
  · exact next_full w w0 p c a len cap l at_ gv L h hV hB hat hL h16
  · cases hk : kndB (nxK (l.drop at_))
    · exact next_kind w w0 p c a len cap l at_ gv L h hV hB hat hL h16 hk
    · obtain ⟨k, e, hk10⟩ := knd_nat hk
      by_cases h0 : k = 0
      · exact next_pad w w0 p c a len cap l at_ gv L h hV hB hat hL h16 (by rw [e, h0]; rfl)
      · exact next_other w w0 p c a len cap l at_ gv L h hV hB hat hL h16 k hk10 h0 e
theorem nxN_pos (m : List Int) : 1 ≤ nxN m := by unfold nxN; split <;> omega
/-- The options of bytes behind n others, and what is wrong. -/
def dec (n : Nat) (m : List Int) : List Po × Int :=
  if h : m = [] then ([], 0) else if nxE n m = 0 then (nxP m :: (dec (n + 1) (m.drop (nxN m))).1, (dec (n + 1) (m.drop (nxN m))).2) else ([], nxE n m)
termination_by m.length
decreasing_by all_goals (have := nxN_pos m; have : 0 < m.length := List.length_pos_iff.2 h; simp only [List.length_drop]; omega)
theorem dec_nil (n : Nat) : dec n [] = ([], 0) := by rw [dec]; rfl
theorem dec_ok {n : Nat} {m : List Int} (hm : m ≠ []) (h : nxE n m = 0) : dec n m = (nxP m :: (dec (n + 1) (m.drop (nxN m))).1, (dec (n + 1) (m.drop (nxN m))).2) := by
  rw [dec, dif_neg hm, if_pos h]
theorem dec_bad {n : Nat} {m : List Int} (hm : m ≠ []) (h : nxE n m ≠ 0) : dec n m = ([], nxE n m) := by
  rw [dec, dif_neg hm, if_neg h]
/-- Where Decode stands. -/
def DecAt (l : List Int) (at_ : Nat) (er : Int) (L : List Ov) : Prop :=
  (er = 0 → dec 0 l = (pos L ++ (dec L.length (l.drop at_)).1, (dec L.length (l.drop at_)).2)) ∧ (er ≠ 0 → (dec 0 l).2 = er)
theorem DecAt.next {l : List Int} {at_ : Nat} {L L2 : List Ov} {at2 : Nat} {er2 : Int} (h : DecAt l at_ 0 L) (hat : at_ < l.length) (he : er2 = nxE L.length (l.drop at_)) (h2 : er2 = 0 → pos L2 = pos L ++ [nxP (l.drop at_)] ∧ at2 = at_ + nxN (l.drop at_)) : DecAt l at2 er2 L2 := by
  have hm : l.drop at_ ≠ [] := fun e => by have := congrArg List.length e; simp at this; omega
  have h0 := h.1 rfl
  constructor
  · intro e
    obtain ⟨e1, e2⟩ := h2 e
    have hl : L2.length = L.length + 1 := by rw [← pos_len L2, e1, List.length_append, pos_len]; rfl
    rw [h0, dec_ok hm (he.symm.trans e), hl, e1, e2, List.drop_drop]; simp
  · intro e
    rw [h0, dec_bad hm (fun e3 => e (he.trans e3)), he]
def mz (er : Int) (len at_ : Nat) : Nat := if er = 0 then len - at_ + 1 else 0
/-- What Decode answers. -/
def DecOk (w : World) (l : List Int) (e : Ending) (w' : World) : Prop :=
  ∃ v L, e = .returned (.tuple #[v, .int .i64 (dec 0 l).2]) ∧ Below w.heap.size w w' ∧ w'.ownsRow w.heap.size 43 19 v L.length (ocs L) ∧ (∀ o ∈ L, Own2 w.heap.size w' o) ∧ pos L = (if (dec 0 l).2 = 0 then (dec 0 l).1 else []) ∧ L.length ≤ 16
set_option maxRecDepth 100000 in
set_option maxHeartbeats 1600000 in
theorem decode_any {B : Nat} (a : Option Addr) (len cap : Nat) (l : List Int) (w : World) (h : Lies .u8 w a len cap l) (ho : Oct l) (hl : len ≤ 100000) (hV : Vars B w) :
    Calls Tryd.prog 19 #[.slice a len cap] w (DecOk w l) := by
  have HL := hid h
  have HO := hid ho
  have HV := hid hV
  have HLl := hid h.1
  have hB : Hid (B ≤ w.heap.size) := hV.le
  clear h ho hV
  go_enter Tryd.func19, Tryd.ntmps19
  go_wp2_with fail
  refine (over_own a len cap l w HL.out HO.out hl).mono ?_
  rintro e w1 ⟨c, a2, cap2, rfl, hc, hb, hc1, hc2, hw⟩
  have N1 : Hid (NxAt w.heap.size w ((w1.alloc (.cells #[.pointer (some ⟨c, 0, none⟩), .slice none 0 0] 72))) w1.heap.size c a2 len cap2 l 0 0 (.slice none 0 0) []) := by
    have ba := balloc (Below.refl w1.heap.size w1) (.cells #[.pointer (some ⟨c, 0, none⟩), .slice none 0 0] 72)
    exact ⟨Row.new _ _ _, hc.below ba, own_below hw ba, World.ownsRow_nil _ _ _ _, fun o ho => (by cases ho), bthen hb ba, hc1, hb.size⟩
  clear hc hb hc1 hc2 hw
  go_wp2_with fail
  generalize w1.alloc (.cells #[.pointer (some ⟨c, 0, none⟩), .slice none 0 0] 72) = ws at *
  generalize w1.heap.size = p at *
  go_loopg [] (mz 0 len 0) (fun g wr => ∃ at2 er2 gv L, g = mz er2 len at2 ∧ L.length ≤ 16 ∧ Hid (NxAt w.heap.size w wr p c a2 len cap2 l at2 er2 gv L) ∧ Hid (DecAt l at2 er2 L))
  case atStart => exact ⟨0, 0, _, [], rfl, by simp, N1.out, fun _ => by simp [pos], fun e => absurd rfl e⟩
  case round =>
    obtain ⟨at2, er2, gv, L, hg, hL16, hN, hD⟩ := hrel
    have HG := hid hg
    have HL16 := hid hL16
    have r0 := hN.out.r.cell 0
    simp only [List.getElem?_toArray, List.getElem?_cons_zero] at r0
    have e0 := hN.out.cur.cell2
    clear hg hL16 N1
    by_cases her : er2 = 0
    · subst her
      by_cases hat : at2 < len
      · have hat1 : decide ((0 : Int) < (len : Int) - at2) = true := decide_eq_true (by omega)
        have HAt := hid hat
        clear hat
        go_wp2_with fail
        refine (err_any _ c 0 e0).mono ?_
        rintro e w2 ⟨rfl, rfl⟩
        go_wp2_with fail
        refine (left_any _ c a2 len cap2 at2 l 0 hN.out.cur).mono ?_
        rintro e w3 ⟨rfl, q, rfl⟩
        have r1 : (w2.drewN q).cell? ⟨p, 0, none⟩ = _ := r0
        have HNq := hid (hN.out.drewN q)
        generalize w2.drewN q = w4 at *
        go_wp2_with fail
        refine (next_any (B := B) w w4 p c a2 len cap2 l at2 gv L HNq.out (HV.out.rd (Below.refl _ _) HNq.out.below hB.out HNq.out.size) hB.out HAt.out HL16.out).mono ?_
        rintro e w5 ⟨rfl, hx⟩
        obtain ⟨at3, er3, gv3, L3, h1, h2, h3, h4⟩ := hx.out
        go_wp2_with fail
        go_roundg (mz er3 len at3)
        case measure =>
          rw [HG.out, mz, mz, if_pos rfl]
          have := h1.cur.le
          have := nxN_pos (l.drop at2)
          split
          · rename_i e; have := (h4 e).2; have := HAt.out; omega
          · omega
        case rel => exact ⟨at3, er3, gv3, L3, rfl, h3, h1, hD.out.next (by rw [HLl.out]; exact HAt.out) h2 h4⟩
      · have hle := hN.out.cur.le
        have hat1 : decide ((0 : Int) < (len : Int) - at2) = false := decide_eq_false (by omega)
        have hat2 : decide (at2 < len) = false := decide_eq_false hat
        have HAt : Hid (at2 = len) := by rw [Hid]; omega
        clear hat hle
        obtain ⟨ga, gc, rfl⟩ := owns_len hN.out.got
        go_wp2_with fail
        refine (err_any _ c 0 e0).mono ?_
        rintro e w2 ⟨rfl, rfl⟩
        go_wp2_with fail
        refine (left_any _ c a2 len cap2 at2 l 0 hN.out.cur).mono ?_
        rintro e w3 ⟨rfl, q, rfl⟩
        have r1 : (w2.drewN q).cell? ⟨p, 0, none⟩ = _ := r0
        have e1 : (w2.drewN q).cell? ⟨c, 2, none⟩ = _ := e0
        have HNq := hid (hN.out.drewN q)
        generalize w2.drewN q = w4 at *
        go_wp2_with fail
        refine (err_any _ c 0 e1).mono ?_
        rintro e w2 ⟨rfl, rfl⟩
        have r2 := HNq.out.r.cell 1
        simp only [List.getElem?_toArray, List.getElem?_cons_zero, List.getElem?_cons_succ] at r2
        go_wp2_with fail
        go_returns
        have hd : dec 0 l = (pos L, 0) := by
          have := hD.out.1 rfl
          rw [HAt.out, List.drop_of_length_le (by rw [HLl.out]; exact Nat.le_refl _), dec_nil] at this
          simpa using this
        refine ⟨.slice ga L.length gc, L, by rw [hd]; rfl, HNq.out.below, HNq.out.got, HNq.out.own, by rw [hd]; simp, HL16.out⟩
    · have he1 : (er2 == 0) = false := by simp [her]
      have he2 : (er2 != 0) = true := by rw [bne_iff_ne]; exact her
      have HER := hid her
      clear her
      go_wp2_with fail
      refine (err_any _ c er2 e0).mono ?_
      rintro e w2 ⟨rfl, rfl⟩
      go_wp2_with fail
      refine (err_any _ c er2 e0).mono ?_
      rintro e w2 ⟨rfl, rfl⟩
      go_wp2_with fail
      go_returns
      have hd := hD.out.2 HER.out
      refine ⟨.slice none 0 0, [], by rw [hd]; rfl, hN.out.below, World.ownsRow_nil _ _ _ _, fun o ho => (by cases ho), by rw [hd, if_neg HER.out]; rfl, by simp⟩
end Go.Proofs.YtbgogeojdibmkaaDoor
