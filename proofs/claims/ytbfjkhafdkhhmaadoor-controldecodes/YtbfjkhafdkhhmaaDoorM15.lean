/- Reading: Decode. · Whether options may be: allMay. · The document's answer: a kind's letters; Parts, Word, size. · What the document's own Digits answers: contracts. · The document's answer: Check. -/
import Derived.Test.YtbfjkhafdkhhmaaDoorOpNxo
import Derived.Test.YtbfjkhafdkhhmaaDoorM7
import Derived.Test.YtbfjkhafdkhhmaaDoorM6
import Derived.Test.YtbfjkhafdkhhmaaDoorM3
namespace Go.Proofs.YtbfjkhafdkhhmaaDoor
open Go.ChangeShapes Go.WideShapes Go.ChangeAt Go.RowKit Go.Deep
set_option linter.unusedVariables false
set_option linter.unusedSimpArgs false

theorem next_any {B base : Nat} (w w0 : World) (p c : Nat) (a : Option Addr) (len cap : Nat) (l : List Int) (at_ : Nat) (gv : Value) (L : List Ov) (h : NxAt base w w0 p c a len cap l at_ 0 gv L) (hV : Vars B w0) (hB : B ≤ base) (hat : at_ < len) (hL : L.length ≤ 16) :
    Calls Tryd.prog 99 #[.pointer (some ⟨p, 0, none⟩)] w0 fun e w' => e = .returned (.tuple #[]) ∧ Hid (NxOk base w w' p c a len cap l at_ L) := by
  by_cases h16 : L.length = 16
  · exact next_full w w0 p c a len cap l at_ gv L h hV hB hat hL h16
  · cases hk : kndB (nxK (l.drop at_))
    · exact next_kind w w0 p c a len cap l at_ gv L h hV hB hat hL h16 hk
    · obtain ⟨k, e, hk10⟩ := knd_nat hk
      by_cases h0 : k = 0
      · exact next_pad w w0 p c a len cap l at_ gv L h hV hB hat hL h16 (by rw [e, h0]; rfl)
      · exact next_other w w0 p c a len cap l at_ gv L h hV hB hat hL h16 k hk10 h0 e
theorem nxN_pos (m : List Int) : 1 ≤ nxN m := by unfold nxN; split <;> omega
/-- The options of bytes behind n others, and what is wrong. -/
def dec (n : Nat) (m : List Int) : List Po × Int :=
  if h : m = [] then ([], 0) else if nxE n m = 0 then (nxP m :: (dec (n + 1) (m.drop (nxN m))).1, (dec (n + 1) (m.drop (nxN m))).2) else ([], nxE n m)
termination_by m.length
decreasing_by all_goals (have := nxN_pos m; have : 0 < m.length := List.length_pos_iff.2 h; simp only [List.length_drop]; omega)
theorem dec_nil (n : Nat) : dec n [] = ([], 0) := by rw [dec]; rfl
theorem decO_ok {n : Nat} {m : List Int} (hm : m ≠ []) (h : nxE n m = 0) : dec n m = (nxP m :: (dec (n + 1) (m.drop (nxN m))).1, (dec (n + 1) (m.drop (nxN m))).2) := by
  rw [dec, dif_neg hm, if_pos h]
theorem dec_bad {n : Nat} {m : List Int} (hm : m ≠ []) (h : nxE n m ≠ 0) : dec n m = ([], nxE n m) := by
  rw [dec, dif_neg hm, if_neg h]
/-- Where Decode stands. -/
def DecAt (l : List Int) (at_ : Nat) (er : Int) (L : List Ov) : Prop :=
  (er = 0 → dec 0 l = (pos L ++ (dec L.length (l.drop at_)).1, (dec L.length (l.drop at_)).2)) ∧ (er ≠ 0 → (dec 0 l).2 = er)
theorem DecAt.next {l : List Int} {at_ : Nat} {L L2 : List Ov} {at2 : Nat} {er2 : Int} (h : DecAt l at_ 0 L) (hat : at_ < l.length) (he : er2 = nxE L.length (l.drop at_)) (h2 : er2 = 0 → pos L2 = pos L ++ [nxP (l.drop at_)] ∧ at2 = at_ + nxN (l.drop at_)) : DecAt l at2 er2 L2 := by
  have hm : l.drop at_ ≠ [] := fun e => by have := congrArg List.length e; simp at this; omega
  have h0 := h.1 rfl
  constructor
  · intro e
    obtain ⟨e1, e2⟩ := h2 e
    have hl : L2.length = L.length + 1 := by rw [← pos_len L2, e1, List.length_append, pos_len]; rfl
    rw [h0, decO_ok hm (he.symm.trans e), hl, e1, e2, List.drop_drop]; simp
  · intro e
    rw [h0, dec_bad hm (fun e3 => e (he.trans e3)), he]
def mz (er : Int) (len at_ : Nat) : Nat := if er = 0 then len - at_ + 1 else 0
/-- What Decode answers. -/
def DecOk (w : World) (l : List Int) (e : Ending) (w' : World) : Prop :=
  ∃ v L, e = .returned (.tuple #[v, .int .i64 (dec 0 l).2]) ∧ Below w.heap.size w w' ∧ w'.ownsRow w.heap.size 54 19 v L.length (ocs L) ∧ (∀ o ∈ L, Own2 w.heap.size w' o) ∧ pos L = (if (dec 0 l).2 = 0 then (dec 0 l).1 else []) ∧ L.length ≤ 16
set_option maxRecDepth 100000 in
set_option maxHeartbeats 1600000 in
theorem optDecode_any {B : Nat} (a : Option Addr) (len cap : Nat) (l : List Int) (w : World) (h : Lies .u8 w a len cap l) (ho : Oct l) (hl : len ≤ 100000) (hV : Vars B w) :
    Calls Tryd.prog 85 #[.slice a len cap] w (DecOk w l) := by
  have HL := hid h
  have HO := hid ho
  have HV := hid hV
  have HLl := hid h.1
  have hB : Hid (B ≤ w.heap.size) := hV.le
  clear h ho hV
  go_enter Tryd.func85, Tryd.ntmps85
  go_wp2_with fail
  refine (over_own a len cap l w HL.out HO.out hl).mono ?_
  rintro e w1 ⟨c, a2, cap2, rfl, hc, hb, hc1, hc2, hw⟩
  have N1 : Hid (NxAt w.heap.size w ((w1.alloc (.cells #[.pointer (some ⟨c, 0, none⟩), .slice none 0 0] 153))) w1.heap.size c a2 len cap2 l 0 0 (.slice none 0 0) []) := by
    have ba := balloc (Below.refl w1.heap.size w1) (.cells #[.pointer (some ⟨c, 0, none⟩), .slice none 0 0] 153)
    exact ⟨Row.new _ _ _, hc.below ba, own_below hw ba, World.ownsRow_nil _ _ _ _, fun o ho => (by cases ho), bthen hb ba, hc1, hb.size⟩
  clear hc hb hc1 hc2 hw
  go_wp2_with fail
  generalize w1.alloc (.cells #[.pointer (some ⟨c, 0, none⟩), .slice none 0 0] 153) = ws at *
  generalize w1.heap.size = p at *
  go_loopg [] (mz 0 len 0) (fun g wr => ∃ at2 er2 gv L, g = mz er2 len at2 ∧ L.length ≤ 16 ∧ Hid (NxAt w.heap.size w wr p c a2 len cap2 l at2 er2 gv L) ∧ Hid (DecAt l at2 er2 L))
  case atStart => exact ⟨0, 0, _, [], rfl, by simp, N1.out, fun _ => by simp [pos], fun e => absurd rfl e⟩
  case round =>
    obtain ⟨at2, er2, gv, L, hg, hL16, hN, hD⟩ := hrel
    have HG := hid hg
    have HL16 := hid hL16
    have r0 := hN.out.r.cell 0
    simp only [List.getElem?_toArray, List.getElem?_cons_zero] at r0
    have e0 := hN.out.cur.cell2
    clear hg hL16 N1
    by_cases her : er2 = 0
    · subst her
      by_cases hat : at2 < len
      · have hat1 : decide ((0 : Int) < (len : Int) - at2) = true := decide_eq_true (by omega)
        have HAt := hid hat
        clear hat
        go_wp2_with fail
        refine (err_any _ c 0 e0).mono ?_
        rintro e w2 ⟨rfl, rfl⟩
        go_wp2_with fail
        refine (left_any _ c a2 len cap2 at2 l 0 hN.out.cur).mono ?_
        rintro e w3 ⟨rfl, q, rfl⟩
        have r1 : (w2.drewN q).cell? ⟨p, 0, none⟩ = _ := r0
        have HNq := hid (hN.out.drewN q)
        generalize w2.drewN q = w4 at *
        go_wp2_with fail
        refine (next_any (B := B) w w4 p c a2 len cap2 l at2 gv L HNq.out (HV.out.rd (Below.refl _ _) HNq.out.below hB.out HNq.out.size) hB.out HAt.out HL16.out).mono ?_
        rintro e w5 ⟨rfl, hx⟩
        obtain ⟨at3, er3, gv3, L3, h1, h2, h3, h4⟩ := hx.out
        go_wp2_with fail
        go_roundg (mz er3 len at3)
        case measure =>
          rw [HG.out, mz, mz, if_pos rfl]
          have := h1.cur.le
          have := nxN_pos (l.drop at2)
          split
          · rename_i e; have := (h4 e).2; have := HAt.out; omega
          · omega
        case rel => exact ⟨at3, er3, gv3, L3, rfl, h3, h1, hD.out.next (by rw [HLl.out]; exact HAt.out) h2 h4⟩
      · have hle := hN.out.cur.le
        have hat1 : decide ((0 : Int) < (len : Int) - at2) = false := decide_eq_false (by omega)
        have hat2 : decide (at2 < len) = false := decide_eq_false hat
        have HAt : Hid (at2 = len) := by rw [Hid]; omega
        clear hat hle
        obtain ⟨ga, gc, rfl⟩ := owns_len hN.out.got
        go_wp2_with fail
        refine (err_any _ c 0 e0).mono ?_
        rintro e w2 ⟨rfl, rfl⟩
        go_wp2_with fail
        refine (left_any _ c a2 len cap2 at2 l 0 hN.out.cur).mono ?_
        rintro e w3 ⟨rfl, q, rfl⟩
        have r1 : (w2.drewN q).cell? ⟨p, 0, none⟩ = _ := r0
        have e1 : (w2.drewN q).cell? ⟨c, 2, none⟩ = _ := e0
        have HNq := hid (hN.out.drewN q)
        generalize w2.drewN q = w4 at *
        go_wp2_with fail
        refine (err_any _ c 0 e1).mono ?_
        rintro e w2 ⟨rfl, rfl⟩
        have r2 := HNq.out.r.cell 1
        simp only [List.getElem?_toArray, List.getElem?_cons_zero, List.getElem?_cons_succ] at r2
        go_wp2_with fail
        go_returns
        have hd : dec 0 l = (pos L, 0) := by
          have := hD.out.1 rfl
          rw [HAt.out, List.drop_of_length_le (by rw [HLl.out]; exact Nat.le_refl _), dec_nil] at this
          simpa using this
        refine ⟨.slice ga L.length gc, L, by rw [hd]; rfl, HNq.out.below, HNq.out.got, HNq.out.own, by rw [hd]; simp, HL16.out⟩
    · have he1 : (er2 == 0) = false := by simp [her]
      have he2 : (er2 != 0) = true := by rw [bne_iff_ne]; exact her
      have HER := hid her
      clear her
      go_wp2_with fail
      refine (err_any _ c er2 e0).mono ?_
      rintro e w2 ⟨rfl, rfl⟩
      go_wp2_with fail
      refine (err_any _ c er2 e0).mono ?_
      rintro e w2 ⟨rfl, rfl⟩
      go_wp2_with fail
      go_returns
      have hd := hD.out.2 HER.out
      refine ⟨.slice none 0 0, [], by rw [hd]; rfl, hN.out.below, World.ownsRow_nil _ _ _ _, fun o ho => (by cases ho), by rw [hd, if_neg HER.out]; rfl, by simp⟩
end Go.Proofs.YtbfjkhafdkhhmaaDoor

namespace Go.Proofs.YtbfjkhafdkhhmaaDoor
open Go.ChangeShapes Go.WideShapes Go.ChangeAt Go.RowKit Go.Deep
set_option linter.unusedVariables false
set_option linter.unusedSimpArgs false

theorem allMay1_any {B : Nat} (o : Ov) (g : Nat) (c : Int) (w : World) (hc : w.cell? ⟨g, 0, none⟩ = some (.int .i64 c)) (hV : CV B w) :
    Calls Tryd.prog 91 #[.agg o.cs, .pointer (some ⟨g, 0, none⟩)] w fun e w' => e = .returned (.bool (!mayB c o.k)) ∧ Below w.heap.size w w' := by
  have HR0 := hid (Row.new w 54 o.cs)
  have B0 := hid (balloc (Below.refl w.heap.size w) (.cells o.cs 54))
  have V0 := hid (hV.below B0.out)
  have C0 := hid ((B0.out.cell (p := ⟨g, 0, none⟩) (World.block_lt_of_cell? w _ hc)).trans hc)
  clear hV hc
  go_enter Tryd.func91, Tryd.ntmps91
  go_upto_region 1 with fail
  generalize hw1 : w.alloc (.cells o.cs 54) = w1 at *
  have c0 := (HR0.out.cell 0).trans o.at0
  have d0 := C0.out
  clear hw1
  go_wp2_with fail
  refine (may_any c o.k _ V0.out).mono ?_
  rintro e w1 ⟨rfl, rfl⟩
  go_wp2_with fail
  go_ret
  exact ⟨rfl, B0.out⟩
/-- Where is the first option that may not be? -/
def notAt (c : Int) (L : List Ov) (r : Int) : Prop := (r = -1 ∧ ∀ o ∈ L, mayB c o.k = true) ∨ ∃ i : Nat, i < L.length ∧ r = i ∧ mayB c (L.getD i Ov.zero).k = false
set_option maxRecDepth 100000 in
set_option maxHeartbeats 800000 in
theorem indexMay_any {B : Nat} (a : Option Addr) (n cap : Nat) (L : List Ov) (g : Nat) (c : Int) (w : World) (hL : Opts w a n cap L) (hc : w.cell? ⟨g, 0, none⟩ = some (.int .i64 c)) (hV : CV B w) :
    Calls Tryd.prog 71 #[.slice a n cap, .func (.func 91) #[] #[.pointer (some ⟨g, 0, none⟩)]] w fun e w' => (∃ r : Int, e = .returned (.int .i64 r) ∧ Hid (notAt c L r)) ∧ Below w.heap.size w w' := by
  have k1 := Nat.le_trans hL.le hL.max
  unfold maxLen at k1
  have HL := hid hL
  have HV := hid hV
  have HC := hid hc
  have ll := hid hL.len
  clear hL hV hc
  go_enter Tryd.func71, Tryd.ntmps71
  go_wp2_with fail
  go_loopw [8] (fun i wr => ∃ j : Nat, j ≤ n ∧ i = .int .i64 j ∧ Hid (∀ i, i < j → mayB c (L.getD i Ov.zero).k = true) ∧ Hid (Below w.heap.size w wr)) (fun i _ => n - (intOf i).toNat)
  case atStart => exact ⟨0, Nat.zero_le _, rfl, (fun i hi => by omega), Below.refl _ _⟩
  case round =>
    obtain ⟨j, hj, rfl, hno, hb⟩ := hrel
    by_cases hlt : j < n
    · have hlt' : (j : Int) < (n : Int) := by omega
      obtain ⟨b1, off1, rfl, hp1⟩ := (HL.out.below hb.out).cell j hlt
      have ok1 := (HL.out.below hb.out).at j hlt
      generalize hoo : L.getD j Ov.zero = o at *
      have HOO := hid hoo
      have P1 := hid hp1
      have A1 := hid ok1.ad
      have V1 := hid (HV.out.below hb.out)
      have C1 := hid ((hb.out.cell (p := ⟨g, 0, none⟩) (World.block_lt_of_cell? w _ HC.out)).trans HC.out)
      clear hp1 ok1 hoo
      go_wp2_with (refine ldOo o43 _ rfl rfl _ _ rfl o A1.out P1.out ?_)
      refine (allMay1_any o g c _ C1.out V1.out).mono ?_
      rintro e w2 ⟨rfl, hb2⟩
      have B2 := hid (bthen hb.out hb2)
      clear hb2
      cases hh : mayB c o.k
      · go_wp2_with fail
        go_ret
        refine ⟨⟨_, rfl, .inr ⟨j, by rw [ll.out]; exact hlt, rfl, by rw [HOO.out]; exact hh⟩⟩, B2.out⟩
      · go_wp2_with fail
        go_roundw
        case rel =>
          refine ⟨j + 1, by omega, by go_num, ?_, B2.out⟩
          intro i hi
          by_cases hij : i = j
          · rw [hij, HOO.out]; exact hh
          · exact hno.out i (by omega)
        case measure => simp [intOf]; omega
    · obtain rfl : j = n := by omega
      go_wp2_with fail
      go_ret
      refine ⟨⟨_, rfl, .inl ⟨rfl, fun o ho => ?_⟩⟩, hb.out⟩
      obtain ⟨i, hi, rfl⟩ := List.mem_iff_getElem.1 ho
      have := hno.out i (by rw [← ll.out]; exact hi)
      simpa [hi] using this
theorem notAt_all {c : Int} {L : List Ov} {r : Int} (h : notAt c L r) : decide (0 ≤ r) = !allM c (pos L) := by
  rcases h with ⟨rfl, h⟩ | ⟨i, hi, rfl, h⟩
  · have : allM c (pos L) = true := by simp [allM, pos]; exact h
    rw [this]; rfl
  · have : allM c (pos L) = false := by
      rw [allM, List.all_eq_false]
      refine ⟨(L.getD i Ov.zero).p, ?_, by simpa [Ov.p] using h⟩
      simp [pos, hi]
      exact ⟨L[i], List.getElem_mem _, rfl⟩
    rw [this]; simp
theorem containsMay_any {B : Nat} (a : Option Addr) (n cap : Nat) (L : List Ov) (g : Nat) (c : Int) (w : World) (hL : Opts w a n cap L) (hc : w.cell? ⟨g, 0, none⟩ = some (.int .i64 c)) (hV : CV B w) :
    Calls Tryd.prog 90 #[.slice a n cap, .func (.func 91) #[] #[.pointer (some ⟨g, 0, none⟩)]] w fun e w' => e = .returned (.bool (!allM c (pos L))) ∧ Below w.heap.size w w' := by
  have HL := hid hL
  have HV := hid hV
  have HC := hid hc
  clear hL hV hc
  go_enter Tryd.func90, Tryd.ntmps90
  go_wp2_with fail
  refine (indexMay_any a n cap L g c _ HL.out HC.out HV.out).mono ?_
  rintro e w1 ⟨⟨r, rfl, hr⟩, hb⟩
  have HB := hid hb
  have HR := hid (notAt_all hr.out)
  clear hr hb
  go_wp2_with fail
  go_ret
  exact ⟨ret_bool HR.out, HB.out⟩
theorem allMay_any {B : Nat} (c : Int) (a : Option Addr) (n cap : Nat) (L : List Ov) (w : World) (hL : Opts w a n cap L) (hV : CV B w) :
    Calls Tryd.prog 77 #[.int .i64 c, .slice a n cap] w fun e w' => e = .returned (.bool (allM c (pos L))) ∧ Below w.heap.size w w' := by
  have hmf : ∀ (fn : Fn) (first cap : Array Value) (w : World), (Instr.makeFunc fn first cap).run Tryd.prog w = .ok (.func fn first cap) w := fun _ _ _ _ => rfl
  have C0 := hid (((Row.new w 3 #[.int .i64 c]).cell 0).trans rfl)
  have B0 := hid (balloc (Below.refl w.heap.size w) (.cells #[.int .i64 c] 3))
  have L0 := hid (hL.below B0.out)
  have V0 := hid (hV.below B0.out)
  clear hL hV
  go_enter Tryd.func77, Tryd.ntmps77
  go_wp2_with fail
  generalize hw1 : w.alloc (.cells #[.int .i64 c] 3) = w1 at *
  clear hw1
  refine (containsMay_any a n cap L w.heap.size c _ L0.out C0.out V0.out).mono ?_
  rintro e w2 ⟨rfl, hb⟩
  have B2 := hid (bthen B0.out hb)
  clear hb
  go_wp2_with fail
  go_ret
  exact ⟨ret_bool (by simp), B2.out⟩
end Go.Proofs.YtbfjkhafdkhhmaaDoor

namespace Go.Proofs.YtbfjkhafdkhhmaaDoor
open Go.ChangeShapes Go.WideShapes Go.ChangeAt Go.RowKit Go.Deep
set_option linter.unusedVariables false
set_option linter.unusedSimpArgs false

def chsL : List ByteArray := [⟨#[]⟩, ⟨#[120]⟩, ⟨#[116]⟩, ⟨#[112, 49, 52, 97]⟩, ⟨#[49, 49, 49, 49, 50, 50, 50, 122, 49, 50]⟩, ⟨#[49, 112, 97]⟩, ⟨#[49, 49, 49, 49]⟩, ⟨#[49, 49, 97, 49]⟩, ⟨#[112, 49, 52, 52, 113, 97]⟩, ⟨#[52]⟩]
/-- A kind's letters. -/
def chs (k : Nat) : ByteArray := chsL.getD k ⟨#[]⟩
def lets (n : Int) : ByteArray := if kndB n = true then chs n.toNat else ⟨#[63]⟩
theorem chs_at (k : Nat) (hk : k < 10) : (#[Value.string ⟨#[]⟩, .string ⟨#[120]⟩, .string ⟨#[116]⟩, .string ⟨#[112, 49, 52, 97]⟩, .string ⟨#[49, 49, 49, 49, 50, 50, 50, 122, 49, 50]⟩, .string ⟨#[49, 112, 97]⟩, .string ⟨#[49, 49, 49, 49]⟩, .string ⟨#[49, 49, 97, 49]⟩, .string ⟨#[112, 49, 52, 52, 113, 97]⟩, .string ⟨#[52]⟩] : Array Value)[k]? = some (.string (chs k)) := by
  match k, hk with
  | 0, _ => rfl
  | 1, _ => rfl
  | 2, _ => rfl
  | 3, _ => rfl
  | 4, _ => rfl
  | 5, _ => rfl
  | 6, _ => rfl
  | 7, _ => rfl
  | 8, _ => rfl
  | 9, _ => rfl
theorem wrd_at (k : Nat) (hk : k < 10) : (#[Value.string ⟨#[112, 97, 100]⟩, .string ⟨#[112, 97, 100, 115]⟩, .string ⟨#[109, 101, 116, 114, 105, 99]⟩, .string ⟨#[114, 111, 117, 116, 101]⟩, .string ⟨#[99, 111, 110, 102, 105, 103]⟩, .string ⟨#[116, 97, 114, 103, 101, 116]⟩, .string ⟨#[116, 114, 97, 110, 115, 105, 116]⟩, .string ⟨#[115, 111, 108, 105, 99, 105, 116, 101, 100]⟩, .string ⟨#[112, 114, 101, 102, 105, 120]⟩, .string ⟨#[100, 101, 115, 99, 114, 105, 112, 116, 111, 114]⟩] : Array Value)[k]? = some (.string (wrd k)) := by
  match k, hk with
  | 0, _ => rfl
  | 1, _ => rfl
  | 2, _ => rfl
  | 3, _ => rfl
  | 4, _ => rfl
  | 5, _ => rfl
  | 6, _ => rfl
  | 7, _ => rfl
  | 8, _ => rfl
  | 9, _ => rfl
set_option maxHeartbeats 400000 in
theorem parts_any (n : Int) (w : World) : Calls Tryd.prog 69 #[.int .i64 n] w fun e w' => e = .returned (.string (lets n)) ∧ Below w.heap.size w w' := by
  have B0 := hid (balloc (Below.refl w.heap.size w) (.cells #[Value.string ⟨#[]⟩, .string ⟨#[120]⟩, .string ⟨#[116]⟩, .string ⟨#[112, 49, 52, 97]⟩, .string ⟨#[49, 49, 49, 49, 50, 50, 50, 122, 49, 50]⟩, .string ⟨#[49, 112, 97]⟩, .string ⟨#[49, 49, 49, 49]⟩, .string ⟨#[49, 49, 97, 49]⟩, .string ⟨#[112, 49, 52, 52, 113, 97]⟩, .string ⟨#[52]⟩] 146))
  have R0 := hid (Row.new w 146 #[Value.string ⟨#[]⟩, .string ⟨#[120]⟩, .string ⟨#[116]⟩, .string ⟨#[112, 49, 52, 97]⟩, .string ⟨#[49, 49, 49, 49, 50, 50, 50, 122, 49, 50]⟩, .string ⟨#[49, 112, 97]⟩, .string ⟨#[49, 49, 49, 49]⟩, .string ⟨#[49, 49, 97, 49]⟩, .string ⟨#[112, 49, 52, 52, 113, 97]⟩, .string ⟨#[52]⟩])
  cases hk : kndB n
  · have HV : Hid (lets n = ⟨#[63]⟩) := by simp [Hid, lets, hk]
    have hn : n < 0 ∨ 9 < n := by simp [kndB] at hk; omega
    rcases hn with hn | hn
    · have e0 : decide (n < 0) = true := decide_eq_true hn
      go_enter Tryd.func69, Tryd.ntmps69
      go_upto_region 2 with fail
      generalize w.alloc (.cells #[Value.string ⟨#[]⟩, .string ⟨#[120]⟩, .string ⟨#[116]⟩, .string ⟨#[112, 49, 52, 97]⟩, .string ⟨#[49, 49, 49, 49, 50, 50, 50, 122, 49, 50]⟩, .string ⟨#[49, 112, 97]⟩, .string ⟨#[49, 49, 49, 49]⟩, .string ⟨#[49, 49, 97, 49]⟩, .string ⟨#[112, 49, 52, 52, 113, 97]⟩, .string ⟨#[52]⟩] 146) = w1 at *
      go_wp2_with fail
      go_ret
      exact ⟨ret_str HV.out.symm, B0.out⟩
    · have e0 : decide (n < 0) = false := decide_eq_false (by omega)
      have e1 : decide (9 < n) = true := decide_eq_true hn
      go_enter Tryd.func69, Tryd.ntmps69
      go_upto_region 2 with fail
      generalize w.alloc (.cells #[Value.string ⟨#[]⟩, .string ⟨#[120]⟩, .string ⟨#[116]⟩, .string ⟨#[112, 49, 52, 97]⟩, .string ⟨#[49, 49, 49, 49, 50, 50, 50, 122, 49, 50]⟩, .string ⟨#[49, 112, 97]⟩, .string ⟨#[49, 49, 49, 49]⟩, .string ⟨#[49, 49, 97, 49]⟩, .string ⟨#[112, 49, 52, 52, 113, 97]⟩, .string ⟨#[52]⟩] 146) = w1 at *
      go_wp2_with fail
      go_ret
      exact ⟨ret_str HV.out.symm, B0.out⟩
  · obtain ⟨k, rfl, hk10⟩ := knd_nat hk
    have HV : Hid (lets k = chs k) := by simp [Hid, lets, hk]
    have e0 : decide ((k : Int) < 0) = false := decide_eq_false (by omega)
    have e1 : decide ((9 : Int) < (k : Int)) = false := decide_eq_false (by omega)
    have e2 : decide (9 < k) = false := decide_eq_false (by omega)
    have hk10' : (k : Int) < 10 := by omega
    clear hk
    go_enter Tryd.func69, Tryd.ntmps69
    go_upto_region 2 with fail
    generalize w.alloc (.cells #[Value.string ⟨#[]⟩, .string ⟨#[120]⟩, .string ⟨#[116]⟩, .string ⟨#[112, 49, 52, 97]⟩, .string ⟨#[49, 49, 49, 49, 50, 50, 50, 122, 49, 50]⟩, .string ⟨#[49, 112, 97]⟩, .string ⟨#[49, 49, 49, 49]⟩, .string ⟨#[49, 49, 97, 49]⟩, .string ⟨#[112, 49, 52, 52, 113, 97]⟩, .string ⟨#[52]⟩] 146) = w1 at *
    have ck := (R0.out.cell k).trans (chs_at k hk10)
    go_wp2_with fail
    go_ret
    exact ⟨ret_str HV.out.symm, B0.out⟩
/-- A letter's bytes, if it is a number. -/
def szc (c : Int) : Int := if c = 49 ∨ c = 112 ∨ c = 122 ∨ c = 120 then 1 else if c = 50 then 2 else if c = 52 ∨ c = 113 then 4 else 0
set_option maxHeartbeats 800000 in
theorem rsize_any (c : Int) (w : World) : Calls Tryd.prog 75 #[.int .u8 c] w fun e w' => e = .returned (.int .i64 (szc c)) ∧ w' = w := by
  have key : ∀ b1 b2 b3 b4 b5 b6 b7 : Bool, (c == 49) = b1 → (c == 112) = b2 → (c == 122) = b3 → (c == 120) = b4 → (c == 50) = b5 → (c == 52) = b6 → (c == 113) = b7 → szc c = (if (b1 || (b2 || (b3 || b4))) = true then 1 else if b5 = true then 2 else if (b6 || b7) = true then 4 else 0) → Calls Tryd.prog 75 #[.int .u8 c] w fun e w' => e = .returned (.int .i64 (szc c)) ∧ w' = w := by
    intro b1 b2 b3 b4 b5 b6 b7 h1 h2 h3 h4 h5 h6 h7 hs
    have HS := hid hs
    generalize szc c = s at *
    clear hs
    cases b1
    · cases b2
      · cases b3
        · cases b4
          · cases b5
            · cases b6
              · cases b7
                all_goals (go_enter Tryd.func75, Tryd.ntmps75; go_wp2; go_ret; exact ⟨ret_int HS.out.symm, rfl⟩)
              · go_enter Tryd.func75, Tryd.ntmps75; go_wp2; go_ret; exact ⟨ret_int HS.out.symm, rfl⟩
            · go_enter Tryd.func75, Tryd.ntmps75; go_wp2; go_ret; exact ⟨ret_int HS.out.symm, rfl⟩
          · go_enter Tryd.func75, Tryd.ntmps75; go_wp2; go_ret; exact ⟨ret_int HS.out.symm, rfl⟩
        · go_enter Tryd.func75, Tryd.ntmps75; go_wp2; go_ret; exact ⟨ret_int HS.out.symm, rfl⟩
      · go_enter Tryd.func75, Tryd.ntmps75; go_wp2; go_ret; exact ⟨ret_int HS.out.symm, rfl⟩
    · go_enter Tryd.func75, Tryd.ntmps75; go_wp2; go_ret; exact ⟨ret_int HS.out.symm, rfl⟩
  refine key _ _ _ _ _ _ _ rfl rfl rfl rfl rfl rfl rfl ?_
  unfold szc
  simp only [Bool.or_eq_true, beq_iff_eq]
end Go.Proofs.YtbfjkhafdkhhmaaDoor

namespace Go.Proofs.YtbfjkhafdkhhmaaDoor
open Go.ChangeShapes Go.WideShapes Go.ChangeAt Go.RowKit
set_option linter.unusedVariables false
set_option linter.unusedSimpArgs false

set_option maxHeartbeats 1000000 in
theorem digits1 (n : Int) (w : World) (h0 : 0 ≤ n) (h63 : n ≤ 9223372036854775807) :
    Calls Tryd.prog 76 #[.int .i64 1, .int .i64 n] w fun e w' => e = .returned (.tuple #[.slice (some ⟨w.heap.size, 0, none⟩) 1 1, .bool (okB 1 n)]) ∧ w' = w.alloc (.cells (u8s (digs 1 n)).toArray 5) := by
  have hmk : ∀ w, (Instr.makeSlice 33 (.int .i64 1) (.int .i64 1)).run Tryd.prog w = .ok (.slice (some ⟨w.heap.size, 0, none⟩) 1 1) (w.alloc (.cells #[.int .u8 0] 5)) := fun _ => by kernel_rfl
  have hn : decide (n < 0) = false := by simp; omega
  have HD : Hid ((u8s (digs 1 n)).toArray = #[.int .u8 (n % 256)]) := by simp [Hid, u8s, digs]
  have HK : Hid (okB 1 n = (n / 256 == 0)) := by
    rw [Hid, Bool.eq_iff_iff]; simp [okB, top]; omega
  go_enter Tryd.func76, Tryd.ntmps76
  go_wp2
  refine wp_loop_rounds 2 ?_
  repeat (rw [rounds_succ]; go_wp2)
  go_ret2
  exact ⟨by rw [HK.out]; rfl, by rw [HD.out]⟩

theorem digits1_neg (n : Int) (w : World) (h0 : n < 0) :
    Calls Tryd.prog 76 #[.int .i64 1, .int .i64 n] w fun e w' => e = .returned (.tuple #[.slice none 0 0, .bool false]) ∧ Below w.heap.size w w' := by
  have hmk : ∀ w, (Instr.makeSlice 33 (.int .i64 1) (.int .i64 1)).run Tryd.prog w = .ok (.slice (some ⟨w.heap.size, 0, none⟩) 1 1) (w.alloc (.cells #[.int .u8 0] 5)) := fun _ => by kernel_rfl
  go_enter Tryd.func76, Tryd.ntmps76
  go_wp2
  go_ret2
  exact ⟨rfl, balloc (Below.refl _ _) _⟩

set_option maxHeartbeats 1000000 in
theorem digits2 (n : Int) (w : World) (h0 : 0 ≤ n) (h63 : n ≤ 9223372036854775807) :
    Calls Tryd.prog 76 #[.int .i64 2, .int .i64 n] w fun e w' => e = .returned (.tuple #[.slice (some ⟨w.heap.size, 0, none⟩) 2 2, .bool (okB 2 n)]) ∧ w' = w.alloc (.cells (u8s (digs 2 n)).toArray 5) := by
  have hmk : ∀ w, (Instr.makeSlice 33 (.int .i64 2) (.int .i64 2)).run Tryd.prog w = .ok (.slice (some ⟨w.heap.size, 0, none⟩) 2 2) (w.alloc (.cells #[.int .u8 0, .int .u8 0] 5)) := fun _ => by kernel_rfl
  have hn : decide (n < 0) = false := by simp; omega
  have HD : Hid ((u8s (digs 2 n)).toArray = #[.int .u8 (n / 256 % 256), .int .u8 (n % 256)]) := by simp [Hid, u8s, digs]
  have HK : Hid (okB 2 n = (n / 256 / 256 == 0)) := by
    rw [Hid, Bool.eq_iff_iff]; simp [okB, top]; omega
  go_enter Tryd.func76, Tryd.ntmps76
  go_wp2
  refine wp_loop_rounds 3 ?_
  repeat (rw [rounds_succ]; go_wp2)
  go_ret2
  exact ⟨by rw [HK.out]; rfl, by rw [HD.out]⟩

theorem digits2_neg (n : Int) (w : World) (h0 : n < 0) :
    Calls Tryd.prog 76 #[.int .i64 2, .int .i64 n] w fun e w' => e = .returned (.tuple #[.slice none 0 0, .bool false]) ∧ Below w.heap.size w w' := by
  have hmk : ∀ w, (Instr.makeSlice 33 (.int .i64 2) (.int .i64 2)).run Tryd.prog w = .ok (.slice (some ⟨w.heap.size, 0, none⟩) 2 2) (w.alloc (.cells #[.int .u8 0, .int .u8 0] 5)) := fun _ => by kernel_rfl
  go_enter Tryd.func76, Tryd.ntmps76
  go_wp2
  go_ret2
  exact ⟨rfl, balloc (Below.refl _ _) _⟩

set_option maxHeartbeats 1000000 in
theorem digits4 (n : Int) (w : World) (h0 : 0 ≤ n) (h63 : n ≤ 9223372036854775807) :
    Calls Tryd.prog 76 #[.int .i64 4, .int .i64 n] w fun e w' => e = .returned (.tuple #[.slice (some ⟨w.heap.size, 0, none⟩) 4 4, .bool (okB 4 n)]) ∧ w' = w.alloc (.cells (u8s (digs 4 n)).toArray 5) := by
  have hmk : ∀ w, (Instr.makeSlice 33 (.int .i64 4) (.int .i64 4)).run Tryd.prog w = .ok (.slice (some ⟨w.heap.size, 0, none⟩) 4 4) (w.alloc (.cells #[.int .u8 0, .int .u8 0, .int .u8 0, .int .u8 0] 5)) := fun _ => by kernel_rfl
  have hn : decide (n < 0) = false := by simp; omega
  have HD : Hid ((u8s (digs 4 n)).toArray = #[.int .u8 (n / 256 / 256 / 256 % 256), .int .u8 (n / 256 / 256 % 256), .int .u8 (n / 256 % 256), .int .u8 (n % 256)]) := by simp [Hid, u8s, digs]; omega
  have HK : Hid (okB 4 n = (n / 256 / 256 / 256 / 256 == 0)) := by
    rw [Hid, Bool.eq_iff_iff]; simp [okB, top]; omega
  go_enter Tryd.func76, Tryd.ntmps76
  go_wp2
  refine wp_loop_rounds 5 ?_
  repeat (rw [rounds_succ]; go_wp2)
  go_ret2
  exact ⟨by rw [HK.out]; rfl, by rw [HD.out]⟩

theorem digits4_neg (n : Int) (w : World) (h0 : n < 0) :
    Calls Tryd.prog 76 #[.int .i64 4, .int .i64 n] w fun e w' => e = .returned (.tuple #[.slice none 0 0, .bool false]) ∧ Below w.heap.size w w' := by
  have hmk : ∀ w, (Instr.makeSlice 33 (.int .i64 4) (.int .i64 4)).run Tryd.prog w = .ok (.slice (some ⟨w.heap.size, 0, none⟩) 4 4) (w.alloc (.cells #[.int .u8 0, .int .u8 0, .int .u8 0, .int .u8 0] 5)) := fun _ => by kernel_rfl
  go_enter Tryd.func76, Tryd.ntmps76
  go_wp2
  go_ret2
  exact ⟨rfl, balloc (Below.refl _ _) _⟩

theorem okB_neg (size n : Int) (h : n < 0) : okB size n = false := by simp [okB]; omega

theorem wf_i64 {n : Int} (h : (Lit.int .i64 n).wf = true) : -9223372036854775808 ≤ n ∧ n ≤ 9223372036854775807 := by
  simp [Lit.wf, IntKind.min, IntKind.max, IntKind.bits, IntKind.signed] at h; omega

theorem digits_any (size n : Int) (w : World) (hz : sizeB size = true) (hw : (Lit.int .i64 n).wf = true) :
    Calls Tryd.prog 76 #[.int .i64 size, .int .i64 n] w fun e w' => ∃ a k c, e = .returned (.tuple #[.slice a k c, .bool (okB size n)]) ∧ Below w.heap.size w w' ∧ (okB size n = true → k = (digs size n).length ∧ Lies .u8 w' a k c (digs size n)) := by
  have h63 := (wf_i64 hw).2
  by_cases h0 : 0 ≤ n
  · have key : ∀ k : Nat, k = (digs size n).length → k ≤ 100 → Lies .u8 (w.alloc (.cells (u8s (digs size n)).toArray 5)) (some ⟨w.heap.size, 0, none⟩) k k (digs size n) := by
      intro k hk h100
      subst hk
      exact lies_new .u8 w _ 5 (digs size n) (by simp [u8s]) h100
    have hb : Below w.heap.size w (w.alloc (.cells (u8s (digs size n)).toArray 5)) := balloc (Below.refl _ _) _
    rcases sizeB_cases hz with rfl | rfl | rfl
    · refine (digits1 n w h0 h63).mono ?_
      rintro e w' ⟨rfl, rfl⟩
      exact ⟨_, _, _, rfl, hb, fun _ => ⟨rfl, key 1 rfl (by omega)⟩⟩
    · refine (digits2 n w h0 h63).mono ?_
      rintro e w' ⟨rfl, rfl⟩
      exact ⟨_, _, _, rfl, hb, fun _ => ⟨rfl, key 2 rfl (by omega)⟩⟩
    · refine (digits4 n w h0 h63).mono ?_
      rintro e w' ⟨rfl, rfl⟩
      exact ⟨_, _, _, rfl, hb, fun _ => ⟨rfl, key 4 rfl (by omega)⟩⟩
  · have hk := okB_neg size n (by omega)
    rw [hk]
    rcases sizeB_cases hz with rfl | rfl | rfl
    · refine (digits1_neg n w (by omega)).mono ?_
      rintro e w' ⟨rfl, hb⟩
      exact ⟨_, _, _, rfl, hb, fun h => by cases h⟩
    · refine (digits2_neg n w (by omega)).mono ?_
      rintro e w' ⟨rfl, hb⟩
      exact ⟨_, _, _, rfl, hb, fun h => by cases h⟩
    · refine (digits4_neg n w (by omega)).mono ?_
      rintro e w' ⟨rfl, hb⟩
      exact ⟨_, _, _, rfl, hb, fun h => by cases h⟩

end Go.Proofs.YtbfjkhafdkhhmaaDoor

namespace Go.Proofs.YtbfjkhafdkhhmaaDoor
open Go.ChangeShapes Go.WideShapes Go.ChangeAt Go.RowKit Go.Deep
set_option linter.unusedVariables false
set_option linter.unusedSimpArgs false

/-- A kind's letters as numbers. -/
def cl (k : Nat) : List Int := (chs k).data.toList.map (fun b => (b.toNat : Int))
theorem cl_len (k : Nat) : (cl k).length = (chs k).size := by rw [cl, List.length_map, Array.length_toList]; rfl
theorem chs_ne' : ∀ k, k < 10 → ((chs k).data.toList == [63]) = false := by decide
theorem chs_ne (k : Nat) (hk : k < 10) : ((chs k).toList == [63]) = false := by rw [ByteArray.toList_eq]; exact chs_ne' k hk
theorem chs_small : ∀ k, k < 10 → (chs k).size ≤ 10 := by decide
/-- How many numbers among so many letters. -/
def cnt (l : List Int) (i : Nat) : Nat := ((l.take i).filter (fun c => decide (0 < szc c))).length
theorem cnt_succ (l : List Int) (i : Nat) (h : i < l.length) : cnt l (i + 1) = cnt l i + (if 0 < szc (l.getD i 0) then 1 else 0) := by
  unfold cnt
  rw [List.take_succ_eq_append_getElem h, List.filter_append, List.length_append]
  simp [h]
  split <;> simp_all
def hasC (x : Int) (l : List Int) (i : Nat) : Bool := (l.take i).any (fun c => c == x)
theorem hasC_succ (x : Int) (l : List Int) (i : Nat) (h : i < l.length) : hasC x l (i + 1) = (hasC x l i || (l.getD i 0 == x)) := by
  unfold hasC
  rw [List.take_succ_eq_append_getElem h, List.any_append]
  simp [h]
theorem cl_all : ∀ k, k < 10 → cnt (cl k) (cl k).length = (nmb (prt k)).length ∧ hasC 97 (cl k) (cl k).length = hasA k ∧ hasC 116 (cl k) (cl k).length = txb k := by decide
/-- The greatest number of a letter. -/
def lastc (c : Int) : Int := if c = 112 then 128 else if c = 122 ∨ c = 113 then 0 else top (szc c) - 1
theorem cl_num : ∀ k, k < 10 → ∀ i, i < (cl k).length → 0 < szc ((cl k).getD i 0) → cnt (cl k) i < (nmb (prt k)).length ∧ (nmb (prt k)).getD (cnt (cl k) i) (0, 0) = (szc ((cl k).getD i 0), lastc ((cl k).getD i 0)) ∧ sizeB (szc ((cl k).getD i 0)) = true := by decide
theorem cl_oct : ∀ k, k < 10 → ∀ i, i < (cl k).length → 0 ≤ (cl k).getD i 0 ∧ (cl k).getD i 0 < 256 := by decide
theorem char_at (k i : Nat) (h : i < (chs k).size) : ((((chs k)[i]'h).toNat : Nat) : Int) = (cl k).getD i 0 := by
  have h' : i < (chs k).data.size := h
  have e : (chs k)[i]'h = (chs k).data[i]'h' := rfl
  rw [e]
  simp [cl, Array.getElem?_eq_getElem h']
theorem byte_at (k i : Nat) (h : i < (cl k).length) : ((((chs k).data[i]?.getD 0).toNat : Nat) : Int) = (cl k).getD i 0 := by
  have h' : i < (chs k).data.size := by simpa [cl] using h
  simp [cl, Array.getElem?_eq_getElem h']

theorem zarr : (#[Value.int .u8 0, .int .u8 0, .int .u8 0, .int .u8 0, .int .u8 0, .int .u8 0, .int .u8 0, .int .u8 0, .int .u8 0, .int .u8 0, .int .u8 0, .int .u8 0, .int .u8 0, .int .u8 0, .int .u8 0, .int .u8 0] : Array Value) = arr zeros := rfl
/-- Is a number one that a letter allows? -/
def goodc (c n : Int) : Bool := okB (szc c) n && (!(c == 112 && decide (128 < n)) && !((c == 122 || c == 113) && (n != 0)))
theorem goodc_in (c n : Int) (h : sizeB (szc c) = true) : goodc c n = inB (szc c, lastc c) n := by
  have h1 : c = 49 ∨ c = 112 ∨ c = 122 ∨ c = 120 ∨ c = 50 ∨ c = 52 ∨ c = 113 := by
    unfold szc at h
    split at h
    · omega
    · split at h
      · omega
      · split at h
        · omega
        · exact absurd h (by decide)
  rw [Bool.eq_iff_iff]
  rcases h1 with rfl | rfl | rfl | rfl | rfl | rfl | rfl <;> simp [goodc, inB, okB, szc, lastc, top] <;> omega
end Go.Proofs.YtbfjkhafdkhhmaaDoor
