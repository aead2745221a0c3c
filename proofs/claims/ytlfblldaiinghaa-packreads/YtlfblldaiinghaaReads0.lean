/- What the walk of PackReads stands on. -/
import Derived.Test.YtlfblldaiinghaaRefm
namespace Go.Proofs.Ytlfblldaiinghaa
open Go.ChangeShapes Go.WideShapes Go.ChangeAt Go.RowKit
set_option linter.unusedVariables false
set_option linter.unusedSimpArgs false

theorem cut_len (n : Nat) (k : Int) (hk : 0 ≤ k) : (if k < (n : Int) then k else (n : Int)).toNat ≤ n ∧ ((if k < (n : Int) then k else (n : Int)).toNat : Int) ≤ k := by split <;> omega

/-- Things that are read, as they came in. -/
def ActsAt (w : World) (a : Option Addr) (len cap : Nat) : Prop := len ≤ cap ∧ cap ≤ maxLen ∧
  ∀ i, i < len → ∃ b off, ∃ K S N : Int, a = some ⟨b, off, none⟩ ∧ w.cell? ⟨b, off + i * 3, none⟩ = some (.int .i64 K) ∧ w.cell? ⟨b, off + i * 3 + 1, none⟩ = some (.int .i64 S) ∧ w.cell? ⟨b, off + i * 3 + 2, none⟩ = some (.int .i64 N) ∧
    (Lit.int .i64 K).wf = true ∧ (Lit.int .i64 S).wf = true ∧ (Lit.int .i64 N).wf = true

/-- What holds at each round's head: both cursors stand alike. -/
def RInv (w : World) (c d : Nat) (ac : Option Addr) (nb capc : Nat) (L : List Int) (aw : Option Addr) (cw : Nat) (wr : World) : Prop :=
  ∃ (at_ : Nat) (er : Int) (ad : Option Addr) (capd : Nat), CurAt wr c ac nb capc L at_ er ∧ RefAt wr d ad (nb - at_) capd (L.drop at_) at_ er ∧ Below w.heap.size w wr ∧ Lies .u8 wr aw nb cw L ∧ (∀ x, ad = some x → ∃ y, aw = some y ∧ x.block = y.block) ∧ (∀ y, aw = some y → y.block < wr.heap.size)

theorem spoil_any (w : World) (c : Nat) (a : Option Addr) (len cap at_ : Nat) (l : List Int) (er e : Int) (h : CurAt w c a len cap l at_ er) :
    Calls Try.prog 25 #[.pointer (some ⟨c, 0, none⟩), .int .i64 e] w fun e' w' => e' = .returned (.tuple #[]) ∧ CurAt w' c a len cap l at_ (if er = 0 then e else er) ∧ w.grownBy w' (some c) ∧ w'.heap.size = w.heap.size := by
  by_cases her : er = 0
  · subst her
    rw [if_pos rfl]
    exact spoil_now w c a len cap at_ l e h
  · rw [if_neg her]
    refine (spoil_was w c er e h.cell2 her).mono ?_
    rintro e' w' ⟨rfl, rfl⟩
    exact ⟨rfl, h, World.grownBy.refl _ _, rfl⟩

theorem left_lf (w : World) (c : Nat) (a : Option Addr) (len cap at_ lf : Nat) (l : List Int) (er : Int) (h : CurAt w c a len cap l at_ er) (hlf : len - at_ = lf) :
    Calls Try.prog 27 #[.pointer (some ⟨c, 0, none⟩)] w fun e w' => e = .returned (.int .i64 (lf : Int)) ∧ ∃ q, w' = w.drewN q := by
  refine (left_any w c a len cap at_ l er h).mono ?_
  rintro e w' ⟨rfl, q, rfl⟩
  exact ⟨ret_int (by have := h.le; omega), q, rfl⟩

theorem close_lf (w : World) (c : Nat) (a : Option Addr) (len cap at_ lf : Nat) (l : List Int) (er cv : Int) (h : CurAt w c a len cap l at_ er) (hlf : len - at_ = lf) (hcv : closeV lf er = cv) :
    Calls Try.prog 17 #[.pointer (some ⟨c, 0, none⟩)] w fun e w' => e = .returned (.int .i64 cv) ∧ ∃ q, w' = w.drewN q := by
  have := close_any w c a len cap at_ l er h
  rw [hlf, hcv] at this
  exact this

theorem refClose_cv (w : World) (d : Nat) (a : Option Addr) (len cap : Nat) (l : List Int) (at_ : Nat) (er cv : Int) (h : RefAt w d a len cap l at_ er) (hcv : closeV len er = cv) :
    Calls Try.prog 28 #[.pointer (some ⟨d, 0, none⟩)] w fun e w' => e = .returned (.int .i64 cv) ∧ w' = w := by
  rw [← hcv]; exact refClose_any w d a len cap l at_ er h

theorem box_kept {wr w5 : World} {cs : Array Value} {c j : Nat} {v : Value} (hg : (wr.alloc (.cells cs 46)).grownBy w5 (some c)) (hc : c < wr.heap.size) (hv : cs[j]? = some v) : w5.cell? ⟨wr.heap.size, j, none⟩ = some v := by
  refine hg.cell (a := ⟨wr.heap.size, j, none⟩) ?_ (by intro e; have := Option.some.inj e; simp at this; omega)
  rw [cell_of_row _ _ _ _ _ _ (heap_alloc_new wr _)]
  exact hv

/-- Nothing old has turned but two blocks. -/
structure Tw (c d : Nat) (w w' : World) : Prop where
  os : w'.os = w.os
  tape : w'.tape = w.tape
  output : w'.output = w.output
  size : w.heap.size ≤ w'.heap.size
  block : ∀ k, k < w.heap.size → k ≠ c → k ≠ d → w'.heap[k]? = w.heap[k]?
theorem Tw.of_c {c : Nat} (d : Nat) {w w' : World} (h : w.grownBy w' (some c)) : Tw c d w w' := ⟨h.os, h.tape, h.output, h.size, fun k hk hc _ => h.block k hk (fun e => hc (Option.some.inj e))⟩
theorem Tw.of_d (c : Nat) {d : Nat} {w w' : World} (h : w.grownBy w' (some d)) : Tw c d w w' := ⟨h.os, h.tape, h.output, h.size, fun k hk _ hd => h.block k hk (fun e => hd (Option.some.inj e))⟩
theorem Tw.of_b (c d : Nat) {w w' : World} (h : Below w.heap.size w w') : Tw c d w w' := ⟨h.os, h.tape, h.output, h.size, fun k hk _ _ => h.block k hk⟩
theorem Tw.trans {c d : Nat} {w w1 w2 : World} (h : Tw c d w w1) (k : Tw c d w1 w2) : Tw c d w w2 :=
  ⟨k.os.trans h.os, k.tape.trans h.tape, k.output.trans h.output, Nat.le_trans h.size k.size, fun j hj hc hd => (k.block j (Nat.lt_of_lt_of_le hj h.size) hc hd).trans (h.block j hj hc hd)⟩
theorem Tw.thenB {c d : Nat} {w w1 w2 : World} (h : Tw c d w w1) (k : Below w.heap.size w1 w2) : Tw c d w w2 :=
  ⟨k.os.trans h.os, k.tape.trans h.tape, k.output.trans h.output, Nat.le_trans h.size k.size, fun j hj hc hd => (k.block j hj).trans (h.block j hj hc hd)⟩
theorem Tw.lies {c d : Nat} {w w' : World} (h : Tw c d w w') (hc : NoU8 w c) (hd : NoU8 w d) {a : Option Addr} {len cap : Nat} {l : List Int} (hl : Lies .u8 w a len cap l) : Lies .u8 w' a len cap l := by
  refine ⟨hl.1, hl.2.1, hl.2.2.1, hl.2.2.2.1, fun k hk => ?_⟩
  obtain ⟨b, off, he, hcell⟩ := hl.2.2.2.2 k hk
  refine ⟨b, off, he, (World.cell?_of_block (w := w) (a := ⟨b, off + k, none⟩) (h.block b (World.block_lt_of_cell? w _ hcell) ?_ ?_)).trans hcell⟩
  · rintro rfl; exact hc _ _ hcell
  · rintro rfl; exact hd _ _ hcell
theorem Tw.cell {c d : Nat} {w w' : World} (h : Tw c d w w') {a : Addr} {v : Value} (hv : w.cell? a = some v) (hc : a.block ≠ c) (hd : a.block ≠ d) : w'.cell? a = some v :=
  (World.cell?_of_block (w := w) (h.block a.block (World.block_lt_of_cell? w a hv) hc hd)).trans hv
theorem Tw.below {c d : Nat} {W w w' : World} (h : Tw c d w w') (hB : Below W.heap.size W w) (hc : W.heap.size ≤ c) (hd : W.heap.size ≤ d) : Below W.heap.size W w' :=
  hB.trans ⟨h.os, h.tape, h.output, h.size, fun k hk => h.block k (Nat.lt_of_lt_of_le hk hB.size) (by omega) (by omega)⟩

/-- 'Take' and the document's 'Take', with names for what they come to. -/
theorem take_m (w : World) (c : Nat) (a : Option Addr) (len cap at_ lf m : Nat) (l : List Int) (er size er' tv : Int) (h : CurAt w c a len cap l at_ er) (hlf : len - at_ = lf) (hm : rdN size 1 lf er = m) (he : rdE size 1 lf er = er') (ht : numOf ((l.drop at_).take m) = tv) :
    Calls Try.prog 18 #[.pointer (some ⟨c, 0, none⟩), .int .i64 size] w fun e w' => e = .returned (.int .i64 tv) ∧ CurAt w' c a len cap l (at_ + m) er' ∧ w.grownBy w' (some c) ∧ w'.heap.size = w.heap.size := by
  have := take_any w c a len cap at_ l er size h
  rw [takeV, hlf, hm, he, ht] at this
  exact this
theorem refTake_m (w : World) (d : Nat) (a : Option Addr) (lf cap : Nat) (l : List Int) (at_ m : Nat) (er size er' tv : Int) (h : RefAt w d a lf cap l at_ er) (hm : rdN size 1 lf er = m) (he : rdE size 1 lf er = er') (ht : numOf (l.take m) = tv) :
    Calls Try.prog 19 #[.pointer (some ⟨d, 0, none⟩), .int .i64 size] w fun e w' => e = .returned (.int .i64 tv) ∧ RefOk w d a lf at_ l m er' w' := by
  have := refTake_any w d a lf cap l at_ er size h
  rw [hm, he, ht] at this
  exact this
theorem many_m (w : World) (c : Nat) (a : Option Addr) (len cap at_ lf m : Nat) (l ml : List Int) (er size n er' : Int) (h : CurAt w c a len cap l at_ er) (hw : (Lit.int .i64 n).wf = true) (hlf : len - at_ = lf) (hm : rdN size n lf er = m) (he : rdE size n lf er = er') (ht : numsTo size.toNat (l.drop at_) (if er' = 0 then n.toNat else 0) = ml) :
    Calls Try.prog 16 #[.pointer (some ⟨c, 0, none⟩), .int .i64 size, .int .i64 n] w fun e w' => ∃ v, e = .returned v ∧ w'.ownsRow w.heap.size 3 1 v ml.length (i64s ml) ∧ CurAt w' c a len cap l (at_ + m) er' ∧ w.grownBy w' (some c) := by
  have := many_any w c a len cap at_ l er size n h hw
  rw [manyL, hlf, hm, he, ht] at this
  exact this
theorem refMany_m (w : World) (d : Nat) (a : Option Addr) (lf cap : Nat) (l : List Int) (at_ m : Nat) (ml : List Int) (er size n er' : Int) (h : RefAt w d a lf cap l at_ er) (ha : ∀ x, a = some x → x.block < w.heap.size) (hm : rdN size n lf er = m) (he : rdE size n lf er = er') (ht : numsTo size.toNat l (if er' = 0 then n.toNat else 0) = ml) :
    Calls Try.prog 20 #[.pointer (some ⟨d, 0, none⟩), .int .i64 size, .int .i64 n] w fun e w' => ∃ v, e = .returned v ∧ w'.ownsRow w.heap.size 3 1 v ml.length (i64s ml) ∧
      ∃ a2 cap2, RefAt w' d a2 (lf - m) cap2 (l.drop m) (at_ + m) er' ∧ w.grownBy w' (some d) ∧ ∀ x, a2 = some x → ∃ y, a = some y ∧ x.block = y.block := by
  have := refMany_any w d a lf cap l at_ er size n h ha
  rw [hm, he, ht] at this
  exact this
theorem bytes_m (w : World) (c : Nat) (a : Option Addr) (len cap at_ lf m : Nat) (l : List Int) (er n er' : Int) (h : CurAt w c a len cap l at_ er) (hlf : len - at_ = lf) (hm : rdN 1 n lf er = m) (he : rdE 1 n lf er = er') :
    Calls Try.prog 15 #[.pointer (some ⟨c, 0, none⟩), .int .i64 n] w fun e w' => ∃ v, e = .returned v ∧ w'.ownsRow w.heap.size 5 1 v m (u8s ((l.drop at_).take m)) ∧ CurAt w' c a len cap l (at_ + m) er' ∧ w.grownBy w' (some c) := by
  have := bytes_any w c a len cap at_ l er n h
  rw [hlf, hm, he] at this
  exact this
theorem refBytes_m (w : World) (d : Nat) (a : Option Addr) (lf cap : Nat) (l : List Int) (at_ m : Nat) (er n er' : Int) (h : RefAt w d a lf cap l at_ er) (hm : rdN 1 n lf er = m) (he : rdE 1 n lf er = er') :
    Calls Try.prog 21 #[.pointer (some ⟨d, 0, none⟩), .int .i64 n] w fun e w' => ∃ a1 c1, e = .returned (.slice a1 m c1) ∧ Lies .u8 w' a1 m c1 (l.take m) ∧ RefOk w d a lf at_ l m er' w' := by
  have := refBytes_any w d a lf cap l at_ er n h
  rw [hm, he] at this
  exact this
theorem within_m (w : World) (c : Nat) (a : Option Addr) (len cap at_ lf m : Nat) (l : List Int) (er n er' : Int) (h : CurAt w c a len cap l at_ er) (hlf : len - at_ = lf) (hm : rdN 1 n lf er = m) (he : rdE 1 n lf er = er') :
    Calls Try.prog 22 #[.pointer (some ⟨c, 0, none⟩), .int .i64 n] w fun e w' => ∃ c2 a2 cap2, e = .returned (.pointer (some ⟨c2, 0, none⟩)) ∧ CurAt w' c2 a2 m cap2 ((l.drop at_).take m) 0 er' ∧
      CurAt w' c a len cap l (at_ + m) er' ∧ w.grownBy w' (some c) ∧ w.heap.size ≤ c2 := by
  have := within_any w c a len cap at_ l er n h
  rw [hlf, hm, he] at this
  exact this
/-- What is left, and where, behind m bytes more. -/
theorem ref_next {w : World} {d : Nat} {a : Option Addr} {lf cap : Nat} {L : List Int} {at_ m : Nat} {er : Int} (h : RefAt w d a (lf - m) cap ((L.drop at_).drop m) (at_ + m) er) : RefAt w d a (lf - m) cap (L.drop (at_ + m)) (at_ + m) er := by
  rw [List.drop_drop] at h; exact h

theorem RInv.drew9 {w : World} {c d : Nat} {ac : Option Addr} {nb capc : Nat} {L : List Int} {aw : Option Addr} {cw : Nat} {wr : World} (h : RInv w c d ac nb capc L aw cw wr) (q : Nat) : Hid (RInv w c d ac nb capc L aw cw (wr.drewN q)) := by
  obtain ⟨at_, er, ad, capd, h1, h2, h3, h4, h5, h6⟩ := h
  exact ⟨at_, er, ad, capd, h1.drewN q, h2.drewN q, bdrew h3 q, h4.drewN q, h5, h6⟩
theorem ownsRow_kept5 {w w' : World} {base d : Nat} {v : Value} {n : Nat} {xs : List Value} (h : w.ownsRow base 5 1 v n xs) (hd : d < base) (hg : w.grownBy w' (some d)) : w'.ownsRow base 5 1 v n xs := by
  refine h.kept hg ?_
  cases hv : v.ownBlock with
  | none => exact .inl rfl
  | some k => exact .inr (fun e => by have := (h.lt k hv).1; cases e; omega)
theorem own_addr {w : World} {base cap len n : Nat} {a : Option Addr} {xs : List Value} {l : List Int} (h : w.ownsRow base 5 1 (.slice a len cap) n xs) (hl : Lies .u8 w a len cap l)
    (hf : ∀ ad, a = some ad → base ≤ ad.block ∧ ad.off = 0 ∧ ad.block < w.heap.size ∧ ∀ k, k < cap → w.frozen? ⟨ad.block, k, none⟩ = false) :
    ∃ gx, ∀ x, a = some x → x = ⟨gx, 0, none⟩ ∧ base ≤ gx ∧ ∀ k, k < cap → w.frozen? ⟨gx, k, none⟩ = false := by
  rcases h.2 with ⟨h0, _⟩ | ⟨g, cap', cur, hv, hb, _⟩
  · refine ⟨0, fun x hx => ?_⟩
    simp at h0; rw [h0.1] at hx; cases hx
  · simp at hv
    refine ⟨g, fun x hx => ?_⟩
    have := hf x hx
    rw [hv.1] at hx
    obtain rfl := Option.some.inj hx
    exact ⟨rfl, this.1, this.2.2.2⟩

theorem rd_again (n : Int) (lf m : Nat) (er er' : Int) (hm : rdN 1 n lf er = m) (he : rdE 1 n lf er = er') : rdN 1 m m er' = m ∧ rdE 1 m m er' = er' := by
  by_cases h0 : er' = 0
  · subst h0
    have hE : rdE 1 m m 0 = 0 := by rw [rdE_bytes, if_neg (by omega), if_neg (by omega)]
    exact ⟨by rw [rdN, if_pos hE]; omega, hE⟩
  · have hE : rdE 1 m m er' = er' := by simp [rdE, h0]
    have h1 : m = 0 := by rw [← hm, rdN, he, if_neg h0]
    exact ⟨by rw [rdN, hE, if_neg h0, h1], hE⟩

theorem same_true (a b : Option Addr) (la ca lb cb : Nat) (l : List Int) (w : World) (ha : Lies .u8 w a la ca l) (hb : Lies .u8 w b lb cb l) :
    Calls Try.prog 11 #[.slice a la ca, .slice b lb cb] w fun e w' => e = .returned (.bool true) ∧ ∃ q, w' = w.drewN q := by
  have := same_any a b la ca lb cb l l w ha hb
  rw [beq_self_eq_true] at this
  exact this

theorem peek_m (w : World) (c : Nat) (a : Option Addr) (len cap at_ lf pk : Nat) (l : List Int) (er n : Int) (h : CurAt w c a len cap l at_ er) (hlf : len - at_ = lf) (hp : pkN n lf er = pk) :
    Calls Try.prog 24 #[.pointer (some ⟨c, 0, none⟩), .int .i64 n] w fun e w' => ∃ a5 cap5, e = .returned (.slice a5 pk cap5) ∧ Lies .u8 w' a5 pk cap5 ((l.drop at_).take pk) ∧ Below w.heap.size w w' := by
  refine (peek_any w c a len cap at_ l er n h).mono ?_
  rw [hlf, hp]
  rintro e w' ⟨v, rfl, hown, hb⟩
  have hpl : pk ≤ lf := by rw [← hp]; exact pkN_le ..
  have hXl : ((l.drop at_).take pk).length = pk := by rw [List.length_take, List.length_drop, h.lies.1]; omega
  have hown' := ownsRow_u8 (m := ((l.drop at_).take pk).length) hown hXl.symm rfl
  obtain ⟨a5, cap5, hv, hl, _⟩ := owns_lies hown'
  rw [hXl] at hv hl
  exact ⟨a5, cap5, by rw [hv], hl, hb⟩

theorem below_of_grown {w w' : World} {B c2 : Nat} (h : w.grownBy w' (some c2)) (hB : B ≤ w.heap.size) (hc : B ≤ c2) : Below B w w' :=
  ⟨h.os, h.tape, h.output, h.size, fun k hk => h.block k (by omega) (fun e => by have := Option.some.inj e; omega)⟩

/-- Both cursors behind stores into blocks from B on. -/
theorem CurAt.far {c d : Nat} {w0 w w' : World} {a : Option Addr} {len cap : Nat} {l : List Int} {at_ at0 : Nat} {er er0 : Int} (h : CurAt w c a len cap l at_ er) (h0 : CurAt w0 c a len cap l at0 er0) (hd0 : NoU8 w0 d) (ht : Tw c d w0 w) (hb : Below w0.heap.size w w') : CurAt w' c a len cap l at_ er :=
  ⟨(hb.block c h0.lt).trans h.block, (ht.thenB hb).lies h0.noU8 hd0 h0.lies, h.oct, h.le, h.small⟩

/-- The switch of the law's round, as it stands in the translation. -/
def isR12 : Code → Bool
  | .region n _ _ => n == 12
  | _ => false
def findSw : Code → Option Code
  | .seq a b => if isR12 a then some (.seq a b) else match findSw a with
    | some c => some c
    | none => findSw b
  | .block _ c => findSw c
  | .loop c => findSw c
  | .cond _ a b => match findSw a with
    | some c => some c
    | none => findSw b
  | _ => none

theorem kind_cases (K : Int) : IntKind.u64.wrap K % 6 = 0 ∨ IntKind.u64.wrap K % 6 = 1 ∨ IntKind.u64.wrap K % 6 = 2 ∨ IntKind.u64.wrap K % 6 = 3 ∨ IntKind.u64.wrap K % 6 = 4 ∨ IntKind.u64.wrap K % 6 = 5 := by omega
theorem u64_nonneg (K : Int) : 0 ≤ IntKind.u64.wrap K := by rw [IntKind.wrap_u64]; omega
theorem kind_tmod (K z : Int) (h : IntKind.u64.wrap K % 6 = z) : (IntKind.u64.wrap K).tmod 6 = z := by rw [Int.tmod_eq_emod_of_nonneg (u64_nonneg K)]; exact h
end Go.Proofs.Ytlfblldaiinghaa
