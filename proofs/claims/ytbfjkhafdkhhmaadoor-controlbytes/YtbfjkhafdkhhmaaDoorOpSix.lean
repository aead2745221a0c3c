/- Reading: next, what its inner reader is. -/
import Derived.Test.YtbfjkhafdkhhmaaDoorM21
namespace Go.Proofs.YtbfjkhafdkhhmaaDoor
open Go.ChangeShapes Go.WideShapes Go.ChangeAt Go.RowKit Go.Deep
set_option linter.unusedVariables false
set_option linter.unusedSimpArgs false

def nxN' (m : List Int) : Nat := 1 + rdN 1 1 (m.length - 1) 0 + nxN2 m
def nxR (m : List Int) : Nat := rdN 1 1 (m.length - 1) 0
theorem take_2 (w : World) (c : Nat) (a : Option Addr) (len cap at_ : Nat) (l : List Int) (h : CurAt w c a len cap l (at_ + 1) 0) :
    Calls Tryd.prog 82 #[.pointer (some ⟨c, 0, none⟩), .int .i64 1] w fun e w' => e = .returned (.int .i64 (nxL (l.drop at_))) ∧
      CurAt w' c a len cap l (at_ + 1 + nxR (l.drop at_)) (nxE1 (l.drop at_)) ∧ w.grownBy w' (some c) ∧ w'.heap.size = w.heap.size := by
  have hl := h.lies.1
  have e1 : len - (at_ + 1) = (l.drop at_).length - 1 := by rw [List.length_drop, hl]; omega
  have := take_any w c a len cap (at_ + 1) l 0 1 h
  have e2 : takeV 1 l (at_ + 1) len 0 = nxL (l.drop at_) := by
    rw [nxL, takeV, takeV, e1, List.drop_drop]
  rw [e2, e1] at this
  exact this
theorem within_2 (w : World) (c : Nat) (a : Option Addr) (len cap at_ : Nat) (l : List Int) (h : CurAt w c a len cap l (at_ + 1 + nxR (l.drop at_)) (nxE1 (l.drop at_))) :
    Calls Tryd.prog 104 #[.pointer (some ⟨c, 0, none⟩), .int .i64 (nxL (l.drop at_))] w fun e w' => ∃ c2 a2 cap2, e = .returned (.pointer (some ⟨c2, 0, none⟩)) ∧
      CurAt w' c2 a2 (nxN2 (l.drop at_)) cap2 (nxC (l.drop at_)) 0 (nxE2 (l.drop at_)) ∧
      CurAt w' c a len cap l (at_ + nxN' (l.drop at_)) (nxE2 (l.drop at_)) ∧ w.grownBy w' (some c) ∧ w.heap.size ≤ c2 ∧ w'.ownsRow w.heap.size 5 1 (.slice a2 (nxN2 (l.drop at_)) cap2) (nxN2 (l.drop at_)) (u8s (nxC (l.drop at_))) := by
  have hl := h.lies.1
  have e1 : len - (at_ + 1 + nxR (l.drop at_)) = (l.drop at_).length - (1 + rdN 1 1 ((l.drop at_).length - 1) 0) := by rw [← nxR, List.length_drop, hl]; omega
  have e2 : (l.drop (at_ + 1 + nxR (l.drop at_))) = (l.drop at_).drop (1 + rdN 1 1 ((l.drop at_).length - 1) 0) := by rw [← nxR, List.drop_drop, Nat.add_assoc]
  have := within_own w c a len cap _ l _ (nxL (l.drop at_)) h
  rw [e1, e2] at this
  have e3 : at_ + nxN' (l.drop at_) = at_ + 1 + nxR (l.drop at_) + nxN2 (l.drop at_) := by unfold nxN' nxR; omega
  rw [e3]
  exact this
/-- The outer reader, while the inner one is made. -/
structure SixA (w1 wi : World) (p c g : Nat) (a : Option Addr) (len cap : Nat) (l : List Int) (at_ : Nat) (er : Int) (gv : Value) (X : Ov) : Prop where
  r : Row wi p 153 #[.pointer (some ⟨c, 0, none⟩), gv]
  cur : CurAt wi c a len cap l at_ er
  gr : w1.grownBy wi (some c)
  o : Row wi g 54 X.cs
  la : ∀ ad, a = some ad → ad.block < w1.heap.size
structure SixB (g : Nat) (wi : World) (c2 : Nat) (a2 : Option Addr) (n2 cap2 : Nat) (lc : List Int) (e2 : Int) : Prop where
  cur : CurAt wi c2 a2 n2 cap2 lc 0 e2
  win : wi.ownsRow g 5 1 (.slice a2 n2 cap2) n2 (u8s lc)
  hc : g ≤ c2
section
variable {w1 wi w' : World} {p c g : Nat} {a : Option Addr} {len cap : Nat} {l : List Int} {at_ : Nat} {er : Int} {gv : Value} {X : Ov} {c2 : Nat} {a2 : Option Addr} {n2 cap2 : Nat} {lc : List Int} {e2 : Int}
theorem SixA.read (h : SixA w1 wi p c g a len cap l at_ er gv X) {at2 : Nat} {er2 : Int} (hc : CurAt w' c a len cap l at2 er2) (hg : wi.grownBy w' (some c)) : SixA w1 w' p c g a len cap l at2 er2 gv X :=
  ⟨h.r.kept hg (fun e => h.r.ne h.cur.row (by decide) (Option.some.inj e)), hc, h.gr.trans hg, h.o.kept hg (fun e => h.o.ne h.cur.row (by decide) (Option.some.inj e)), h.la⟩
theorem SixA.on (h : SixA w1 wi p c g a len cap l at_ er gv X) (hb : Below wi.heap.size wi w') : SixA w1 w' p c g a len cap l at_ er gv X :=
  h.read (h.cur.below hb) ⟨hb.os, hb.tape, hb.output, hb.size, fun k hk _ => hb.block k hk⟩
theorem SixA.drewN (h : SixA w1 wi p c g a len cap l at_ er gv X) (q : Nat) : SixA w1 (wi.drewN q) p c g a len cap l at_ er gv X := h.on (bdrew (Below.refl _ _) q)
/-- A row of the reader's type is laid down anew. -/
theorem SixA.set (h : SixA w1 wi p c g a len cap l at_ er gv X) {p2 : Nat} {cs : Array Value} (ds : Array Value) (hr : Row wi p2 153 cs) (hp : w1.heap.size ≤ p2) (hne : p ≠ p2) : SixA w1 (wi.setRow p2 ds) p c g a len cap l at_ er gv X :=
  ⟨h.r.rowOther _ _ hne, h.cur.other (fun e => h.cur.row.ne hr (by decide) (Option.some.inj e)) (fun ad e e2 => by have := h.la ad e; have := Option.some.inj e2; omega) (grownBy_setRow ..), grown_then h.gr (below_setRow' (Below.refl _ _) hp _), h.o.rowOther _ _ (h.o.ne hr (by decide)), h.la⟩
theorem SixB.on (h : SixB g wi c2 a2 n2 cap2 lc e2) (hb : Below wi.heap.size wi w') : SixB g w' c2 a2 n2 cap2 lc e2 := ⟨h.cur.below hb, own_below h.win hb, h.hc⟩
theorem SixB.set (h : SixB g wi c2 a2 n2 cap2 lc e2) {p2 : Nat} {cs : Array Value} (ds : Array Value) (hr : Row wi p2 153 cs) : SixB g (wi.setRow p2 ds) c2 a2 n2 cap2 lc e2 :=
  ⟨h.cur.other (fun e => h.cur.row.ne hr (by decide) (Option.some.inj e)) (fun ad e => by have := own_row h.win hr (by decide); rw [e] at this; exact this) (grownBy_setRow ..), h.win.kept (grownBy_setRow ..) (.inr (own_row h.win hr (by decide))), h.hc⟩
/-- The readers behind the option's length. -/
def Six (w1 wx : World) (p c g p2 : Nat) (a : Option Addr) (len cap : Nat) (l : List Int) (at_ : Nat) (gv : Value) (X : Ov) (n2 : Nat) (lc : List Int) (e2 : Int) : Prop :=
  ∃ c2 a2 cap2, SixA w1 wx p c g a len cap l at_ e2 gv X ∧ SixB g wx c2 a2 n2 cap2 lc e2 ∧ Row wx p2 153 #[.pointer (some ⟨c2, 0, none⟩), .slice none 0 0] ∧ w1.heap.size ≤ p2
/-- What fill leaves, for the outer reader. -/
theorem six_nx {base : Nat} {w : World} {at0 : Nat} {er0 : Int} {L : List Ov} (h : NxAt base w w1 p c a len cap l at0 er0 gv L) (hA : SixA w1 wi p c g a len cap l at_ er gv X) (hb : Below w1.heap.size wi w') : NxAt base w w' p c a len cap l at_ er gv L :=
  h.read (CurAt.own h.cur hA.cur hA.gr hb) (grown_then hA.gr hb)
end
end Go.Proofs.YtbfjkhafdkhhmaaDoor
