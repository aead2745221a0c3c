/- Reading: where next stands. -/
import Derived.Test.YtbgogeojdibmkaaDoorFil
import Derived.Test.YtbgogeojdibmkaaDoorFwo
namespace Go.Proofs.YtbgogeojdibmkaaDoor
open Go.ChangeShapes Go.WideShapes Go.ChangeAt Go.RowKit Go.Deep
set_option linter.unusedVariables false
set_option linter.unusedSimpArgs false

/-- The reader of Decode in memory. -/
structure NxAt (base : Nat) (w wr : World) (p c : Nat) (a : Option Addr) (len cap : Nat) (l : List Int) (at_ : Nat) (er : Int) (gv : Value) (L : List Ov) : Prop where
  r : Row wr p 72 #[.pointer (some ⟨c, 0, none⟩), gv]
  cur : CurAt wr c a len cap l at_ er
  win : wr.ownsRow base 5 1 (.slice a len cap) len (u8s l)
  got : wr.ownsRow base 43 19 gv L.length (ocs L)
  own : ∀ o ∈ L, Own2 base wr o
  below : Below base w wr
  hc : base ≤ c
  hp : base ≤ p
section
variable {base : Nat} {w wr w' : World} {p c : Nat} {a : Option Addr} {len cap : Nat} {l : List Int} {at_ : Nat} {er : Int} {gv : Value} {L : List Ov}
theorem NxAt.size (h : NxAt base w wr p c a len cap l at_ er gv L) : base ≤ wr.heap.size := Nat.le_of_lt (Nat.lt_of_le_of_lt h.hc h.cur.lt)
theorem NxAt.read (h : NxAt base w wr p c a len cap l at_ er gv L) {at2 : Nat} {er2 : Int} (hc : CurAt w' c a len cap l at2 er2) (hg : wr.grownBy w' (some c)) : NxAt base w w' p c a len cap l at2 er2 gv L :=
  ⟨h.r.kept hg (fun e => h.r.ne h.cur.row (by decide) (Option.some.inj e)), hc, h.win.kept hg (.inr (own_row h.win h.cur.row (by decide))), h.got.kept hg (.inr (own_row h.got h.cur.row (by decide))), fun o ho => (h.own o ho).row h.cur.row (by decide) (by decide) hg,
    Below.grown h.below hg h.size (fun k hk => by cases hk; exact h.hc), h.hc, h.hp⟩
theorem NxAt.on (h : NxAt base w wr p c a len cap l at_ er gv L) (hb : Below wr.heap.size wr w') : NxAt base w w' p c a len cap l at_ er gv L :=
  h.read (h.cur.below hb) ⟨hb.os, hb.tape, hb.output, hb.size, fun k hk _ => hb.block k hk⟩
theorem NxAt.drewN (h : NxAt base w wr p c a len cap l at_ er gv L) (q : Nat) : NxAt base w (wr.drewN q) p c a len cap l at_ er gv L := h.on (bdrew (Below.refl _ _) q)
/-- An option more is appended (world w'), and the list laid in. -/
theorem NxAt.app (h : NxAt base w wr p c a len cap l at_ er gv L) (hg : wr.grownBy w' gv.ownBlock) : Row w' p 72 #[.pointer (some ⟨c, 0, none⟩), gv] ∧ CurAt w' c a len cap l at_ er ∧ w'.ownsRow base 5 1 (.slice a len cap) len (u8s l) ∧ (∀ o ∈ L, Own2 base w' o) ∧ Below base w w' := by
  have hw := own_apart h.win h.got (by decide)
  refine ⟨h.r.kept hg (fun e => own_row h.got h.r (by decide) e.symm), h.cur.other (fun e => own_row h.got h.cur.row (by decide) e.symm) ?_ hg, h.win.kept hg hw, fun o ho => (h.own o ho).kept h.got (by decide) (by decide) hg, Below.grown h.below hg h.size (fun k hk => (h.got.lt k hk).1)⟩
  intro ad e
  rcases hw with hw | hw
  · rw [e] at hw; simp [Value.ownBlock] at hw
  · rw [e] at hw; exact hw
theorem NxAt.push (h : NxAt base w wr p c a len cap l at_ er gv L) (hg : wr.grownBy w' gv.ownBlock) (o : Ov) (ho : Own2 base wr o) (gv2 : Value) (hn : w'.ownsRow base 43 19 gv2 (L.length + 1) (ocs L ++ o.cs.toList)) :
    NxAt base w (w'.setCell ⟨p, 1, none⟩ gv2) p c a len cap l at_ er gv2 (L ++ [o]) := by
  obtain ⟨h1, h2, h3, h4, h5⟩ := h.app hg
  have hs := grownBy_setCell w' p 1 gv2
  have ho2 := ho.kept h.got (by decide) (by decide) hg
  have hown : ∀ x, Own2 base w' x → Own2 base (w'.setCell ⟨p, 1, none⟩ gv2) x := fun x hx => hx.row h1 (by decide) (by decide) hs
  refine ⟨h1.set 1 gv2, h2.other (fun e => h2.row.ne h1 (by decide) (Option.some.inj e)) (fun ad e => by have := own_row h3 h1 (by decide); rw [e] at this; exact this) hs, h3.kept hs (.inr (own_row h3 h1 (by decide))), ?_, ?_,
    Below.grown h5 hs (Nat.le_of_lt (Nat.lt_of_le_of_lt h.hp h1.lt)) (fun k hk => by cases hk; exact h.hp), h.hc, h.hp⟩
  · have := hn.kept hs (.inr (own_row hn h1 (by decide)))
    rw [List.length_append, ocs_snoc2]
    exact this
  · intro x hx
    rcases List.mem_append.1 hx with hx | hx
    · exact hown x (h4 x hx)
    · rw [List.mem_singleton.1 hx]; exact hown o ho2
end
/-- What is wrong behind one option more, what it is, and how many bytes it has. -/
def nxK (m : List Int) : Int := numOf (m.take 1)
def nxL (m : List Int) : Int := takeV 1 m 1 m.length 0
def nxE1 (m : List Int) : Int := rdE 1 1 (m.length - 1) 0
def nxE2 (m : List Int) : Int := rdE 1 (nxL m) (m.length - (1 + rdN 1 1 (m.length - 1) 0)) (nxE1 m)
def nxN2 (m : List Int) : Nat := rdN 1 (nxL m) (m.length - (1 + rdN 1 1 (m.length - 1) 0)) (nxE1 m)
def nxC (m : List Int) : List Int := (m.drop (1 + rdN 1 1 (m.length - 1) 0)).take (nxN2 m)
def nxP (m : List Int) : Po := if nxK m = 0 then ⟨0, [], zeros, []⟩ else filP (nxK m).toNat (nxC m) (nxE2 m)
def nxE (n : Nat) (m : List Int) : Int :=
  if n = 16 then 2 else if kndB (nxK m) = false then 6 else if nxK m = 0 then chkP (nxP m) else spE (spE (nxE2 m) (filE (nxK m).toNat (nxC m) (nxE2 m))) (chkP (nxP m))
def nxN (m : List Int) : Nat := if nxK m = 0 then 1 else 1 + rdN 1 1 (m.length - 1) 0 + nxN2 m
def NxOk (base : Nat) (w w' : World) (p c : Nat) (a : Option Addr) (len cap : Nat) (l : List Int) (at_ : Nat) (L : List Ov) : Prop :=
  ∃ at2 er2 gv2 L2, NxAt base w w' p c a len cap l at2 er2 gv2 L2 ∧ er2 = nxE L.length (l.drop at_) ∧ L2.length ≤ 16 ∧ (er2 = 0 → pos L2 = pos L ++ [nxP (l.drop at_)] ∧ at2 = at_ + nxN (l.drop at_))
end Go.Proofs.YtbgogeojdibmkaaDoor
