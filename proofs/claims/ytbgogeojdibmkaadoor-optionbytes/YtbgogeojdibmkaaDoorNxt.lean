/- Reading: next, no kind. -/
import Derived.Test.YtbgogeojdibmkaaDoorNxf
namespace Go.Proofs.YtbgogeojdibmkaaDoor
open Go.ChangeShapes Go.WideShapes Go.ChangeAt Go.RowKit Go.Deep
set_option linter.unusedVariables false
set_option linter.unusedSimpArgs false

set_option maxRecDepth 100000 in
set_option maxHeartbeats 400000 in
theorem next_kind {B base : Nat} (w w0 : World) (p c : Nat) (a : Option Addr) (len cap : Nat) (l : List Int) (at_ : Nat) (gv : Value) (L : List Ov) (h : NxAt base w w0 p c a len cap l at_ 0 gv L) (hV : Vars B w0) (hB : B ≤ base) (hat : at_ < len) (hL : L.length ≤ 16) (h16 : ¬ L.length = 16) (hk : kndB (nxK (l.drop at_)) = false) :
    Calls Tryd.prog 35 #[.pointer (some ⟨p, 0, none⟩)] w0 fun e w' => e = .returned (.tuple #[]) ∧ Hid (NxOk base w w' p c a len cap l at_ L) := by
  obtain ⟨ga, gc, rfl⟩ := owns_len h.got
  have H := hid h
  have HV := hid hV
  have p0 := h.r.cell 0
  have p1 := h.r.cell 1
  simp only [List.getElem?_toArray, List.getElem?_cons_zero, List.getElem?_cons_succ] at p0 p1
  have hlen := h.cur.lies.1
  have HE : Hid (nxE L.length (l.drop at_) = 6) := by simp [Hid, nxE, h16, hk]
  generalize hn : L.length = n at *
  have HN := hid hn
  have hn16 : ((n : Int) == 16) = false := by rw [beq_eq_false_iff_ne]; omega
  clear h hV hn
  go_enter Tryd.func35, Tryd.ntmps35
  go_wp2_with fail
  refine (take_1 _ c a len cap at_ l H.out.cur hat).mono ?_
  rintro e w1 ⟨rfl, hc, hg, hs⟩
  have H1 := hid (H.out.read hc hg)
  have HV1 := hid (HV.out.rd H.out.below H1.out.below hB H1.out.size)
  generalize hx : nxK (l.drop at_) = x at *
  have HX := hid hx
  clear hc hg hs hx
  have hz := zov
  have O2 := hid (layO_new w1 43 ⟨x, Txt.none, zeros, Txt.none⟩)
  have B2 := hid (layO_below w1 43 ⟨x, Txt.none, zeros, Txt.none⟩)
  go_simp
  rename_i hKK
  refine hKK _ _ ?_
  refine bdO1 o43 _ rfl rfl x rfl ?_
  simp only [Act.put, List.setIfInBounds_toArray, List.set_cons_zero, List.set_cons_succ]
  clear hKK
  have HXp : Hid (Ov.p ⟨x, Txt.none, zeros, Txt.none⟩ = ⟨x, [], zeros, []⟩) := rfl
  have HXk : Hid ((⟨x, Txt.none, zeros, Txt.none⟩ : Ov).k = x) := rfl
  have HXa : Hid (Adr (⟨x, Txt.none, zeros, Txt.none⟩ : Ov).ad) := adr_zeros
  have HXo : Hid (∀ b w, Own2 b w (⟨x, Txt.none, zeros, Txt.none⟩ : Ov)) := fun b w => ⟨World.ownsRow_nil _ _ _ _, rfl, adr_zeros, World.ownsRow_nil _ _ _ _, rfl, fun x hx => by cases hx⟩
  generalize hX : (⟨x, Txt.none, zeros, Txt.none⟩ : Ov) = X at *
  clear hX
  have q0 := (O2.out.cell 0).trans (Ov.at0 _)
  rw [HXk.out] at q0
  go_wp2_with ((refine stO o43 _ _ rfl rfl w1.heap.size X HXa.out rfl rfl 43 Ov.zero adr_zeros (Row.new w1 43 _) ?_))

  have H2 := hid (H1.out.on B2.out)
  have q1 := H2.out.r.cell 0
  simp only [List.getElem?_toArray, List.getElem?_cons_zero] at q1
  generalize (w1.alloc (.cells Ov.zero.cs 43)).setRow w1.heap.size X.cs = w2 at *
  generalize w1.heap.size = g at *
  refine (isKind_any x _).mono ?_
  rintro e w3 ⟨rfl, rfl⟩
  rw [hk]
  go_wp2_with fail
  refine (spoil_any _ c a len cap (at_ + 1) l 0 6 H2.out.cur).mono ?_
  rintro e w4 ⟨rfl, hc, hg, hs⟩
  have H4 := hid (H2.out.read hc hg)
  clear hc hg hs
  go_wp2_with fail
  go_returns
  exact ⟨rfl, _, _, _, L, H4.out, by rw [HN.out, HE.out]; rfl, by rw [HN.out]; exact hL, fun e => by cases e⟩
end Go.Proofs.YtbgogeojdibmkaaDoor
