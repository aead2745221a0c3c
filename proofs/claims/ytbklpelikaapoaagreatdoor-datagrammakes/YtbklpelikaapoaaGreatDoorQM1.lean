/- datagram's Send. · The law's To: what is its own. · rivuletlaw05's To and Of. · rivuletlaw09's To: what is its own. · slices.Concat over texts. -/
import Derived.Test.YtbklpelikaapoaaGreatDoorM15
import Derived.Test.YtbklpelikaapoaaGreatDoorM11
import Derived.Test.YtbklpelikaapoaaGreatDoorM5
import Derived.Test.YtbklpelikaapoaaGreatDoorM6
import Derived.Test.YtbklpelikaapoaaGreatDoorM10
import Derived.Test.YtbklpelikaapoaaGreatDoorM2
namespace Go.Proofs.YtbklpelikaapoaaGreatDoor
open Go.ChangeShapes Go.WideShapes Go.ChangeAt Go.RowKit Go.Deep
set_option linter.unusedVariables false
set_option linter.unusedSimpArgs false

theorem own_txt4 {w : World} {b : Nat} {v : Value} {l : List Int} (h : w.ownsRow b 5 1 v l.length (u8s l)) : ∃ x : Txt, v = x.v ∧ x.l = l ∧ x.n = l.length := by
  obtain ⟨a, cap, rfl⟩ := owns_len h
  exact ⟨⟨a, l.length, cap, l⟩, rfl, rfl, rfl⟩
set_option maxRecDepth 100000 in
set_option maxHeartbeats 3200000 in
theorem dgSend_any (f t : List Int) (hf : Adr f) (ht : Adr t) (o : Ho) (n : Int) (a : Option Addr) (k cap : Nat) (L : List Txt4) (w : World) (hL : Texts4 w a k cap L) (hs : (bytes4 L).length ≤ 100000) : Calls Tryz.prog 20 #[.agg (arr f), .agg (arr t), .agg o.cs, .int .i64 n, .slice a k cap] w fun e w' => (∃ x : Txt, e = .returned (.agg (Pv.cs ⟨⟨0, 0, 0, 0, 64, f, t⟩, true, Mv.zero, o, n, x⟩)) ∧ Hid (w'.ownsRow w.heap.size 5 1 x.v (bytes4 L).length (u8s (bytes4 L))) ∧ x.l = bytes4 L ∧ x.n = (bytes4 L).length) ∧ Below w.heap.size w w' := by
  have hz := zpkP
  have HF := hid hf
  have HT := hid ht
  have HL := hid hL
  have hs1 : (w.alloc (.cells (arr f) 33)).heap.size = w.heap.size + 1 := World.size_alloc ..
  have hs2 : ((w.alloc (.cells (arr f) 33)).alloc (.cells (arr t) 33)).heap.size = w.heap.size + 2 := by rw [World.size_alloc, hs1]
  have hs3 : (((w.alloc (.cells (arr f) 33)).alloc (.cells (arr t) 33)).alloc (.cells o.cs 39)).heap.size = w.heap.size + 3 := by rw [World.size_alloc, hs2]
  have F1 := hid ((((Row.new w 33 (arr f)).alloc (.cells (arr t) 33)).alloc (.cells o.cs 39)).alloc (.cells Pv.zero.cs 41))
  have T1 := hid (((Row.new (w.alloc (.cells (arr f) 33)) 33 (arr t)).alloc (.cells o.cs 39)).alloc (.cells Pv.zero.cs 41))
  have R1 := hid ((Row.new ((w.alloc (.cells (arr f) 33)).alloc (.cells (arr t) 33)) 39 o.cs).alloc (.cells Pv.zero.cs 41))
  have Z1 := hid (Row.new (((w.alloc (.cells (arr f) 33)).alloc (.cells (arr t) 33)).alloc (.cells o.cs 39)) 41 Pv.zero.cs)
  have B1 := hid (balloc (balloc (balloc (balloc (Below.refl w.heap.size w) (.cells (arr f) 33)) (.cells (arr t) 33)) (.cells o.cs 39)) (.cells Pv.zero.cs 41))
  rw [hs1] at T1
  rw [hs2] at R1
  rw [hs3] at Z1
  clear hL hf ht
  go_enter Tryz.func20, Tryz.ntmps20
  go_upto_region 1 with fail
  generalize hw1 : (((w.alloc (.cells (arr f) 33)).alloc (.cells (arr t) 33)).alloc (.cells o.cs 39)).alloc (.cells Pv.zero.cs 41) = w1 at *
  have B1 : Hid (Below w.heap.size w w1.drew) := hid (B1.out.trans ⟨rfl, rfl, rfl, Nat.le_refl _, fun _ _ => rfl⟩)
  have F1 : Hid (Row w1.drew w.heap.size 33 (arr f)) := F1
  have T1 : Hid (Row w1.drew (w.heap.size + 1) 33 (arr t)) := T1
  have R1 : Hid (Row w1.drew (w.heap.size + 2) 39 o.cs) := R1
  have Z1 : Hid (Row w1.drew (w.heap.size + 3) 41 Pv.zero.cs) := Z1
  clear hw1 hs1 hs2 hs3 hz
  generalize hg3 : w.heap.size + 3 = g3 at *
  generalize hg2 : w.heap.size + 2 = g2 at *
  generalize hg1 : w.heap.size + 1 = g1 at *
  generalize hg0 : w.heap.size = g0 at *
  have HG : Hid (g1 = g0 + 1 ∧ g2 = g0 + 2 ∧ g3 = g0 + 3 ∧ w.heap.size = g0) := hid ⟨hg1.symm, hg2.symm, hg3.symm, hg0⟩
  rw [← hg0] at B1
  clear hg0 hg1 hg2 hg3
  refine wp_region_held_drew (S := fun w' => Hid (Row w' g0 33 (arr f)) ∧ (Hid (Row w' g1 33 (arr t)) ∧ Hid (Row w' g2 39 o.cs))) (by kernel_rfl) ?_ (fun hHeld => ?_)
  · exact ⟨F1, T1, R1⟩
  refine wpAnyH_take (i := 0) (oi := _) (v := .agg (arr f)) rfl (by kernel_rfl) (by kernel_rfl) (by kernel_rfl) (fun _ _ _ h => h) (yld41 (by rfl) _ rfl g0 0 rfl f HF.out (fun w h => h.1.out.part)) (by assumption) ?_
  try simp only [List.getElem_toArray, List.getElem_cons_zero, List.getElem_cons_succ, Act.put, List.setIfInBounds_toArray, List.set_cons_zero, List.set_cons_succ]
  refine wpAnyH_take (i := 1) (oi := _) (v := .agg (arr t)) rfl (by kernel_rfl) (by kernel_rfl) (by kernel_rfl) (fun _ _ _ h => h) (yld41 (by rfl) _ rfl g1 0 rfl t HT.out (fun w h => h.2.1.out.part)) (by assumption) ?_
  try simp only [List.getElem_toArray, List.getElem_cons_zero, List.getElem_cons_succ, Act.put, List.setIfInBounds_toArray, List.set_cons_zero, List.set_cons_succ]
  refine wpAnyH_take (i := 2) (oi := _) (v := .agg (Hd.cs ⟨0, 0, 0, 0, 64, f, t⟩)) rfl (by kernel_rfl) (by kernel_rfl) (by kernel_rfl) (fun _ _ _ h => h) (ybdH3 (by rfl) _ _ _ rfl 64 f t HF.out.1 HT.out.1 rfl rfl rfl) (by assumption) ?_
  try simp only [List.getElem_toArray, List.getElem_cons_zero, List.getElem_cons_succ, Act.put, List.setIfInBounds_toArray, List.set_cons_zero, List.set_cons_succ]
  refine wpAnyH_take (i := 3) (oi := _) (v := .agg o.cs) rfl (by kernel_rfl) (by kernel_rfl) (by kernel_rfl) (fun _ _ _ h => h) (yldOq oh (by rfl) _ rfl g2 0 rfl o (fun w h => h.2.2.out.part)) (by assumption) ?_
  try simp only [List.getElem_toArray, List.getElem_cons_zero, List.getElem_cons_succ, Act.put, List.setIfInBounds_toArray, List.set_cons_zero, List.set_cons_succ]
  refine wpAnyH_take (i := 4) (oi := _) (v := ?va4) rfl (by kernel_rfl) (by kernel_rfl) (by kernel_rfl) (fun _ _ _ h => h) (Or.inl ⟨by rfl, ?hya4⟩) (by assumption) ?resta4
  case hya4 => (intro w hSw; (try dsimp only at hSw); go_split_ands; go_simp; try (with_reducible rfl))
  try simp only [List.getElem_toArray, List.getElem_cons_zero, List.getElem_cons_succ, Act.put, List.setIfInBounds_toArray, List.set_cons_zero, List.set_cons_succ]
  refine wpAnyH_take (i := 5) (oi := _) (v := ?va5) rfl (by kernel_rfl) (by kernel_rfl) (by kernel_rfl) (fun _ _ _ h => h) (Or.inl ⟨by rfl, ?hya5⟩) (by assumption) ?resta5
  case hya5 => (intro w hSw; (try dsimp only at hSw); go_split_ands; go_simp; try (with_reducible rfl))
  try simp only [List.getElem_toArray, List.getElem_cons_zero, List.getElem_cons_succ, Act.put, List.setIfInBounds_toArray, List.set_cons_zero, List.set_cons_succ]
  refine wpAnyH_ready (rs := [6]) (by kernel_rfl) (by simp) ?_
  refine AllReadyH.cons (o := _) rfl (fun K hK => ?_) AllReadyH.nil
  go_simp
  refine (concat_all _ _ _ _ L (HL.out.below B1.out) hs).mono ?_
  rintro e w2 ⟨v, rfl, hown, hb⟩
  obtain ⟨x, rfl, hxl, hxn⟩ := own_txt4 hown
  have F2 := hid (F1.out.below hb)
  have T2 := hid (T1.out.below hb)
  have R2 := hid (R1.out.below hb)
  have Z2 := hid (Z1.out.below hb)
  have B2 := hid (bthen B1.out hb)
  have C2 := hid (own_mono hown B1.out.size)
  have HXL := hid hxl
  have HXN := hid hxn
  clear hb hown hxl hxn F1 T1 R1 Z1
  go_wp2_with fail
  refine hK.out _ _ ⟨F2, T2, R2⟩ (fun hHeld => ?_)
  clear hK K
  try simp only [List.getElem_toArray, List.getElem_cons_zero, List.getElem_cons_succ, Act.put, List.setIfInBounds_toArray, List.set_cons_zero, List.set_cons_succ]
  have HK : Hid (Pv.fit ⟨⟨0, 0, 0, 0, 64, f, t⟩, true, Mv.zero, o, n, x⟩) := hid ⟨⟨HF.out, HT.out⟩, adr_zeros⟩
  refine wpAnyH_take (i := 7) (oi := _) (v := .agg (Pv.cs ⟨⟨0, 0, 0, 0, 64, f, t⟩, true, Mv.zero, o, n, x⟩)) rfl (by kernel_rfl) (by kernel_rfl) (by kernel_rfl) (fun _ _ _ h => h) (ybdPd ptP (by rfl) _ _ _ _ _ rfl ⟨0, 0, 0, 0, 64, f, t⟩ o n x HK.out.1 rfl rfl rfl rfl rfl) (by assumption) ?_
  try simp only [List.getElem_toArray, List.getElem_cons_zero, List.getElem_cons_succ, Act.put, List.setIfInBounds_toArray, List.set_cons_zero, List.set_cons_succ]
  generalize hq : (⟨⟨0, 0, 0, 0, 64, f, t⟩, true, Mv.zero, o, n, x⟩ : Pv) = q at *
  have HQ := hid hq
  clear hq
  have F3 := hid (F2.out.rowOther g3 q.cs (by have := HG.out; omega))
  have T3 := hid (T2.out.rowOther g3 q.cs (by have := HG.out; omega))
  have R3 := hid (R2.out.rowOther g3 q.cs (by have := HG.out; omega))
  have Z3 := hid (Z2.out.setRow q.cs)
  have B3 := hid (below_setRow' B2.out (g := g3) (by have := HG.out; omega) q.cs)
  have C3 := hid (own_setRowT (cs := q.cs) C2.out Z2.out (by decide))
  refine anyH_st 8 ?qwa rfl rfl 41 _ _ rfl g3 q.cs ?qwb ?qwc 41 Pv.zero.cs ?qwd ?qwe ?qwf ?qwg ?qwh ?_
  case qwa => kernel_rfl
  case qwb => rfl
  case qwc => rfl
  case qwd => exact Z2.out
  case qwe => rw [Pv.size HK.out]; exact ptP.info
  case qwf => rw [Pv.size HK.out, Pv.size Pv.zero_fit]
  case qwg => exact Pv.one _
  case qwh => exact ⟨F3, T3, R3⟩
  try simp only [List.getElem_toArray, List.getElem_cons_zero, List.getElem_cons_succ, Act.put, List.setIfInBounds_toArray, List.set_cons_zero, List.set_cons_succ]
  refine wpAnyH_done (by kernel_rfl) ?_ _
  go_wp2_with fail
  exact bodyPost_ret (resP ptP rfl _ _ g3 41 q HK.out rfl Z3.out) rfl ⟨⟨x, by rw [← HQ.out], C3, HXL.out, HXN.out⟩, B3.out⟩
end Go.Proofs.YtbklpelikaapoaaGreatDoor

namespace Go.Proofs.YtbklpelikaapoaaGreatDoor
open Go.ChangeShapes Go.WideShapes Go.ChangeAt Go.RowKit Go.Deep
set_option linter.unusedVariables false
set_option linter.unusedSimpArgs false

theorem lies_ahead {w w' : World} {B g : Nat} {a : Option Addr} {n cap : Nat} {F : List Int} (h : Lies .u8 w a n cap F) (ha : ∀ x, a = some x → 0 < n → x.block < B) (hg : w.grownBy w' (some g)) (hB : B ≤ g) (hw : B ≤ w.heap.size) : Lies .u8 w' a n cap F := by
  refine ⟨h.1, h.2.1, h.2.2.1, h.2.2.2.1, fun k hk => ?_⟩
  obtain ⟨b, off, he, hc⟩ := h.2.2.2.2 k hk
  have hb : b < B := ha ⟨b, off, none⟩ he (by omega)
  refine ⟨b, off, he, ?_⟩
  have := hg.block b (by omega) (fun e => by have := Option.some.inj e; omega)
  simp only [World.cell?, this]
  exact hc
/-- An option whose numbers are the call's own (from b on); its text lies ahead of B. -/
structure Mt (b B : Nat) (w : World) (o : Ov) : Prop where
  n : w.ownsRow b 3 1 o.n.v o.n.l.length (i64s o.n.l)
  nn : o.n.n = o.n.l.length
  ad : Adr o.ad
  t : Lies .u8 w o.t.a o.t.n o.t.cap o.t.l
  tb : ∀ x, o.t.a = some x → 0 < o.t.n → x.block < B
  oct : Oct o.t.l
theorem Mt.ok {b B : Nat} {w : World} {o : Ov} (h : Mt b B w o) : o.ok w := by
  refine ⟨?_, h.ad, h.t, h.oct⟩
  obtain ⟨a, cap, e, hl⟩ := owns_liesk h.n
  have e1 : Value.slice o.n.a o.n.n o.n.cap = .slice a o.n.l.length cap := e
  injection e1 with e2 e3 e4
  rw [e2, e3, e4]; exact hl
theorem Mt.below {b B : Nat} {w w' : World} {o : Ov} (h : Mt b B w o) (hb : Below w.heap.size w w') : Mt b B w' o := ⟨own_below h.n hb, h.nn, h.ad, h.t.below hb, h.tb, h.oct⟩
theorem Mt.row {b B : Nat} {w w' : World} {o : Ov} {g : Nat} {c : Array Value} (h : Mt b B w o) (hr : Row w g 38 c) (hg : w.grownBy w' (some g)) (hB : B ≤ g) (hw : B ≤ w.heap.size) : Mt b B w' o :=
  ⟨h.n.kept hg (.inr (own_row h.n hr (by decide))), h.nn, h.ad, lies_ahead h.t h.tb hg hB hw, h.tb, h.oct⟩
structure MtM (b B : Nat) (w : World) (m : Mv) : Prop where
  ro : Adr m.ro
  own : w.ownsRow b 140 19 (.slice m.oa m.on m.oc) m.on (ocs m.L)
  all : ∀ o ∈ m.L, Mt b B w o
  len : m.L.length = m.on
theorem MtM.ok {b B : Nat} {w : World} {m : Mv} (h : MtM b B w m) : m.ok w := ⟨h.ro, opts_own h.len h.own (fun o ho => (h.all o ho).ok)⟩
theorem MtM.below {b B : Nat} {w w' : World} {m : Mv} (h : MtM b B w m) (hb : Below w.heap.size w w') : MtM b B w' m := ⟨h.ro, own_below h.own hb, fun o ho => (h.all o ho).below hb, h.len⟩
theorem MtM.row {b B : Nat} {w w' : World} {m : Mv} {g : Nat} {c : Array Value} (h : MtM b B w m) (hr : Row w g 38 c) (hg : w.grownBy w' (some g)) (hB : B ≤ g) (hw : B ≤ w.heap.size) : MtM b B w' m :=
  ⟨h.ro, h.own.kept hg (.inr (own_row h.own hr (by decide))), fun o ho => (h.all o ho).row hr hg hB hw, h.len⟩
end Go.Proofs.YtbklpelikaapoaaGreatDoor

namespace Go.Proofs.YtbklpelikaapoaaGreatDoor
open Go.ChangeShapes Go.WideShapes Go.ChangeAt Go.RowKit
set_option linter.unusedVariables false
set_option linter.unusedSimpArgs false

end Go.Proofs.YtbklpelikaapoaaGreatDoor

namespace Go.Proofs.YtbklpelikaapoaaGreatDoor
open Go.ChangeShapes Go.WideShapes Go.ChangeAt Go.RowKit Go.Deep
set_option linter.unusedVariables false
set_option linter.unusedSimpArgs false

/-- A packet whose message is the call's own (from b on); texts lie ahead of B. -/
structure PtM (b B : Nat) (w : World) (p : Pv) : Prop where
  h : p.h.ok
  m : MtM b B w p.m
  t : Lies .u8 w p.t.a p.t.n p.t.cap p.t.l
  tb : ∀ x, p.t.a = some x → 0 < p.t.n → x.block < B
  oct : Oct p.t.l
theorem PtM.ok {b B : Nat} {w : World} {p : Pv} (h : PtM b B w p) : p.ok w := ⟨h.h, h.m.ok, ⟨h.t, h.oct⟩⟩
theorem PtM.fit {b B : Nat} {w : World} {p : Pv} (h : PtM b B w p) : p.fit := h.ok.fit
theorem PtM.below {b B : Nat} {w w' : World} {p : Pv} (h : PtM b B w p) (hb : Below w.heap.size w w') : PtM b B w' p := ⟨h.h, h.m.below hb, h.t.below hb, h.tb, h.oct⟩
theorem Mt.rowT {b B : Nat} {w w' : World} {o : Ov} {g : Nat} {t : TypeId} {c : Array Value} (h : Mt b B w o) (hr : Row w g t c) (h3 : (3 : TypeId) ≠ t) (hg : w.grownBy w' (some g)) (hB : B ≤ g) (hw : B ≤ w.heap.size) : Mt b B w' o :=
  ⟨h.n.kept hg (.inr (own_row h.n hr h3)), h.nn, h.ad, lies_ahead h.t h.tb hg hB hw, h.tb, h.oct⟩
theorem MtM.rowT {b B : Nat} {w w' : World} {m : Mv} {g : Nat} {t : TypeId} {c : Array Value} (h : MtM b B w m) (hr : Row w g t c) (h3 : (3 : TypeId) ≠ t) (hO : (140 : TypeId) ≠ t) (hg : w.grownBy w' (some g)) (hB : B ≤ g) (hw : B ≤ w.heap.size) : MtM b B w' m :=
  ⟨h.ro, h.own.kept hg (.inr (own_row h.own hr hO)), fun o ho => (h.all o ho).rowT hr h3 hg hB hw, h.len⟩
theorem PtM.row {b B : Nat} {w w' : World} {p : Pv} {g : Nat} {t : TypeId} {c : Array Value} (h : PtM b B w p) (hr : Row w g t c) (h3 : (3 : TypeId) ≠ t) (hO : (140 : TypeId) ≠ t) (hg : w.grownBy w' (some g)) (hB : B ≤ g) (hw : B ≤ w.heap.size) : PtM b B w' p :=
  ⟨h.h, h.m.rowT hr h3 hO hg hB hw, lies_ahead h.t h.tb hg hB hw, h.tb, h.oct⟩
end Go.Proofs.YtbklpelikaapoaaGreatDoor

namespace Go.Proofs.YtbklpelikaapoaaGreatDoor
open Go.ChangeShapes Go.WideShapes Go.ChangeAt Go.RowKit
set_option linter.unusedVariables false
set_option linter.unusedSimpArgs false

def Txt.four (t : Txt) : Txt4 := ⟨t.a, t.n, t.cap, t.l⟩
theorem texts_four {w : World} {a : Option Addr} {n cap : Nat} {L : List Txt} (h : Texts w a n cap L) : Texts4 w a n cap (L.map Txt.four) := by
  refine ⟨by simpa using h.1, h.2.1, h.2.2.1, fun k hk => ?_, fun t ht => ?_⟩
  · obtain ⟨b, off, he, hc⟩ := h.2.2.2.1 k hk
    refine ⟨b, off, he, ?_⟩
    rw [hc]
    have hkl : k < L.length := by rw [h.1]; exact hk
    simp [hkl, Txt.v, Txt4.v, Txt.four]
  · obtain ⟨t', ht', rfl⟩ := List.mem_map.1 ht
    exact h.2.2.2.2 t' ht'
end Go.Proofs.YtbklpelikaapoaaGreatDoor
