/- The law's To: what is its own. · rivuletlaw05's To and Of. · rivuletlaw09's To: what is its own. · DatagramBends' walk. · What the rows' lists give of the table of codes, and how a message that came in is opened. · A world that meets the rows' lists. · A header that came in. · How an option that came in is opened. -/
import Derived.Test.YtbklpelikaapoaaGreatDoorM5
import Derived.Test.YtbklpelikaapoaaGreatDoorM6
import Derived.Test.YtbklpelikaapoaaGreatDoorM13
import Derived.Test.YtbklpelikaapoaaGreatDoorM10
import Derived.Test.YtbklpelikaapoaaGreatDoorM15
import Derived.Test.YtbklpelikaapoaaGreatDoorM3
import Derived.ChangeSame
import Derived.Deep.Strs
namespace Go.Proofs.YtbklpelikaapoaaGreatDoor
open Go.ChangeShapes Go.WideShapes Go.ChangeAt Go.RowKit Go.Deep
set_option linter.unusedVariables false
set_option linter.unusedSimpArgs false

theorem lies_ahead {w w' : World} {B g : Nat} {a : Option Addr} {n cap : Nat} {F : List Int} (h : Lies .u8 w a n cap F) (ha : ∀ x, a = some x → 0 < n → x.block < B) (hg : w.grownBy w' (some g)) (hB : B ≤ g) (hw : B ≤ w.heap.size) : Lies .u8 w' a n cap F := by
  refine ⟨h.1, h.2.1, h.2.2.1, h.2.2.2.1, fun k hk => ?_⟩
  obtain ⟨b, off, he, hc⟩ := h.2.2.2.2 k hk
  have hb : b < B := ha ⟨b, off, none⟩ he (by omega)
  refine ⟨b, off, he, ?_⟩
  have := hg.block b (by omega) (fun e => by have := Option.some.inj e; omega)
  simp only [World.cell?, this]
  exact hc
/-- An option whose numbers are the call's own (from b on); its text lies ahead of B. -/
structure Mt (b B : Nat) (w : World) (o : Ov) : Prop where
  n : w.ownsRow b 3 1 o.n.v o.n.l.length (i64s o.n.l)
  nn : o.n.n = o.n.l.length
  ad : Adr o.ad
  t : Lies .u8 w o.t.a o.t.n o.t.cap o.t.l
  tb : ∀ x, o.t.a = some x → 0 < o.t.n → x.block < B
  oct : Oct o.t.l
theorem Mt.ok {b B : Nat} {w : World} {o : Ov} (h : Mt b B w o) : o.ok w := by
  refine ⟨?_, h.ad, h.t, h.oct⟩
  obtain ⟨a, cap, e, hl⟩ := owns_liesk h.n
  have e1 : Value.slice o.n.a o.n.n o.n.cap = .slice a o.n.l.length cap := e
  injection e1 with e2 e3 e4
  rw [e2, e3, e4]; exact hl
theorem Mt.below {b B : Nat} {w w' : World} {o : Ov} (h : Mt b B w o) (hb : Below w.heap.size w w') : Mt b B w' o := ⟨own_below h.n hb, h.nn, h.ad, h.t.below hb, h.tb, h.oct⟩
theorem Mt.row {b B : Nat} {w w' : World} {o : Ov} {g : Nat} {c : Array Value} (h : Mt b B w o) (hr : Row w g 38 c) (hg : w.grownBy w' (some g)) (hB : B ≤ g) (hw : B ≤ w.heap.size) : Mt b B w' o :=
  ⟨h.n.kept hg (.inr (own_row h.n hr (by decide))), h.nn, h.ad, lies_ahead h.t h.tb hg hB hw, h.tb, h.oct⟩
structure MtM (b B : Nat) (w : World) (m : Mv) : Prop where
  ro : Adr m.ro
  own : w.ownsRow b 140 19 (.slice m.oa m.on m.oc) m.on (ocs m.L)
  all : ∀ o ∈ m.L, Mt b B w o
  len : m.L.length = m.on
theorem MtM.ok {b B : Nat} {w : World} {m : Mv} (h : MtM b B w m) : m.ok w := ⟨h.ro, opts_own h.len h.own (fun o ho => (h.all o ho).ok)⟩
theorem MtM.below {b B : Nat} {w w' : World} {m : Mv} (h : MtM b B w m) (hb : Below w.heap.size w w') : MtM b B w' m := ⟨h.ro, own_below h.own hb, fun o ho => (h.all o ho).below hb, h.len⟩
theorem MtM.row {b B : Nat} {w w' : World} {m : Mv} {g : Nat} {c : Array Value} (h : MtM b B w m) (hr : Row w g 38 c) (hg : w.grownBy w' (some g)) (hB : B ≤ g) (hw : B ≤ w.heap.size) : MtM b B w' m :=
  ⟨h.ro, h.own.kept hg (.inr (own_row h.own hr (by decide))), fun o ho => (h.all o ho).row hr hg hB hw, h.len⟩
set_option maxRecDepth 100000 in
set_option maxHeartbeats 1600000 in
theorem cTo_own (W0 : World) (m : Mv) (w : World) (hm0 : m.ok W0) (hb0 : Below W0.heap.size W0 w) (hwf : Wfo m.L) : Calls Tryz.prog 18 #[.agg m.cs] w fun e w' => (∃ m' : Mv, e = .returned (.agg m'.cs) ∧ m'.on ≤ 20 ∧ Hid (MtM W0.heap.size W0.heap.size w' m') ∧ Hid (Wfo m'.L)) ∧ Below w.heap.size w w' := by
  have hz := zmv
  have hm := hm0.below hb0
  have HM0 := hid hm0
  have HB0 := hid hb0
  have HA := hid hm.ro
  have R1 := hid ((Row.new w 27 m.cs).alloc (.cells Mv.zero.cs 38))
  have Z1 := hid (Row.new (w.alloc (.cells m.cs 27)) 38 Mv.zero.cs)
  have B1 := hid (balloc (balloc (Below.refl w.heap.size w) (.cells m.cs 27)) (.cells Mv.zero.cs 38))
  have hs1 : (w.alloc (.cells m.cs 27)).heap.size = w.heap.size + 1 := World.size_alloc ..
  have hs2 : ((w.alloc (.cells m.cs 27)).alloc (.cells Mv.zero.cs 38)).heap.size = w.heap.size + 2 := by rw [World.size_alloc, hs1]
  have HOm := hid hm.o
  have O1 := hid (hm.o.below B1.out)
  have HW := hid hwf
  rw [hs1] at Z1
  clear hm hm0 hb0
  go_enter Tryz.func18, Tryz.ntmps18
  go_upto_region 1 with fail
  generalize hw1 : (w.alloc (.cells m.cs 27)).alloc (.cells Mv.zero.cs 38) = w1 at *
  have B1 : Hid (Below w.heap.size w w1.drew) := hid (B1.out.trans ⟨rfl, rfl, rfl, Nat.le_refl _, fun _ _ => rfl⟩)
  have R1 : Hid (Row w1.drew w.heap.size 27 m.cs) := R1
  have Z1 : Hid (Row w1.drew (w.heap.size + 1) 38 Mv.zero.cs) := Z1
  have O1 : Hid (Opts w1.drew m.oa m.on m.oc m.L) := hid (O1.out.below (bdrew (Below.refl _ _) 1))
  have hs2 : w1.drew.heap.size = w.heap.size + 2 := hs2
  generalize hg0 : w.heap.size = g0 at *
  clear hw1 hs1 hz
  refine wp_region_held_drew (S := fun w' => w'.cell? ⟨g0, 0, none⟩ = some (.int .i64 m.c) ∧ (w'.cell? ⟨g0, 1, none⟩ = some (.int .i64 m.i) ∧ (w'.cell? ⟨g0, 2, none⟩ = some (.int .i64 m.v) ∧ (w'.cell? ⟨g0, 3, none⟩ = some (.int .i64 m.r) ∧ (w'.cell? ⟨g0, 4, none⟩ = some (.int .i64 m.mo) ∧ (w'.cell? ⟨g0, 5, none⟩ = some (.int .i64 m.pf) ∧ (w'.cell? ⟨g0, 6, none⟩ = some (.int .i64 m.d) ∧ (w'.cell? ⟨g0, 7, none⟩ = some (.int .i64 m.sq) ∧ (w'.cell? ⟨g0, 8, none⟩ = some (.int .i64 m.st) ∧ (w'.cell? ⟨g0, 9, none⟩ = some (.bool m.g) ∧ (w'.cell? ⟨g0, 10, none⟩ = some (.bool m.a) ∧ (w'.cell? ⟨g0, 27, none⟩ = some (.slice m.oa m.on m.oc) ∧ (Hid (Row w' g0 27 m.cs)))))))))))))) (by kernel_rfl) ?_ (fun hHeld => ?_)
  · exact ⟨(R1.out.cell 0).trans m.at0, (R1.out.cell 1).trans m.at1, (R1.out.cell 2).trans m.at2, (R1.out.cell 3).trans m.at3, (R1.out.cell 4).trans m.at4, (R1.out.cell 5).trans m.at5, (R1.out.cell 6).trans m.at6, (R1.out.cell 7).trans m.at7, (R1.out.cell 8).trans m.at8, (R1.out.cell 9).trans m.at9, (R1.out.cell 10).trans m.at10, (R1.out.cell 27).trans (Mv.at27 HA.out), R1.out⟩
  refine wpAnyH_take (i := 0) (oi := _) (v := ?va0) rfl (by kernel_rfl) (by kernel_rfl) (by kernel_rfl) (fun _ _ _ h => h) (Or.inl ⟨by rfl, ?hya0⟩) (by assumption) ?resta0
  case hya0 => (intro w hSw; (try dsimp only at hSw); go_split_ands; go_simp; try (with_reducible rfl))
  try simp only [List.getElem_toArray, List.getElem_cons_zero, List.getElem_cons_succ, Act.put, List.setIfInBounds_toArray, List.set_cons_zero, List.set_cons_succ]
  refine wpAnyH_take (i := 1) (oi := _) (v := ?va1) rfl (by kernel_rfl) (by kernel_rfl) (by kernel_rfl) (fun _ _ _ h => h) (Or.inl ⟨by rfl, ?hya1⟩) (by assumption) ?resta1
  case hya1 => (intro w hSw; (try dsimp only at hSw); go_split_ands; go_simp; try (with_reducible rfl))
  try simp only [List.getElem_toArray, List.getElem_cons_zero, List.getElem_cons_succ, Act.put, List.setIfInBounds_toArray, List.set_cons_zero, List.set_cons_succ]
  refine wpAnyH_take (i := 2) (oi := _) (v := ?va2) rfl (by kernel_rfl) (by kernel_rfl) (by kernel_rfl) (fun _ _ _ h => h) (Or.inl ⟨by rfl, ?hya2⟩) (by assumption) ?resta2
  case hya2 => (intro w hSw; (try dsimp only at hSw); go_split_ands; go_simp; try (with_reducible rfl))
  try simp only [List.getElem_toArray, List.getElem_cons_zero, List.getElem_cons_succ, Act.put, List.setIfInBounds_toArray, List.set_cons_zero, List.set_cons_succ]
  refine wpAnyH_take (i := 3) (oi := _) (v := ?va3) rfl (by kernel_rfl) (by kernel_rfl) (by kernel_rfl) (fun _ _ _ h => h) (Or.inl ⟨by rfl, ?hya3⟩) (by assumption) ?resta3
  case hya3 => (intro w hSw; (try dsimp only at hSw); go_split_ands; go_simp; try (with_reducible rfl))
  try simp only [List.getElem_toArray, List.getElem_cons_zero, List.getElem_cons_succ, Act.put, List.setIfInBounds_toArray, List.set_cons_zero, List.set_cons_succ]
  refine wpAnyH_take (i := 4) (oi := _) (v := ?va4) rfl (by kernel_rfl) (by kernel_rfl) (by kernel_rfl) (fun _ _ _ h => h) (Or.inl ⟨by rfl, ?hya4⟩) (by assumption) ?resta4
  case hya4 => (intro w hSw; (try dsimp only at hSw); go_split_ands; go_simp; try (with_reducible rfl))
  try simp only [List.getElem_toArray, List.getElem_cons_zero, List.getElem_cons_succ, Act.put, List.setIfInBounds_toArray, List.set_cons_zero, List.set_cons_succ]
  refine wpAnyH_take (i := 5) (oi := _) (v := ?va5) rfl (by kernel_rfl) (by kernel_rfl) (by kernel_rfl) (fun _ _ _ h => h) (Or.inl ⟨by rfl, ?hya5⟩) (by assumption) ?resta5
  case hya5 => (intro w hSw; (try dsimp only at hSw); go_split_ands; go_simp; try (with_reducible rfl))
  try simp only [List.getElem_toArray, List.getElem_cons_zero, List.getElem_cons_succ, Act.put, List.setIfInBounds_toArray, List.set_cons_zero, List.set_cons_succ]
  refine wpAnyH_take (i := 6) (oi := _) (v := ?va6) rfl (by kernel_rfl) (by kernel_rfl) (by kernel_rfl) (fun _ _ _ h => h) (Or.inl ⟨by rfl, ?hya6⟩) (by assumption) ?resta6
  case hya6 => (intro w hSw; (try dsimp only at hSw); go_split_ands; go_simp; try (with_reducible rfl))
  try simp only [List.getElem_toArray, List.getElem_cons_zero, List.getElem_cons_succ, Act.put, List.setIfInBounds_toArray, List.set_cons_zero, List.set_cons_succ]
  refine wpAnyH_take (i := 7) (oi := _) (v := ?va7) rfl (by kernel_rfl) (by kernel_rfl) (by kernel_rfl) (fun _ _ _ h => h) (Or.inl ⟨by rfl, ?hya7⟩) (by assumption) ?resta7
  case hya7 => (intro w hSw; (try dsimp only at hSw); go_split_ands; go_simp; try (with_reducible rfl))
  try simp only [List.getElem_toArray, List.getElem_cons_zero, List.getElem_cons_succ, Act.put, List.setIfInBounds_toArray, List.set_cons_zero, List.set_cons_succ]
  refine wpAnyH_take (i := 8) (oi := _) (v := ?va8) rfl (by kernel_rfl) (by kernel_rfl) (by kernel_rfl) (fun _ _ _ h => h) (Or.inl ⟨by rfl, ?hya8⟩) (by assumption) ?resta8
  case hya8 => (intro w hSw; (try dsimp only at hSw); go_split_ands; go_simp; try (with_reducible rfl))
  try simp only [List.getElem_toArray, List.getElem_cons_zero, List.getElem_cons_succ, Act.put, List.setIfInBounds_toArray, List.set_cons_zero, List.set_cons_succ]
  refine wpAnyH_take (i := 9) (oi := _) (v := ?va9) rfl (by kernel_rfl) (by kernel_rfl) (by kernel_rfl) (fun _ _ _ h => h) (Or.inl ⟨by rfl, ?hya9⟩) (by assumption) ?resta9
  case hya9 => (intro w hSw; (try dsimp only at hSw); go_split_ands; go_simp; try (with_reducible rfl))
  try simp only [List.getElem_toArray, List.getElem_cons_zero, List.getElem_cons_succ, Act.put, List.setIfInBounds_toArray, List.set_cons_zero, List.set_cons_succ]
  refine wpAnyH_take (i := 10) (oi := _) (v := ?va10) rfl (by kernel_rfl) (by kernel_rfl) (by kernel_rfl) (fun _ _ _ h => h) (Or.inl ⟨by rfl, ?hya10⟩) (by assumption) ?resta10
  case hya10 => (intro w hSw; (try dsimp only at hSw); go_split_ands; go_simp; try (with_reducible rfl))
  try simp only [List.getElem_toArray, List.getElem_cons_zero, List.getElem_cons_succ, Act.put, List.setIfInBounds_toArray, List.set_cons_zero, List.set_cons_succ]
  refine wpAnyH_take (i := 11) (oi := _) (v := ?va11) rfl (by kernel_rfl) (by kernel_rfl) (by kernel_rfl) (fun _ _ _ h => h) (Or.inl ⟨by rfl, ?hya11⟩) (by assumption) ?resta11
  case hya11 => (intro w hSw; (try dsimp only at hSw); go_split_ands; go_simp; try (with_reducible rfl))
  try simp only [List.getElem_toArray, List.getElem_cons_zero, List.getElem_cons_succ, Act.put, List.setIfInBounds_toArray, List.set_cons_zero, List.set_cons_succ]
  refine wpAnyH_take (i := 12) (oi := _) (v := ?va12) rfl (by kernel_rfl) (by kernel_rfl) (by kernel_rfl) (fun _ _ _ h => h) (Or.inl ⟨by rfl, ?hya12⟩) (by assumption) ?resta12
  case hya12 => (intro w hSw; (try dsimp only at hSw); go_split_ands; go_simp; try (with_reducible rfl))
  try simp only [List.getElem_toArray, List.getElem_cons_zero, List.getElem_cons_succ, Act.put, List.setIfInBounds_toArray, List.set_cons_zero, List.set_cons_succ]
  refine wpAnyH_take (i := 13) (oi := _) (v := ?va13) rfl (by kernel_rfl) (by kernel_rfl) (by kernel_rfl) (fun _ _ _ h => h) (Or.inl ⟨by rfl, ?hya13⟩) (by assumption) ?resta13
  case hya13 => (intro w hSw; (try dsimp only at hSw); go_split_ands; go_simp; try (with_reducible rfl))
  try simp only [List.getElem_toArray, List.getElem_cons_zero, List.getElem_cons_succ, Act.put, List.setIfInBounds_toArray, List.set_cons_zero, List.set_cons_succ]
  refine wpAnyH_take (i := 14) (oi := _) (v := ?va14) rfl (by kernel_rfl) (by kernel_rfl) (by kernel_rfl) (fun _ _ _ h => h) (Or.inl ⟨by rfl, ?hya14⟩) (by assumption) ?resta14
  case hya14 => (intro w hSw; (try dsimp only at hSw); go_split_ands; go_simp; try (with_reducible rfl))
  try simp only [List.getElem_toArray, List.getElem_cons_zero, List.getElem_cons_succ, Act.put, List.setIfInBounds_toArray, List.set_cons_zero, List.set_cons_succ]
  refine wpAnyH_take (i := 15) (oi := _) (v := ?va15) rfl (by kernel_rfl) (by kernel_rfl) (by kernel_rfl) (fun _ _ _ h => h) (Or.inl ⟨by rfl, ?hya15⟩) (by assumption) ?resta15
  case hya15 => (intro w hSw; (try dsimp only at hSw); go_split_ands; go_simp; try (with_reducible rfl))
  try simp only [List.getElem_toArray, List.getElem_cons_zero, List.getElem_cons_succ, Act.put, List.setIfInBounds_toArray, List.set_cons_zero, List.set_cons_succ]
  refine wpAnyH_take (i := 16) (oi := _) (v := ?va16) rfl (by kernel_rfl) (by kernel_rfl) (by kernel_rfl) (fun _ _ _ h => h) (Or.inl ⟨by rfl, ?hya16⟩) (by assumption) ?resta16
  case hya16 => (intro w hSw; (try dsimp only at hSw); go_split_ands; go_simp; try (with_reducible rfl))
  try simp only [List.getElem_toArray, List.getElem_cons_zero, List.getElem_cons_succ, Act.put, List.setIfInBounds_toArray, List.set_cons_zero, List.set_cons_succ]
  refine wpAnyH_take (i := 17) (oi := _) (v := ?va17) rfl (by kernel_rfl) (by kernel_rfl) (by kernel_rfl) (fun _ _ _ h => h) (Or.inl ⟨by rfl, ?hya17⟩) (by assumption) ?resta17
  case hya17 => (intro w hSw; (try dsimp only at hSw); go_split_ands; go_simp; try (with_reducible rfl))
  try simp only [List.getElem_toArray, List.getElem_cons_zero, List.getElem_cons_succ, Act.put, List.setIfInBounds_toArray, List.set_cons_zero, List.set_cons_succ]
  refine wpAnyH_take (i := 18) (oi := _) (v := ?va18) rfl (by kernel_rfl) (by kernel_rfl) (by kernel_rfl) (fun _ _ _ h => h) (Or.inl ⟨by rfl, ?hya18⟩) (by assumption) ?resta18
  case hya18 => (intro w hSw; (try dsimp only at hSw); go_split_ands; go_simp; try (with_reducible rfl))
  try simp only [List.getElem_toArray, List.getElem_cons_zero, List.getElem_cons_succ, Act.put, List.setIfInBounds_toArray, List.set_cons_zero, List.set_cons_succ]
  refine wpAnyH_take (i := 19) (oi := _) (v := ?va19) rfl (by kernel_rfl) (by kernel_rfl) (by kernel_rfl) (fun _ _ _ h => h) (Or.inl ⟨by rfl, ?hya19⟩) (by assumption) ?resta19
  case hya19 => (intro w hSw; (try dsimp only at hSw); go_split_ands; go_simp; try (with_reducible rfl))
  try simp only [List.getElem_toArray, List.getElem_cons_zero, List.getElem_cons_succ, Act.put, List.setIfInBounds_toArray, List.set_cons_zero, List.set_cons_succ]
  refine wpAnyH_take (i := 20) (oi := _) (v := ?va20) rfl (by kernel_rfl) (by kernel_rfl) (by kernel_rfl) (fun _ _ _ h => h) (Or.inl ⟨by rfl, ?hya20⟩) (by assumption) ?resta20
  case hya20 => (intro w hSw; (try dsimp only at hSw); go_split_ands; go_simp; try (with_reducible rfl))
  try simp only [List.getElem_toArray, List.getElem_cons_zero, List.getElem_cons_succ, Act.put, List.setIfInBounds_toArray, List.set_cons_zero, List.set_cons_succ]
  refine wpAnyH_take (i := 21) (oi := _) (v := ?va21) rfl (by kernel_rfl) (by kernel_rfl) (by kernel_rfl) (fun _ _ _ h => h) (Or.inl ⟨by rfl, ?hya21⟩) (by assumption) ?resta21
  case hya21 => (intro w hSw; (try dsimp only at hSw); go_split_ands; go_simp; try (with_reducible rfl))
  try simp only [List.getElem_toArray, List.getElem_cons_zero, List.getElem_cons_succ, Act.put, List.setIfInBounds_toArray, List.set_cons_zero, List.set_cons_succ]
  refine wpAnyH_take (i := 22) (oi := _) (v := ?va22) rfl (by kernel_rfl) (by kernel_rfl) (by kernel_rfl) (fun _ _ _ h => h) (Or.inl ⟨by rfl, ?hya22⟩) (by assumption) ?resta22
  case hya22 => (intro w hSw; (try dsimp only at hSw); go_split_ands; go_simp; try (with_reducible rfl))
  try simp only [List.getElem_toArray, List.getElem_cons_zero, List.getElem_cons_succ, Act.put, List.setIfInBounds_toArray, List.set_cons_zero, List.set_cons_succ]
  refine wpAnyH_take (i := 23) (oi := _) (v := .agg (arr m.ro)) rfl (by kernel_rfl) (by kernel_rfl) (by kernel_rfl) (fun _ _ _ h => h) (yld36 (by rfl) _ rfl g0 11 rfl m.ro HA.out (fun w h => by have := h.2.2.2.2.2.2.2.2.2.2.2.2.out.part.mvA HA.out; simpa using this)) (by assumption) ?_
  try simp only [List.getElem_toArray, List.getElem_cons_zero, List.getElem_cons_succ, Act.put, List.setIfInBounds_toArray, List.set_cons_zero, List.set_cons_succ]
  refine wpAnyH_take (i := 24) (oi := _) (v := ?va24) rfl (by kernel_rfl) (by kernel_rfl) (by kernel_rfl) (fun _ _ _ h => h) (Or.inl ⟨by rfl, ?hya24⟩) (by assumption) ?resta24
  case hya24 => (intro w hSw; (try dsimp only at hSw); go_split_ands; go_simp; try (with_reducible rfl))
  try simp only [List.getElem_toArray, List.getElem_cons_zero, List.getElem_cons_succ, Act.put, List.setIfInBounds_toArray, List.set_cons_zero, List.set_cons_succ]
  refine wpAnyH_take (i := 25) (oi := _) (v := ?va25) rfl (by kernel_rfl) (by kernel_rfl) (by kernel_rfl) (fun _ _ _ h => h) (Or.inl ⟨by rfl, ?hya25⟩) (by assumption) ?resta25
  case hya25 => (intro w hSw; (try dsimp only at hSw); go_split_ands; go_simp; try (with_reducible rfl))
  try simp only [List.getElem_toArray, List.getElem_cons_zero, List.getElem_cons_succ, Act.put, List.setIfInBounds_toArray, List.set_cons_zero, List.set_cons_succ]
  refine wpAnyH_ready (rs := [26]) (by kernel_rfl) (by simp) ?_
  refine AllReadyH.cons (o := _) rfl (fun K hK => ?_) AllReadyH.nil
  go_simp
  refine (optTo2_any m.oa m.on m.oc m.L _ O1.out).mono ?_
  rintro e w2 ⟨a2, c2, L2, rfl, hO2, hp2, hS2, hM2, hT2, hb2⟩
  have R2 := hid (R1.out.below hb2)
  have Z2 := hid (Z1.out.below hb2)
  have B2 : Hid (Below g0 w w2) := hid (B1.out.trans (hb2.mono (by omega)))
  have O2 := hid hO2
  have P2 := hid hp2
  have S2 := hid hS2
  have M2 := hid hM2
  have T2 := hid hT2
  have BW := hid B1.out
  have hs3 := hb2.size
  clear hO2 hp2 hS2 hM2 hT2 hb2 R1 Z1 O1
  generalize hn2 : min m.on 20 = n2 at *
  have hn20 : n2 ≤ 20 := by omega
  clear hn2
  go_wp2_with fail
  refine hK.out _ _ ⟨(R2.out.cell 0).trans m.at0, (R2.out.cell 1).trans m.at1, (R2.out.cell 2).trans m.at2, (R2.out.cell 3).trans m.at3, (R2.out.cell 4).trans m.at4, (R2.out.cell 5).trans m.at5, (R2.out.cell 6).trans m.at6, (R2.out.cell 7).trans m.at7, (R2.out.cell 8).trans m.at8, (R2.out.cell 9).trans m.at9, (R2.out.cell 10).trans m.at10, (R2.out.cell 27).trans (Mv.at27 HA.out), R2.out⟩ (fun hHeld => ?_)
  clear hK K
  try simp only [List.getElem_toArray, List.getElem_cons_zero, List.getElem_cons_succ, Act.put, List.setIfInBounds_toArray, List.set_cons_zero, List.set_cons_succ]
  refine wpAnyH_take (i := 27) (oi := _) (v := .agg (Mv.cs (m.opt a2 n2 c2 L2))) rfl (by kernel_rfl) (by kernel_rfl) (by kernel_rfl) (fun _ _ _ h => h) (ybdM m29 (by rfl) _ _ _ _ _ _ _ _ _ _ _ _ _ rfl (m.opt a2 n2 c2 L2) HA.out rfl rfl rfl rfl rfl rfl rfl rfl rfl rfl rfl rfl rfl) (by assumption) ?_
  try simp only [List.getElem_toArray, List.getElem_cons_zero, List.getElem_cons_succ, Act.put, List.setIfInBounds_toArray, List.set_cons_zero, List.set_cons_succ]
  refine wpAnyH_ready (rs := [28]) (by kernel_rfl) (by simp) ?_
  refine AllReadyH.cons (o := _) rfl (fun K hK => ?_) AllReadyH.nil
  refine step_st rfl 38 _ _ rfl (g0 + 1) (Mv.cs (m.opt a2 n2 c2 L2)) rfl rfl 38 Mv.zero.cs (by exact Z2.out) (by rw [Mv.size (m := (m.opt a2 n2 c2 L2)) HA.out]; exact m29.info) (by rw [Mv.size adr_zeros, Mv.size (m := (m.opt a2 n2 c2 L2)) HA.out]) (Mv.one _) ?_
  have R3 := hid (R2.out.rowOther (g0 + 1) (Mv.cs (m.opt a2 n2 c2 L2)) (by omega))
  have Z3 := hid (Z2.out.setRow (Mv.cs (m.opt a2 n2 c2 L2)))
  have B3 := hid (below_setRow' B2.out (g := g0 + 1) (by omega) (Mv.cs (m.opt a2 n2 c2 L2)))
  refine hK.out _ _ ⟨(R3.out.cell 0).trans m.at0, (R3.out.cell 1).trans m.at1, (R3.out.cell 2).trans m.at2, (R3.out.cell 3).trans m.at3, (R3.out.cell 4).trans m.at4, (R3.out.cell 5).trans m.at5, (R3.out.cell 6).trans m.at6, (R3.out.cell 7).trans m.at7, (R3.out.cell 8).trans m.at8, (R3.out.cell 9).trans m.at9, (R3.out.cell 10).trans m.at10, (R3.out.cell 27).trans (Mv.at27 HA.out), R3.out⟩ (fun hHeld => ?_)
  clear hK K
  try simp only [List.getElem_toArray, List.getElem_cons_zero, List.getElem_cons_succ, Act.put, List.setIfInBounds_toArray, List.set_cons_zero, List.set_cons_succ]
  refine wpAnyH_done (by kernel_rfl) ?_ _
  go_wp2_with fail
  have B3' : Hid (Below w.heap.size w (w2.setRow (g0 + 1) (Mv.cs (m.opt a2 n2 c2 L2)))) := by rw [Hid, hg0]; exact B3.out
  have hW : W0.heap.size ≤ g0 := by rw [← hg0]; exact HB0.out.size
  have BW0 : Below W0.heap.size W0 (w2.setRow (g0 + 1) (Mv.cs (m.opt a2 n2 c2 L2))) := HB0.out.trans (B3'.out.mono (by rw [hg0]; exact hW))
  have OK3 : Hid (∀ o ∈ L2, Mt W0.heap.size W0.heap.size (w2.setRow (g0 + 1) (Mv.cs (m.opt a2 n2 c2 L2))) o) := by
    intro o ho
    have hM := M2.out o ho
    obtain ⟨o2, ho2, e1, e2⟩ := T2.out o ho
    have h2 := (HOm.out.ok o2 ho2).t
    have h0 := (HM0.out.o.ok o2 ho2).t
    rw [← e1] at h2 h0
    refine ⟨own_mono (own_setRowT (cs := Mv.cs (m.opt a2 n2 c2 L2)) hM.n Z2.out (by decide)) (by omega), hM.nn, hM.ad, text_keep hM.t (by rw [hg0]; exact BW.out) B3'.out h2 e2, ?_, hM.oct⟩
    intro x hx hn
    obtain ⟨b, off, e, hc⟩ := h0.2.2.2.2 0 (by omega)
    rw [hx] at e
    injection e with e
    rw [e]
    exact World.block_lt_of_cell? W0 _ hc
  exact bodyPost_ret (resM m29 rfl _ _ (g0 + 1) 38 (m.opt a2 n2 c2 L2) HA.out rfl Z3.out) rfl ⟨⟨(m.opt a2 n2 c2 L2), rfl, hn20, hid ⟨HA.out, own_mono (own_setRowT (cs := Mv.cs (m.opt a2 n2 c2 L2)) S2.out Z2.out (by decide)) (by omega), OK3.out, O2.out.len⟩, hid (cut_wf P2.out HW.out)⟩, B3'.out⟩
end Go.Proofs.YtbklpelikaapoaaGreatDoor

namespace Go.Proofs.YtbklpelikaapoaaGreatDoor
open Go.ChangeShapes Go.WideShapes Go.ChangeAt Go.RowKit
set_option linter.unusedVariables false
set_option linter.unusedSimpArgs false

set_option maxHeartbeats 400000 in
theorem hdrTo_any (h : Hd) (k : h.ok) (w : World) :
    Calls Tryz.prog 24 #[.agg h.cs] w fun e w' => e = .returned (.agg h.cs) ∧ Below w.heap.size w w' := by
  have hz := zhd
  have R0 : Row ((w.alloc (.cells h.cs 24)).alloc (.cells Hd.zero.cs 35)) w.heap.size 24 h.cs := (Row.new w 24 _).alloc _
  have R1 : Row ((w.alloc (.cells h.cs 24)).alloc (.cells Hd.zero.cs 35)) (w.heap.size + 1) 35 Hd.zero.cs := by simpa using Row.new (w.alloc (.cells h.cs 24)) 35 Hd.zero.cs
  have B1 := hid (balloc (balloc (Below.refl w.heap.size w) (.cells h.cs 24)) (.cells Hd.zero.cs 35))
  have c0 := (R0.cell 0).trans h.at0
  have c1 := (R0.cell 1).trans h.at1
  have c2 := (R0.cell 2).trans h.at2
  have c3 := (R0.cell 3).trans h.at3
  have c4 := (R0.cell 4).trans h.at4
  have HR0 := hid R0
  have HR1 := hid R1
  clear R0 R1
  go_enter Tryz.func24, Tryz.ntmps24
  go_upto_region 1 with fail
  clear hz
  generalize (w.alloc (.cells h.cs 24)).alloc (.cells Hd.zero.cs 35) = w1 at *
  go_wp2_with (first
    | (refine ldAr _ rfl rfl w.heap.size 5 rfl h.f k.1.1 (HR0.out.partF k) ?_)
    | (refine ldAr _ rfl rfl w.heap.size 21 rfl h.t k.2.1 (HR0.out.partT k) ?_)
    | (refine bdHd _ _ _ _ _ _ _ rfl rfl h k rfl rfl rfl rfl rfl rfl rfl ?_)
    | (refine stHd _ _ rfl rfl (w.heap.size + 1) h k rfl rfl 35 Hd.zero Hd.zero_ok HR1.out ?_))
  exact bodyPost_ret (resHd rfl _ _ (w.heap.size + 1) 35 h k rfl (HR1.out.setRow _)) rfl ⟨rfl, below_setRow' B1.out (by omega) _⟩
end Go.Proofs.YtbklpelikaapoaaGreatDoor

namespace Go.Proofs.YtbklpelikaapoaaGreatDoor
open Go.ChangeShapes Go.WideShapes Go.ChangeAt Go.RowKit Go.Deep
set_option linter.unusedVariables false
set_option linter.unusedSimpArgs false

/-- A packet whose message is the call's own (from b on); texts lie ahead of B. -/
structure PtM (b B : Nat) (w : World) (p : Pv) : Prop where
  h : p.h.ok
  m : MtM b B w p.m
  t : Lies .u8 w p.t.a p.t.n p.t.cap p.t.l
  tb : ∀ x, p.t.a = some x → 0 < p.t.n → x.block < B
  oct : Oct p.t.l
theorem PtM.ok {b B : Nat} {w : World} {p : Pv} (h : PtM b B w p) : p.ok w := ⟨h.h, h.m.ok, ⟨h.t, h.oct⟩⟩
theorem PtM.fit {b B : Nat} {w : World} {p : Pv} (h : PtM b B w p) : p.fit := h.ok.fit
theorem PtM.below {b B : Nat} {w w' : World} {p : Pv} (h : PtM b B w p) (hb : Below w.heap.size w w') : PtM b B w' p := ⟨h.h, h.m.below hb, h.t.below hb, h.tb, h.oct⟩
theorem Mt.rowT {b B : Nat} {w w' : World} {o : Ov} {g : Nat} {t : TypeId} {c : Array Value} (h : Mt b B w o) (hr : Row w g t c) (h3 : (3 : TypeId) ≠ t) (hg : w.grownBy w' (some g)) (hB : B ≤ g) (hw : B ≤ w.heap.size) : Mt b B w' o :=
  ⟨h.n.kept hg (.inr (own_row h.n hr h3)), h.nn, h.ad, lies_ahead h.t h.tb hg hB hw, h.tb, h.oct⟩
theorem MtM.rowT {b B : Nat} {w w' : World} {m : Mv} {g : Nat} {t : TypeId} {c : Array Value} (h : MtM b B w m) (hr : Row w g t c) (h3 : (3 : TypeId) ≠ t) (hO : (140 : TypeId) ≠ t) (hg : w.grownBy w' (some g)) (hB : B ≤ g) (hw : B ≤ w.heap.size) : MtM b B w' m :=
  ⟨h.ro, h.own.kept hg (.inr (own_row h.own hr hO)), fun o ho => (h.all o ho).rowT hr h3 hg hB hw, h.len⟩
theorem PtM.row {b B : Nat} {w w' : World} {p : Pv} {g : Nat} {t : TypeId} {c : Array Value} (h : PtM b B w p) (hr : Row w g t c) (h3 : (3 : TypeId) ≠ t) (hO : (140 : TypeId) ≠ t) (hg : w.grownBy w' (some g)) (hB : B ≤ g) (hw : B ≤ w.heap.size) : PtM b B w' p :=
  ⟨h.h, h.m.rowT hr h3 hO hg hB hw, lies_ahead h.t h.tb hg hB hw, h.tb, h.oct⟩
theorem txt_ahead {w : World} {t : Txt} (h : t.ok w) : ∀ x, t.a = some x → 0 < t.n → x.block < w.heap.size := by
  intro x hx hn
  obtain ⟨b, off, e, hc⟩ := h.1.2.2.2.2 0 hn
  rw [hx] at e
  injection e with e
  rw [e]
  exact World.block_lt_of_cell? w _ hc
set_option maxRecDepth 100000 in
set_option maxHeartbeats 3200000 in
theorem dgTo_own (W0 : World) (p : Pv) (w : World) (hp0 : p.ok W0) (hb0 : Below W0.heap.size W0 w) (hwf : Wfo p.m.L) : Calls Tryz.prog 7 #[.agg p.cs] w fun e w' => (∃ q : Pv, e = .returned (.agg q.cs) ∧ q.h = p.h ∧ q.d = p.d ∧ q.m.on ≤ 20 ∧ q.t.n ≤ 1300 ∧ Hid (PtM W0.heap.size W0.heap.size w' q) ∧ Hid (Wfo q.m.L)) ∧ Below w.heap.size w w' := by
  have hz := zpkP
  have HF := hid hp0.fit
  have HM0 := hid hp0.m
  have HB0 := hid hb0
  have HW := hid hwf
  have R1 := hid ((Row.new w 32 p.cs).alloc (.cells Pv.zero.cs 41))
  have Z1 := hid (Row.new (w.alloc (.cells p.cs 32)) 41 Pv.zero.cs)
  have B1 := hid (balloc (balloc (Below.refl w.heap.size w) (.cells p.cs 32)) (.cells Pv.zero.cs 41))
  have hs1 : (w.alloc (.cells p.cs 32)).heap.size = w.heap.size + 1 := World.size_alloc ..
  obtain ⟨n, hn', hn⟩ : ∃ n : Nat, n = min p.t.n 1300 ∧ (n ≤ p.t.n ∧ n ≤ 1300) := ⟨_, rfl, by omega, by omega⟩
  have hT0 := hp0.t.below hb0
  have HTB := hid (txt_ahead hp0.t)
  have T1 : Hid (Txt.ok ((w.alloc (.cells p.cs 32)).alloc (.cells Pv.zero.cs 41)) ⟨p.t.a, n, p.t.cap, p.t.l.take n⟩) := hid ⟨(hT0.1.below B1.out).pre n hn.1, (fun x hx => hT0.2 x (List.mem_of_mem_take hx))⟩
  have hcap := hT0.1.2.1
  have hmax := hT0.1.2.2.1
  unfold maxLen at hmax
  have hnc : n ≤ p.t.cap := by omega
  have hmin : (if (1300 : Int) < (p.t.n : Int) then (1300 : Int) else (p.t.n : Int)) = (n : Int) := by split <;> omega
  have HS0 := hid hb0.size
  rw [hs1] at Z1
  clear hp0 hb0 hwf hT0 hn'
  go_enter Tryz.func7, Tryz.ntmps7
  go_upto_region 1 with fail
  generalize hw1 : (w.alloc (.cells p.cs 32)).alloc (.cells Pv.zero.cs 41) = w1 at *
  have B1 : Hid (Below w.heap.size w w1.drew) := hid (B1.out.trans ⟨rfl, rfl, rfl, Nat.le_refl _, fun _ _ => rfl⟩)
  have R1 : Hid (Row w1.drew w.heap.size 32 p.cs) := R1
  have Z1 : Hid (Row w1.drew (w.heap.size + 1) 41 Pv.zero.cs) := Z1
  have T1 := hid (T1.out.below (bdrew (Below.refl _ _) 1))
  clear hw1 hs1 hz
  generalize hg1 : w.heap.size + 1 = g1 at *
  generalize hg0 : w.heap.size = g0 at *
  have HG := hid hg1
  clear hg1
  rw [← hg0] at B1
  refine wp_region_held_drew (S := fun w' => w'.cell? ⟨g0, 37, none⟩ = some (.bool p.d) ∧ (w'.cell? ⟨g0, 71, none⟩ = some (.int .i64 p.n) ∧ (w'.cell? ⟨g0, 72, none⟩ = some (.slice p.t.a p.t.n p.t.cap) ∧ Hid (Row w' g0 32 p.cs)))) (by kernel_rfl) ?_ (fun hHeld => ?_)
  · exact ⟨Pv.rD HF.out R1.out, Pv.rN HF.out R1.out, Pv.rT HF.out R1.out, R1⟩
  refine wpAnyH_take (i := 0) (oi := _) (v := ?va0) rfl (by kernel_rfl) (by kernel_rfl) (by kernel_rfl) (fun _ _ _ h => h) (Or.inl ⟨by rfl, ?hya0⟩) (by assumption) ?resta0
  case hya0 => (intro w hSw; (try dsimp only at hSw); go_split_ands; go_simp; try (with_reducible rfl))
  try simp only [List.getElem_toArray, List.getElem_cons_zero, List.getElem_cons_succ, Act.put, List.setIfInBounds_toArray, List.set_cons_zero, List.set_cons_succ]
  refine wpAnyH_take (i := 1) (oi := _) (v := .agg p.h.cs) rfl (by kernel_rfl) (by kernel_rfl) (by kernel_rfl) (fun _ _ _ h => h) (yldHoR (by rfl) _ rfl g0 0 rfl p.h HF.out.1 (fun w h => Pv.rH HF.out h.2.2.2.out)) (by assumption) ?_
  try simp only [List.getElem_toArray, List.getElem_cons_zero, List.getElem_cons_succ, Act.put, List.setIfInBounds_toArray, List.set_cons_zero, List.set_cons_succ]
  refine wpAnyH_take (i := 3) (oi := _) (v := ?va3) rfl (by kernel_rfl) (by kernel_rfl) (by kernel_rfl) (fun _ _ _ h => h) (Or.inl ⟨by rfl, ?hya3⟩) (by assumption) ?resta3
  case hya3 => (intro w hSw; (try dsimp only at hSw); go_split_ands; go_simp; try (with_reducible rfl))
  try simp only [List.getElem_toArray, List.getElem_cons_zero, List.getElem_cons_succ, Act.put, List.setIfInBounds_toArray, List.set_cons_zero, List.set_cons_succ]
  refine wpAnyH_take (i := 4) (oi := _) (v := ?va4) rfl (by kernel_rfl) (by kernel_rfl) (by kernel_rfl) (fun _ _ _ h => h) (Or.inl ⟨by rfl, ?hya4⟩) (by assumption) ?resta4
  case hya4 => (intro w hSw; (try dsimp only at hSw); go_split_ands; go_simp; try (with_reducible rfl))
  try simp only [List.getElem_toArray, List.getElem_cons_zero, List.getElem_cons_succ, Act.put, List.setIfInBounds_toArray, List.set_cons_zero, List.set_cons_succ]
  refine wpAnyH_take (i := 5) (oi := _) (v := ?va5) rfl (by kernel_rfl) (by kernel_rfl) (by kernel_rfl) (fun _ _ _ h => h) (Or.inl ⟨by rfl, ?hya5⟩) (by assumption) ?resta5
  case hya5 => (intro w hSw; (try dsimp only at hSw); go_split_ands; go_simp; try (with_reducible rfl))
  try simp only [List.getElem_toArray, List.getElem_cons_zero, List.getElem_cons_succ, Act.put, List.setIfInBounds_toArray, List.set_cons_zero, List.set_cons_succ]
  refine wpAnyH_take (i := 6) (oi := _) (v := .agg p.m.cs) rfl (by kernel_rfl) (by kernel_rfl) (by kernel_rfl) (fun _ _ _ h => h) (yldM m25 (by rfl) _ rfl g0 38 rfl p.m HF.out.2 (fun w h => Pv.rM HF.out h.2.2.2.out)) (by assumption) ?_
  try simp only [List.getElem_toArray, List.getElem_cons_zero, List.getElem_cons_succ, Act.put, List.setIfInBounds_toArray, List.set_cons_zero, List.set_cons_succ]
  refine wpAnyH_take (i := 8) (oi := _) (v := ?va8) rfl (by kernel_rfl) (by kernel_rfl) (by kernel_rfl) (fun _ _ _ h => h) (Or.inl ⟨by rfl, ?hya8⟩) (by assumption) ?resta8
  case hya8 => (intro w hSw; (try dsimp only at hSw); go_split_ands; go_simp; try (with_reducible rfl))
  try simp only [List.getElem_toArray, List.getElem_cons_zero, List.getElem_cons_succ, Act.put, List.setIfInBounds_toArray, List.set_cons_zero, List.set_cons_succ]
  refine wpAnyH_take (i := 9) (oi := _) (v := .agg p.o.cs) rfl (by kernel_rfl) (by kernel_rfl) (by kernel_rfl) (fun _ _ _ h => h) (yldOq or_ (by rfl) _ rfl g0 66 rfl p.o (fun w h => Pv.rO HF.out h.2.2.2.out)) (by assumption) ?_
  try simp only [List.getElem_toArray, List.getElem_cons_zero, List.getElem_cons_succ, Act.put, List.setIfInBounds_toArray, List.set_cons_zero, List.set_cons_succ]
  refine wpAnyH_take (i := 11) (oi := _) (v := ?va11) rfl (by kernel_rfl) (by kernel_rfl) (by kernel_rfl) (fun _ _ _ h => h) (Or.inl ⟨by rfl, ?hya11⟩) (by assumption) ?resta11
  case hya11 => (intro w hSw; (try dsimp only at hSw); go_split_ands; go_simp; try (with_reducible rfl))
  try simp only [List.getElem_toArray, List.getElem_cons_zero, List.getElem_cons_succ, Act.put, List.setIfInBounds_toArray, List.set_cons_zero, List.set_cons_succ]
  refine wpAnyH_take (i := 12) (oi := _) (v := ?va12) rfl (by kernel_rfl) (by kernel_rfl) (by kernel_rfl) (fun _ _ _ h => h) (Or.inl ⟨by rfl, ?hya12⟩) (by assumption) ?resta12
  case hya12 => (intro w hSw; (try dsimp only at hSw); go_split_ands; go_simp; try (with_reducible rfl))
  try simp only [List.getElem_toArray, List.getElem_cons_zero, List.getElem_cons_succ, Act.put, List.setIfInBounds_toArray, List.set_cons_zero, List.set_cons_succ]
  refine wpAnyH_take (i := 13) (oi := _) (v := ?va13) rfl (by kernel_rfl) (by kernel_rfl) (by kernel_rfl) (fun _ _ _ h => h) (Or.inl ⟨by rfl, ?hya13⟩) (by assumption) ?resta13
  case hya13 => (intro w hSw; (try dsimp only at hSw); go_split_ands; go_simp; try (with_reducible rfl))
  try simp only [List.getElem_toArray, List.getElem_cons_zero, List.getElem_cons_succ, Act.put, List.setIfInBounds_toArray, List.set_cons_zero, List.set_cons_succ]
  refine wpAnyH_take (i := 14) (oi := _) (v := ?va14) rfl (by kernel_rfl) (by kernel_rfl) (by kernel_rfl) (fun _ _ _ h => h) (Or.inl ⟨by rfl, ?hya14⟩) (by assumption) ?resta14
  case hya14 => (intro w hSw; (try dsimp only at hSw); go_split_ands; go_simp; try (with_reducible rfl))
  try simp only [List.getElem_toArray, List.getElem_cons_zero, List.getElem_cons_succ, Act.put, List.setIfInBounds_toArray, List.set_cons_zero, List.set_cons_succ]
  refine wpAnyH_take (i := 15) (oi := _) (v := ?va15) rfl (by kernel_rfl) (by kernel_rfl) (by kernel_rfl) (fun _ _ _ h => h) (Or.inl ⟨by rfl, ?hya15⟩) (by assumption) ?resta15
  case hya15 => (intro w hSw; (try dsimp only at hSw); go_split_ands; go_simp; try (with_reducible rfl))
  try simp only [List.getElem_toArray, List.getElem_cons_zero, List.getElem_cons_succ, Act.put, List.setIfInBounds_toArray, List.set_cons_zero, List.set_cons_succ]
  refine wpAnyH_take (i := 16) (oi := _) (v := ?va16) rfl (by kernel_rfl) (by kernel_rfl) (by kernel_rfl) (fun _ _ _ h => h) (Or.inl ⟨by rfl, ?hya16⟩) (by assumption) ?resta16
  case hya16 => (intro w hSw; (try dsimp only at hSw); go_split_ands; go_simp; try (with_reducible rfl))
  try simp only [List.getElem_toArray, List.getElem_cons_zero, List.getElem_cons_succ, Act.put, List.setIfInBounds_toArray, List.set_cons_zero, List.set_cons_succ]
  refine wpAnyH_take (i := 17) (oi := _) (v := ?va17) rfl (by kernel_rfl) (by kernel_rfl) (by kernel_rfl) (fun _ _ _ h => h) (Or.inl ⟨by rfl, ?hya17⟩) (by assumption) ?resta17
  case hya17 => (intro w hSw; (try dsimp only at hSw); go_split_ands; go_simp; try (with_reducible rfl))
  try simp only [List.getElem_toArray, List.getElem_cons_zero, List.getElem_cons_succ, Act.put, List.setIfInBounds_toArray, List.set_cons_zero, List.set_cons_succ]
  refine wpAnyH_take (i := 18) (oi := _) (v := ?va18) rfl (by kernel_rfl) (by kernel_rfl) (by kernel_rfl) (fun _ _ _ h => h) (Or.inl ⟨by rfl, ?hya18⟩) (by assumption) ?resta18
  case hya18 => (intro w hSw; (try dsimp only at hSw); go_split_ands; go_simp; try (with_reducible rfl))
  try simp only [List.getElem_toArray, List.getElem_cons_zero, List.getElem_cons_succ, Act.put, List.setIfInBounds_toArray, List.set_cons_zero, List.set_cons_succ]
  refine wpAnyH_take (i := 19) (oi := _) (v := ?va19) rfl (by kernel_rfl) (by kernel_rfl) (by kernel_rfl) (fun _ _ _ h => h) (Or.inl ⟨by rfl, ?hya19⟩) (by assumption) ?resta19
  case hya19 => (intro w hSw; (try dsimp only at hSw); go_split_ands; go_simp; try (with_reducible rfl))
  try simp only [List.getElem_toArray, List.getElem_cons_zero, List.getElem_cons_succ, Act.put, List.setIfInBounds_toArray, List.set_cons_zero, List.set_cons_succ]
  refine wpAnyH_ready (rs := [2]) (by kernel_rfl) (by simp) ?_
  refine AllReadyH.cons (o := _) rfl (fun K hK => ?_) AllReadyH.nil
  go_simp
  refine (hdrTo_any p.h HF.out.1 _).mono ?_
  rintro e w2 ⟨rfl, hb⟩
  have R2 := hid (R1.out.below hb)
  have Z2 := hid (Z1.out.below hb)
  have T2 := hid (T1.out.below hb)
  have B2 := hid (bthen B1.out hb)
  clear hb R1 Z1 B1 T1
  go_wp2_with fail
  refine hK.out _ _ ⟨Pv.rD HF.out R2.out, Pv.rN HF.out R2.out, Pv.rT HF.out R2.out, R2⟩ (fun hHeld => ?_)
  clear hK K
  try simp only [List.getElem_toArray, List.getElem_cons_zero, List.getElem_cons_succ, Act.put, List.setIfInBounds_toArray, List.set_cons_zero, List.set_cons_succ]
  refine wpAnyH_ready (rs := [7]) (by kernel_rfl) (by simp) ?_
  refine AllReadyH.cons (o := _) rfl (fun K hK => ?_) AllReadyH.nil
  go_simp
  refine (cTo_own W0 p.m _ HM0.out (HB0.out.trans (B2.out.mono HB0.out.size)) HW.out).mono ?_
  rintro e w3 ⟨⟨m, rfl, h20, hM, hW⟩, hb⟩
  have R3 := hid (R2.out.below hb)
  have Z3 := hid (Z2.out.below hb)
  have T3 := hid (T2.out.below hb)
  have B3 := hid (bthen B2.out hb)
  have M3 := hid hM.out
  have MW := hid hW.out
  clear hb hM hW R2 Z2 B2 T2
  go_wp2_with fail
  refine hK.out _ _ ⟨Pv.rD HF.out R3.out, Pv.rN HF.out R3.out, Pv.rT HF.out R3.out, R3⟩ (fun hHeld => ?_)
  clear hK K
  try simp only [List.getElem_toArray, List.getElem_cons_zero, List.getElem_cons_succ, Act.put, List.setIfInBounds_toArray, List.set_cons_zero, List.set_cons_succ]
  refine wpAnyH_ready (rs := [10]) (by kernel_rfl) (by simp) ?_
  refine AllReadyH.cons (o := _) rfl (fun K hK => ?_) AllReadyH.nil
  go_simp
  refine (hopTo_any p.o _).mono ?_
  rintro e w4 ⟨rfl, hb⟩
  have R4 := hid (R3.out.below hb)
  have Z4 := hid (Z3.out.below hb)
  have T4 := hid (T3.out.below hb)
  have M4 := hid (M3.out.below hb)
  have B4 := hid (bthen B3.out hb)
  clear hb R3 Z3 B3 T3 M3
  go_wp2_with fail
  refine hK.out _ _ ⟨Pv.rD HF.out R4.out, Pv.rN HF.out R4.out, Pv.rT HF.out R4.out, R4⟩ (fun hHeld => ?_)
  clear hK K
  try simp only [List.getElem_toArray, List.getElem_cons_zero, List.getElem_cons_succ, Act.put, List.setIfInBounds_toArray, List.set_cons_zero, List.set_cons_succ]
  have HK2 : Hid (Pv.fit ⟨p.h, p.d, m, p.o, p.n, ⟨p.t.a, n, p.t.cap, p.t.l.take n⟩⟩) := hid ⟨HF.out.1, M4.out.ro⟩
  generalize hq : (⟨p.h, p.d, m, p.o, p.n, ⟨p.t.a, n, p.t.cap, p.t.l.take n⟩⟩ : Pv) = q at *
  have HQ := hid hq
  clear hq
  refine wpAnyH_take (i := 20) (oi := _) (v := .agg q.cs) rfl (by kernel_rfl) (by kernel_rfl) (by kernel_rfl) (fun _ _ _ h => h) (ybdPf ptP (by rfl) _ _ _ _ _ _ rfl q HK2.out (by rw [← HQ.out]; rfl) (by rw [← HQ.out]; rfl) (by rw [← HQ.out]; rfl) (by rw [← HQ.out]; rfl) (by rw [← HQ.out]; rfl) (by rw [← HQ.out]; rfl)) (by assumption) ?_
  try simp only [List.getElem_toArray, List.getElem_cons_zero, List.getElem_cons_succ, Act.put, List.setIfInBounds_toArray, List.set_cons_zero, List.set_cons_succ]
  have hgr := grownBy_setRow w4 g1 q.cs
  have R5 := hid (R4.out.rowOther g1 q.cs (by have := HG.out; omega))
  have Z5 := hid (Z4.out.setRow q.cs)
  have B5 := hid (below_setRow' B4.out (g := g1) (by have := HG.out; omega) q.cs)
  have BW := HB0.out.size
  have hW4 := B4.out.size
  have M5 := hid (M4.out.rowT Z4.out (by decide) (by decide) hgr (by have := HG.out; have := HS0.out; omega) (by have := HS0.out; omega))
  have T5o := hid T4.out.2
  have T5 := hid (lies_ahead T4.out.1 (fun x e h => HTB.out x e (Nat.lt_of_lt_of_le h hn.1)) hgr (by have := HG.out; have := HS0.out; omega) (by have := HS0.out; omega))
  clear hgr hW4 BW
  refine anyH_st 21 ?qwa rfl rfl 41 _ _ rfl g1 q.cs ?qwb ?qwc 41 Pv.zero.cs ?qwd ?qwe ?qwf ?qwg ?qwh ?_
  case qwa => kernel_rfl
  case qwb => rfl
  case qwc => rfl
  case qwd => exact Z4.out
  case qwe => rw [Pv.size HK2.out]; exact ptP.info
  case qwf => rw [Pv.size HK2.out, Pv.size Pv.zero_fit]
  case qwg => exact Pv.one _
  case qwh => exact ⟨Pv.rD HF.out R5.out, Pv.rN HF.out R5.out, Pv.rT HF.out R5.out, R5⟩
  try simp only [List.getElem_toArray, List.getElem_cons_zero, List.getElem_cons_succ, Act.put, List.setIfInBounds_toArray, List.set_cons_zero, List.set_cons_succ]
  have E1 : Hid (q.h = p.h ∧ q.d = p.d ∧ q.m = m ∧ q.t = ⟨p.t.a, n, p.t.cap, p.t.l.take n⟩) := by rw [Hid, ← HQ.out]; exact ⟨rfl, rfl, rfl, rfl⟩
  have E2 : Hid (q.m.on ≤ 20) := by rw [Hid, E1.out.2.2.1]; exact h20
  have E3 : Hid (q.t.n ≤ 1300) := by rw [Hid, E1.out.2.2.2]; exact hn.2
  have P5 : Hid (PtM W0.heap.size W0.heap.size (w4.setRow g1 q.cs) q) := by
    refine ⟨by rw [E1.out.1]; exact HF.out.1, by rw [E1.out.2.2.1]; exact M5.out, by rw [E1.out.2.2.2]; exact T5.out, ?_, by rw [E1.out.2.2.2]; exact T5o.out⟩
    rw [E1.out.2.2.2]; exact fun x e h => HTB.out x e (Nat.lt_of_lt_of_le (show 0 < n from h) hn.1)
  have W5 : Hid (Wfo q.m.L) := by rw [Hid, E1.out.2.2.1]; exact MW.out
  refine wpAnyH_done (by kernel_rfl) ?_ _
  go_wp2_with fail
  refine bodyPost_ret (resP ptP rfl _ _ g1 41 q HK2.out rfl Z5.out) rfl ?_
  exact ⟨⟨q, rfl, E1.out.1, E1.out.2.1, E2.out, E3.out, P5, W5⟩, by rw [← hg0]; exact B5.out⟩
end Go.Proofs.YtbklpelikaapoaaGreatDoor

namespace Go.Proofs.YtbklpelikaapoaaGreatDoor
open Go.ChangeShapes Go.WideShapes Go.ChangeAt Go.RowKit Go.Deep
set_option linter.unusedVariables false
set_option linter.unusedSimpArgs false

theorem pos_ad {w : World} {a : Option Addr} {n cap : Nat} {L : List Ov} (h : Opts w a n cap L) : ∀ o ∈ pos L, o.ad.length = 16 := by
  intro o ho
  obtain ⟨v, hv, rfl⟩ := List.mem_map.1 ho
  exact (h.ok v hv).ad.1
theorem pgL_ctl {p : Pp} (hd : p.d = false) (hh : p.h.ok) (h : pgE p = 0) : 44 ≤ (pgL p).length := by
  have hL : pgL p = ctlB p := by rw [pgL, if_pos h, hd]; rfl
  rw [hL, ctlB, List.length_append, hdrL_len (h := (p.h.setNx 58).setLn ((ctlL p).length : Nat)) hh, ctlR_len, ctlL_len]; omega
/-- A bit of a byte turned. -/
def bitChk (X k : Nat) : Bool := ((bits BinOp.xor IntKind.u8 (X : Int) (IntKind.u8.wrap (2 ^ k)) == (X : Int) + 2 ^ k) || (bits BinOp.xor IntKind.u8 (X : Int) (IntKind.u8.wrap (2 ^ k)) == (X : Int) - 2 ^ k)) && (decide (0 ≤ bits BinOp.xor IntKind.u8 (X : Int) (IntKind.u8.wrap (2 ^ k))) && decide (bits BinOp.xor IntKind.u8 (X : Int) (IntKind.u8.wrap (2 ^ k)) < 256))
theorem bitChk_all : (List.range 256).all (fun X => (List.range 8).all (fun k => bitChk X k)) = true := by kernel_rfl
theorem bit_bend {x : Int} (hx : 0 ≤ x ∧ x < 256) {k : Nat} (hk : k < 8) : (bits BinOp.xor IntKind.u8 x (IntKind.u8.wrap (2 ^ k)) = x + 2 ^ k ∨ bits BinOp.xor IntKind.u8 x (IntKind.u8.wrap (2 ^ k)) = x - 2 ^ k) ∧ 0 ≤ bits BinOp.xor IntKind.u8 x (IntKind.u8.wrap (2 ^ k)) ∧ bits BinOp.xor IntKind.u8 x (IntKind.u8.wrap (2 ^ k)) < 256 := by
  obtain ⟨X, rfl⟩ : ∃ X : Nat, x = X := ⟨x.toNat, by omega⟩
  have h1 := List.all_eq_true.1 bitChk_all X (List.mem_range.2 (by omega))
  have h2 := List.all_eq_true.1 h1 k (List.mem_range.2 hk)
  simpa [bitChk] using h2
theorem bitB_pow {k : Nat} (hk : k < 8) : bitB (2 ^ k) := by
  have : k = 0 ∨ k = 1 ∨ k = 2 ∨ k = 3 ∨ k = 4 ∨ k = 5 ∨ k = 6 ∨ k = 7 := by omega
  unfold bitB
  rcases this with rfl | rfl | rfl | rfl | rfl | rfl | rfl | rfl <;> decide
theorem u64_nonneg (x : Int) : 0 ≤ IntKind.u64.wrap x := by
  have e : IntKind.u64.wrap x = x % 18446744073709551616 := by simp [IntKind.wrap, IntKind.bits, IntKind.signed]
  rw [e]; omega
theorem wrap64_id (n : Int) (h₀ : 0 ≤ n) (h₁ : n < 4611686018427387904) : wrap64 n = n := by unfold wrap64; omega
theorem own_drew {w : World} {b n size : Nat} {e : TypeId} {v : Value} {xs : List Value} (h : w.ownsRow b e size v n xs) (q : Nat) : (w.drewN q).ownsRow b e size v n xs := own_below h (bdrew (Below.refl _ _) q)
theorem pgL_ok {w : World} {q : Pv} (h : q.ok w) (h0 : pgE q.p = 0) : Oct (pgL q.p) ∧ (pgL q.p).length ≤ 1280 := by
  obtain ⟨_, _, h1, h2⟩ := pg_dg q.p h.h (eL_oct h.m) h.m.ro.1 (pos_ad h.m.o) h.t.2 h0
  exact ⟨h1, h2⟩
set_option maxRecDepth 1000000 in
set_option maxHeartbeats 3200000 in
theorem dgbends_walk (p : Pv) (at_ bit : Int) (w : World) (hp0 : p.ok w ∧ Wfo p.m.L ∧ (Lit.int .i64 p.n).wf = true) (ha : (Lit.int .i64 at_).wf = true) (hb : (Lit.int .i64 bit).wf = true) (hV : CV w.heap.size w) :
    Calls Tryz.prog 6 #[.agg p.cs, .int .i64 at_, .int .i64 bit] w fun e w' => e = .returned (.bool true) ∧ Below w.heap.size w w' := by
  have hz := zpkP
  obtain ⟨hp, hwf, _⟩ := hp0
  have HF := hid hp.fit
  have HP0 : Hid ((p.setD false).ok w) := hid ⟨hp.h, hp.m, hp.t⟩
  have HW : Hid (Wfo (p.setD false).m.L) := hid hwf
  have R1 := hid (Row.new w 32 p.cs)
  have B1 := hid (balloc (Below.refl w.heap.size w) (.cells p.cs 32))
  have V0 := hid hV
  clear hp hwf hV
  go_enter Tryz.func6, Tryz.ntmps6
  go_upto_region 1 with fail
  generalize w.alloc (.cells p.cs 32) = w1 at *
  have c37 := Pv.rD HF.out R1.out
  have f37 := R1.out.frozen 37
  have R2 : Hid (Row (w1.setCell ⟨w.heap.size, 37, none⟩ (.bool false)) w.heap.size 32 (p.setD false).cs) := by rw [Hid, ← Pv.put37 HF.out]; exact R1.out.set 37 _
  have B2 := hid (bset 37 (.bool false) B1.out (Nat.le_refl w.heap.size))
  go_upto_region 2 with fail
  generalize w1.setCell ⟨w.heap.size, 37, none⟩ (.bool false) = w2 at *
  clear c37 f37 R1 B1
  have V2 := hid (V0.out.below B2.out)
  go_wp2_with (refine ldP ptR _ rfl rfl w.heap.size rfl (p.setD false) HF.out 32 R2.out ?_)
  refine (dgTo_own w (p.setD false) _ HP0.out B2.out HW.out).mono ?_
  rintro e w3 ⟨⟨q, rfl, hqh, hqd, h20, _, hM, _⟩, hb3⟩
  have M3 := hid hM.out
  have V3 := hid (V2.out.below hb3)
  have B3 := hid (bthen B2.out hb3)
  have HQD : Hid (q.p.d = false) := hid hqd
  have HQO : Hid (q.ok w3) := hid hM.out.ok
  have HON : q.m.on ≤ 1000 := by omega
  have HS3 := hid B3.out.size
  clear hb3 hM hqh hqd h20 R2 B2 V2
  go_wp2_with fail
  refine (dgEncode_any q _ HQO.out V3.out HON).mono ?_
  rintro e w4 ⟨⟨v, rfl, hown⟩, hb4⟩
  obtain ⟨va, vc, rfl⟩ := owns_len hown.out
  have O4 := hid hown.out
  have V4 := hid (V3.out.below hb4)
  have B4 := hid (bthen B3.out hb4)
  have HB : Hid (∀ i y d, pgE q.p = 0 → 40 ≤ i → i < (pgL q.p).length → bitB d → (y = (pgL q.p).getD i 0 + d ∨ y = (pgL q.p).getD i 0 - d) → 0 ≤ y ∧ y < 256 → dgE ((pgL q.p).set i y) = 5) := hid (fun i y d h0 h1 h2 h3 h4 h5 => bend_dg q.p HQO.out.h (eL_oct HQO.out.m) HQD.out h0 i y d h1 h2 h3 h4 h5)
  have HN : Hid (pgE q.p = 0 → 44 ≤ (pgL q.p).length ∧ (pgL q.p).length ≤ 1280 ∧ Oct (pgL q.p)) := hid (fun h0 => ⟨pgL_ctl HQD.out HQO.out.h h0, (pgL_ok HQO.out h0).2, (pgL_ok HQO.out h0).1⟩)
  clear hown hb4 V3 B3 HQO HQD M3 HON
  generalize pgL q.p = l at *
  generalize hn : l.length = n at *
  have HLN := hid hn
  clear hn
  generalize pgE q.p = E at *
  by_cases hE : E = 0
  · subst hE
    obtain ⟨hn1, hn2, _⟩ := HN.out rfl
    have hA := u64_nonneg at_
    have hB := u64_nonneg bit
    obtain ⟨i, hI, hi1', hi2⟩ : ∃ i : Nat, wrap64 (40 + wrap64 ((IntKind.u64.wrap at_).tmod (↑n - 40))) = (i : Int) ∧ 40 ≤ i ∧ i < n := by
      generalize IntKind.u64.wrap at_ = A at *
      have e : A.tmod (↑n - 40) = A % (↑n - 40) := Int.tmod_eq_emod_of_nonneg hA
      have h1 := Int.emod_nonneg A (show (n : Int) - 40 ≠ 0 by omega)
      have h2 := Int.emod_lt_of_pos A (show 0 < (n : Int) - 40 by omega)
      have e2 : wrap64 (A % (↑n - 40)) = A % (↑n - 40) := wrap64_id _ (by omega) (by omega)
      rw [e, e2, wrap64_id _ (by omega) (by omega)]
      exact ⟨(40 + A % (↑n - 40)).toNat, by omega, by omega, by omega⟩
    obtain ⟨k, hKk, hk8⟩ : ∃ k : Nat, wrap64 ((IntKind.u64.wrap bit).tmod 8) = (k : Int) ∧ k < 8 := by
      generalize IntKind.u64.wrap bit = A at *
      have e : A.tmod 8 = A % 8 := Int.tmod_eq_emod_of_nonneg hB
      rw [e, wrap64_id _ (by omega) (by omega)]
      exact ⟨(A % 8).toNat, by omega, by omega⟩
    clear hA hB
    obtain ⟨g, rfl, hg3, _⟩ := own_block O4.out (by omega)
    have HG : Hid (w.heap.size ≤ g) := hid (Nat.le_trans HS3.out hg3)
    obtain ⟨x, hx⟩ : ∃ x, l.getD i 0 = x := ⟨_, rfl⟩
    have HX := hid hx
    have HX2 : Hid (0 ≤ x ∧ x < 256) := hid (by rw [← hx]; exact (HN.out rfl).2.2.at i (by rw [HLN.out]; exact hi2))
    have i1 : (i : Int) < (n : Int) := by omega
    have hbb := bit_bend HX2.out hk8
    obtain ⟨y, hy⟩ : ∃ y, bits BinOp.xor IntKind.u8 x (IntKind.u8.wrap (2 ^ k)) = y := ⟨_, rfl⟩
    rw [hy] at hbb
    have HD : Hid (dgE (l.set i y) = 5) := hid (HB.out i y (2 ^ k) rfl hi1' hi2 (bitB_pow hk8) (by rw [HX.out]; exact hbb.1) hbb.2)
    have HY := hid hbb.2
    have HLO := hid (HN.out rfl).2.2
    clear hg3 hx hbb HB HN
    have hi0 : ¬ (n : Int) < 44 := by omega
    have hi1 : ¬ n < 44 := by omega
    go_upto_region 6 with fail
    refine wp_region_held_drew (S := fun w' => True) (by kernel_rfl) ?_ (fun hHeld => ?_)
    · exact trivial
    replace O4 := hid (own_drew O4.out 1)
    have V5 : Hid (CV w.heap.size w4.drew) := hid (V4.out.drewN 1)
    have B5 : Hid (Below w.heap.size w w4.drew) := hid (B4.out.trans ⟨rfl, rfl, rfl, Nat.le_refl _, fun _ _ => rfl⟩)
    have O5 : Hid (w4.drew.ownsRow w3.heap.size 5 1 (.slice (some ⟨g, 0, none⟩) n vc) n (u8s l)) := O4
    generalize w4.drew = w5 at *
    have cc : w5.cell? ⟨g, i, none⟩ = some (.int .u8 x) := own_cellAt O5.out (by rw [u8s_at5 l i (by rw [HLN.out]; exact hi2), HX.out])
    have cf := own_soft O5.out i
    refine wpAnyH_take (i := 0) (oi := _) (v := ?va0) rfl (by kernel_rfl) (by kernel_rfl) (by kernel_rfl) (fun _ _ _ h => h) (Or.inl ⟨by rfl, ?hya0⟩) (by assumption) ?resta0
    case hya0 => (intro w hSw; (try dsimp only at hSw); go_split_ands; go_simp; try (with_reducible rfl))
    try simp only [List.getElem_toArray, List.getElem_cons_zero, List.getElem_cons_succ, Act.put, List.setIfInBounds_toArray, List.set_cons_zero, List.set_cons_succ]
    refine wpAnyH_take (i := 1) (oi := _) (v := ?va1) rfl (by kernel_rfl) (by kernel_rfl) (by kernel_rfl) (fun _ _ _ h => h) (Or.inl ⟨by rfl, ?hya1⟩) (by assumption) ?resta1
    case hya1 => (intro w hSw; (try dsimp only at hSw); go_split_ands; go_simp; try (with_reducible rfl))
    try simp only [List.getElem_toArray, List.getElem_cons_zero, List.getElem_cons_succ, Act.put, List.setIfInBounds_toArray, List.set_cons_zero, List.set_cons_succ]
    refine wpAnyH_take (i := 2) (oi := _) (v := ?va2) rfl (by kernel_rfl) (by kernel_rfl) (by kernel_rfl) (fun _ _ _ h => h) (Or.inl ⟨by rfl, ?hya2⟩) (by assumption) ?resta2
    case hya2 => (intro w hSw; (try dsimp only at hSw); go_split_ands; go_simp; try (with_reducible rfl))
    try simp only [List.getElem_toArray, List.getElem_cons_zero, List.getElem_cons_succ, Act.put, List.setIfInBounds_toArray, List.set_cons_zero, List.set_cons_succ]
    refine wpAnyH_take (i := 3) (oi := _) (v := ?va3) rfl (by kernel_rfl) (by kernel_rfl) (by kernel_rfl) (fun _ _ _ h => h) (Or.inl ⟨by rfl, ?hya3⟩) (by assumption) ?resta3
    case hya3 => (intro w hSw; (try dsimp only at hSw); go_split_ands; go_simp; try (with_reducible rfl))
    try simp only [List.getElem_toArray, List.getElem_cons_zero, List.getElem_cons_succ, Act.put, List.setIfInBounds_toArray, List.set_cons_zero, List.set_cons_succ]
    refine wpAnyH_take (i := 4) (oi := _) (v := ?va4) rfl (by kernel_rfl) (by kernel_rfl) (by kernel_rfl) (fun _ _ _ h => h) (Or.inl ⟨by rfl, ?hya4⟩) (by assumption) ?resta4
    case hya4 => (intro w hSw; (try dsimp only at hSw); go_split_ands; go_simp; try (with_reducible rfl))
    try simp only [List.getElem_toArray, List.getElem_cons_zero, List.getElem_cons_succ, Act.put, List.setIfInBounds_toArray, List.set_cons_zero, List.set_cons_succ]
    refine wpAnyH_take (i := 6) (oi := _) (v := ?va6) rfl (by kernel_rfl) (by kernel_rfl) (by kernel_rfl) (fun _ _ _ h => h) (Or.inl ⟨by rfl, ?hya6⟩) (by assumption) ?resta6
    case hya6 => (intro w hSw; (try dsimp only at hSw); go_split_ands; go_simp; try (with_reducible rfl))
    try simp only [List.getElem_toArray, List.getElem_cons_zero, List.getElem_cons_succ, Act.put, List.setIfInBounds_toArray, List.set_cons_zero, List.set_cons_succ]
    refine wpAnyH_take (i := 7) (oi := _) (v := ?va7) rfl (by kernel_rfl) (by kernel_rfl) (by kernel_rfl) (fun _ _ _ h => h) (Or.inl ⟨by rfl, ?hya7⟩) (by assumption) ?resta7
    case hya7 => (intro w hSw; (try dsimp only at hSw); go_split_ands; go_simp; try (with_reducible rfl))
    try simp only [List.getElem_toArray, List.getElem_cons_zero, List.getElem_cons_succ, Act.put, List.setIfInBounds_toArray, List.set_cons_zero, List.set_cons_succ]
    refine wpAnyH_ready (rs := [5]) (by kernel_rfl) (by simp) ?_
    refine AllReadyH.cons (o := _) rfl (fun K hK => ?_) AllReadyH.nil
    go_simp
    go_wp2_with fail
    refine hK.out _ _ trivial (fun hHeld => ?_)
    clear hK K
    try simp only [List.getElem_toArray, List.getElem_cons_zero, List.getElem_cons_succ, Act.put, List.setIfInBounds_toArray, List.set_cons_zero, List.set_cons_succ]
    refine wpAnyH_take (i := 8) (oi := _) (v := ?vb8) rfl (by kernel_rfl) (by kernel_rfl) (by kernel_rfl) (fun _ _ _ h => h) (Or.inl ⟨by rfl, ?hyb8⟩) (by assumption) ?restb8
    case hyb8 => (intro w hSw; (try dsimp only at hSw); go_split_ands; go_simp; try (with_reducible rfl))
    try simp only [List.getElem_toArray, List.getElem_cons_zero, List.getElem_cons_succ, Act.put, List.setIfInBounds_toArray, List.set_cons_zero, List.set_cons_succ]
    refine wpAnyH_take (i := 9) (oi := _) (v := ?vb9) rfl (by kernel_rfl) (by kernel_rfl) (by kernel_rfl) (fun _ _ _ h => h) (Or.inl ⟨by rfl, ?hyb9⟩) (by assumption) ?restb9
    case hyb9 => (intro w hSw; (try dsimp only at hSw); go_split_ands; go_simp; try (with_reducible rfl))
    try simp only [List.getElem_toArray, List.getElem_cons_zero, List.getElem_cons_succ, Act.put, List.setIfInBounds_toArray, List.set_cons_zero, List.set_cons_succ]
    refine wpAnyH_ready (rs := [10]) (by kernel_rfl) (by simp) ?_
    refine AllReadyH.cons (o := _) rfl (fun K hK => ?_) AllReadyH.nil
    go_simp
    go_wp2_with fail
    have O6 : Hid ((w5.setCell ⟨g, i, none⟩ (.int .u8 y)).ownsRow w3.heap.size 5 1 (.slice (some ⟨g, 0, none⟩) n vc) n (u8s (l.set i y))) := by
      have := own_cell O5.out i (.int .u8 y) (by omega)
      rwa [u8s_set5] at this
    have V6 := hid (V5.out.grown (grownBy_setCell w5 g i (.int .u8 y)) HG.out)
    have B6 := hid (bset i (.int .u8 y) B5.out HG.out)
    refine hK.out _ _ trivial (fun hHeld => ?_)
    clear hK K
    try simp only [List.getElem_toArray, List.getElem_cons_zero, List.getElem_cons_succ, Act.put, List.setIfInBounds_toArray, List.set_cons_zero, List.set_cons_succ]
    refine wpAnyH_done (by kernel_rfl) ?_ _
    generalize w5.setCell ⟨g, i, none⟩ (.int .u8 y) = w6 at *
    clear cc cf O5 V5 B5 O4 V4 B4
    go_wp2_with fail
    refine (dgDecode_any _ n _ (l.set i y) _ (owns_lies' O6.out (by rw [List.length_set]; exact HLN.out)) (oct_set5 HLO.out i y HY.out) V6.out).mono ?_
    rintro e wA ⟨pA, rfl, hpA, _, hbA⟩
    rw [HD.out]
    have KA := hid hpA.out.ok.fit
    have BA := hid (bthen (bthen B6.out hbA.out) (layP_below wA 41 pA))
    have VA := hid ((V6.out.below hbA.out).below (layP_below wA 41 pA))
    clear hpA hbA V6 B6 O6
    go_wp2_with (refine stP ptP _ _ rfl rfl wA.heap.size pA KA.out rfl rfl 41 Pv.zero Pv.zero_fit (Row.new wA 41 _) ?_)
    refine (dgKnown_any _ VA.out).mono ?_
    rintro e w8 ⟨rfl, hb8⟩
    have B8 := hid (bthen BA.out hb8)
    clear hb8
    go_wp2_with fail
    go_ret
    exact ⟨rfl, B8.out⟩
  · have he : (E != 0) = true := by rw [bne_iff_ne]; exact hE
    clear hE
    go_wp2_with fail
    refine (dgKnown_any _ V4.out).mono ?_
    rintro e w8 ⟨rfl, hb8⟩
    have B8 := hid (bthen B4.out hb8)
    clear hb8
    go_wp2_with fail
    go_ret
    exact ⟨rfl, B8.out⟩
end Go.Proofs.YtbklpelikaapoaaGreatDoor

namespace Go.Proofs.YtbklpelikaapoaaGreatDoor
open Go.ChangeShapes Go.WideShapes Go.ChangeAt Go.RowKit Go.Deep
set_option linter.unusedVariables false
set_option linter.unusedSimpArgs false
set_option maxRecDepth 100000

theorem gC0 : Tryz.prog.globalNamed "rivulet/control.shapes" = some 0 := by kernel_rfl
theorem gtC0 : (Tryz.prog.globals[0]?).map (·.type) = some 197 := by kernel_rfl
theorem uc99 : Tryz.prog.underlying 197 = some (.array 4 196) := by kernel_rfl
theorem uc98 : Tryz.prog.underlying 196 = some (.struct (Tryz.prog.fieldsOf 196)) := by kernel_rfl
theorem uc108 : Tryz.prog.underlying 200 = some (.struct (Tryz.prog.fieldsOf 200)) := by kernel_rfl
theorem uc110 : Tryz.prog.underlying 202 = some (.struct (Tryz.prog.fieldsOf 202)) := by kernel_rfl
theorem uc25 : Tryz.prog.underlying 27 = some (.struct (Tryz.prog.fieldsOf 27)) := by kernel_rfl
theorem uc96 : Tryz.prog.underlying 194 = some (.slice 200) := by kernel_rfl
theorem uc106 : Tryz.prog.underlying 198 = some (.slice 202) := by kernel_rfl
theorem uc52 : Tryz.prog.underlying 114 = some (.slice 3) := by kernel_rfl
theorem cc98 : Tryz.prog.cellsOf 196 = 4 := by kernel_rfl
theorem cc99 : Tryz.prog.cellsOf 197 = 16 := by kernel_rfl
theorem cc108 : Tryz.prog.cellsOf 200 = 2 := by kernel_rfl
theorem cc110 : Tryz.prog.cellsOf 202 = 3 := by kernel_rfl
theorem cc96 : Tryz.prog.cellsOf 194 = 1 := by kernel_rfl
theorem cc106 : Tryz.prog.cellsOf 198 = 1 := by kernel_rfl
theorem cc52 : Tryz.prog.cellsOf 114 = 1 := by kernel_rfl
theorem cc9 : Tryz.prog.cellsOf 9 = 1 := by kernel_rfl
theorem cc4 : Tryz.prog.cellsOf 4 = 1 := by kernel_rfl
theorem cc3 : Tryz.prog.cellsOf 3 = 1 := by kernel_rfl
theorem cc22 : Tryz.prog.cellsOf 22 = 16 := by kernel_rfl
theorem cc23 : Tryz.prog.cellsOf 25 = 1 := by kernel_rfl
theorem cc25 : Tryz.prog.cellsOf 27 = 28 := by kernel_rfl
theorem fsc98 : (Tryz.prog.fieldsOf 196).toList.map (fun f => (f.type, f.offset)) = [(9, 0), (194, 1), (4, 2), (114, 3)] := by kernel_rfl
theorem fsc108 : (Tryz.prog.fieldsOf 200).toList.map (fun f => (f.type, f.offset)) = [(3, 0), (198, 1)] := by kernel_rfl
theorem fsc110 : (Tryz.prog.fieldsOf 202).toList.map (fun f => (f.type, f.offset)) = [(3, 0), (3, 1), (3, 2)] := by kernel_rfl
theorem fsc25 : (Tryz.prog.fieldsOf 27).toList.map (fun f => (f.type, f.offset)) = [(3, 0), (3, 1), (3, 2), (3, 3), (3, 4), (3, 5), (3, 6), (3, 7), (3, 8), (4, 9), (4, 10), (22, 11), (25, 27)] := by kernel_rfl
/-- A list as a datum. -/
def sdat {H : Type} {α : Type} (dat : α → DataW H) (L : List α) : DataW H := match L with | [] => .nil | _ => .slice (L.map dat) []
/-- A slice that is laid. -/
theorem slice_of {α : Type} {H : Type} {enc : TypeId × Value → H} {W : World} {held : Bool} {fuel : Nat} {cs : List Value} {x : DataW H × List MemPlace} (t e : TypeId) (s : Nat) (ut : Tryz.prog.underlying t = some (.slice e)) (ce : Tryz.prog.cellsOf e = s) (hs : 0 < s) (d : α) (dat : α → DataW H) (L : List α) (h : DataW.trod enc Tryz.prog W 0 (fun _ => true) held fuel t cs = some x) (hx : x.1 = sdat dat L) :
    ∃ a n cap, cs = [.slice a n cap] ∧ L.length = n ∧ n ≤ cap ∧ cap ≤ maxLen ∧ (a = none → cap = 0) ∧ ∀ i, i < n → ∃ b off fuel' cs' y, a = some ⟨b, off, none⟩ ∧ (∀ j, j < s → W.cell? ⟨b, off + i * s + j, none⟩ = cs'[j]?) ∧ cs'.length = s ∧ DataW.trod enc Tryz.prog W 0 (fun _ => true) held fuel' e cs' = some y ∧ y.1 = dat (L.getD i d) := by
  rcases open_slice ut h with ⟨hcs, rfl⟩ | ⟨ad, len, cap, m, n, D, Pl, hcs, _, hl, hm, hmm, rfl, hall⟩
  · match L, hx with
    | [], _ => exact ⟨none, 0, 0, hcs, rfl, Nat.le_refl _, by decide, fun _ => rfl, fun i hi => by omega⟩
    | p :: l, hx => simp [sdat] at hx
  · match L, hx with
    | [], hx => simp [sdat] at hx
    | p :: l, hx =>
      generalize p :: l = L at *
      have hx : (DataW.slice ((List.range len).map D) ((List.range (m - len)).map fun j => D (len + j)) : DataW H) = .slice (L.map dat) [] := by
        simp only [sdat] at hx
        split at hx
        · cases hx
        · exact hx
      injection hx with hx1 _
      have hlen : L.length = len := by have := congrArg List.length hx1; simpa using this.symm
      rw [ce] at hall
      have hspot : len ≠ 0 → ad.spot = none := by
        intro h0
        obtain ⟨cs', h1, h2⟩ := hall 0 (by simp at hmm; omega)
        obtain ⟨_, hl2, hc⟩ := World.cells?_some h1
        have e0 := hc 0 (by omega)
        rw [List.getElem?_eq_getElem (by omega)] at e0
        exact World.cell?_spot (by simpa [Addr.add] using e0)
      obtain ⟨b, off, spot⟩ := ad
      refine ⟨some ⟨b, off, spot⟩, len, cap, hcs, hlen, hl, hm, (fun h => by cases h), fun i hi => ?_⟩
      have hs := hspot (by omega)
      simp only at hs
      subst hs
      obtain ⟨cs', h1, h2⟩ := hall i (by simp at hmm; omega)
      obtain ⟨_, hl2, hc⟩ := World.cells?_some h1
      have hDi : D i = dat (L.getD i d) := by
        have := congrArg (·[i]?) hx1
        simp only [List.getElem?_map, List.getElem?_range hi, Option.map_some] at this
        rw [List.getElem?_eq_getElem (by omega)] at this
        simp only [Option.map_some, Option.some.injEq] at this
        rw [this]; simp [show i < L.length by omega]
      refine ⟨b, off, _, cs', _, rfl, fun j hj => ?_, hl2, h2, hDi⟩
      have := hc j (by omega)
      rwa [Addr.add_lit, Addr.add_lit] at this
def nd {H : Type} (n : Int) : DataW H := .lit (.int .i64 n)
def fd {H : Type} (f : Fl) : DataW H := .agg [.lit (.int .i64 f.p), .lit (.int .i64 f.s), .lit (.int .i64 f.l)]
def pad {H : Type} (p : Pa) : DataW H := .agg [.lit (.int .i64 p.z), sdat fd p.f]
def scd {H : Type} (k : Nat) : DataW H := .agg [.lit (.string (cwd k).data.toList), sdat pad (cpa k), .lit (.bool (crt k)), sdat nd (cki k)]
theorem laidC_eq : (Rows.laid_rivulet_control_shapes : DataW Unit) = .agg ((List.range 4).map scd) := by kernel_rfl
theorem field_of {H : Type} {enc : TypeId × Value → H} {W : World} {held : Bool} {fuel : Nat} {cs : List Value} {x : DataW H × List MemPlace} (f : Fl) (h : DataW.trod enc Tryz.prog W 0 (fun _ => true) held fuel 202 cs = some x) (hx : x.1 = fd f) : cs = [.int .i64 (f.p : Int), .int .i64 (f.s : Int), .int .i64 (f.l : Int)] := by
  obtain ⟨xs, n, rfl, hlen, hxl, hall⟩ := fields_of uc110 _ fsc110 h
  rw [cc110] at hlen
  match xs, hxl, cs, hlen with
  | [y0, y1, y2], _, [v0, v1, v2], _ =>
    have h0 := hall 0 3 0 rfl
    have h1 := hall 1 3 1 rfl
    have h2 := hall 2 3 2 rfl
    rw [cc3] at h0 h1 h2
    simp at h0 h1 h2
    obtain ⟨z0, e0, f0, _⟩ := DataW.trod_int Tryz.underlying3 h0
    obtain ⟨z1, e1, f1, _⟩ := DataW.trod_int Tryz.underlying3 h1
    obtain ⟨z2, e2, f2, _⟩ := DataW.trod_int Tryz.underlying3 h2
    simp at e0 e1 e2
    subst e0; subst e1; subst e2
    simp [fd, f0, f1, f2] at hx
    obtain ⟨q0, q1, q2⟩ := hx
    rw [q0, q1, q2]
theorem pfields_of {H : Type} {enc : TypeId × Value → H} {W : World} {held : Bool} {fuel : Nat} {cs : List Value} {x : DataW H × List MemPlace} (l : List Fl) (h : DataW.trod enc Tryz.prog W 0 (fun _ => true) held fuel 198 cs = some x) (hx : x.1 = sdat fd l) : ∃ a n cap, cs = [.slice a n cap] ∧ FLies W.heap.size W a n cap l := by
  obtain ⟨a, n, cap, hcs, hlen, hle, hmax, _, hall⟩ := slice_of 198 202 3 uc106 cc110 (by decide) Fl.none fd l h hx
  refine ⟨a, n, cap, hcs, hlen, hle, hmax, fun i hi => ?_⟩
  obtain ⟨b, off, fu, cs', y, ha, hc, hl, ht, hy⟩ := hall i hi
  have he := field_of _ ht hy
  subst he
  have e0 := hc 0 (by decide)
  have e1 := hc 1 (by decide)
  have e2 := hc 2 (by decide)
  simp only [Nat.add_zero, List.getElem?_cons_zero, List.getElem?_cons_succ] at e0 e1 e2
  exact ⟨b, off, ha, World.block_lt_of_cell? W _ e0, e0, e1, e2⟩
theorem cpart_of {H : Type} {enc : TypeId × Value → H} {W : World} {held : Bool} {fuel : Nat} {cs : List Value} {x : DataW H × List MemPlace} (p : Pa) (h : DataW.trod enc Tryz.prog W 0 (fun _ => true) held fuel 200 cs = some x) (hx : x.1 = pad p) : ∃ a n cap, cs = [.int .i64 (p.z : Int), .slice a n cap] ∧ FLies W.heap.size W a n cap p.f := by
  obtain ⟨xs, n, rfl, hlen, hxl, hall⟩ := fields_of uc108 _ fsc108 h
  rw [cc108] at hlen
  match xs, hxl, cs, hlen with
  | [y0, y1], _, [v0, v1], _ =>
    have h0 := hall 0 3 0 rfl
    have h1 := hall 1 198 1 rfl
    rw [cc3] at h0
    rw [cc106] at h1
    simp at h0 h1
    obtain ⟨z0, e0, f0, _⟩ := DataW.trod_int Tryz.underlying3 h0
    simp [pad] at hx
    obtain ⟨a, n, cap, e1, hF⟩ := pfields_of p.f h1 hx.2
    simp at e0 e1
    subst e0; subst e1
    rw [f0] at hx
    simp at hx
    exact ⟨a, n, cap, by rw [hx.1], hF⟩
theorem cparts_of {H : Type} {enc : TypeId × Value → H} {W : World} {held : Bool} {fuel : Nat} {cs : List Value} {x : DataW H × List MemPlace} (l : List Pa) (h : DataW.trod enc Tryz.prog W 0 (fun _ => true) held fuel 194 cs = some x) (hx : x.1 = sdat pad l) : ∃ a n cap, cs = [.slice a n cap] ∧ PaLies W.heap.size W a n cap l := by
  obtain ⟨a, n, cap, hcs, hlen, hle, hmax, _, hall⟩ := slice_of 194 200 2 uc96 cc108 (by decide) Pa.none pad l h hx
  refine ⟨a, n, cap, hcs, hlen, hle, hmax, fun i hi => ?_⟩
  obtain ⟨b, off, fu, cs', y, ha, hc, hl, ht, hy⟩ := hall i hi
  obtain ⟨fa, fn, fc, he, hF⟩ := cpart_of _ ht hy
  subst he
  have e0 := hc 0 (by decide)
  have e1 := hc 1 (by decide)
  simp only [Nat.add_zero, List.getElem?_cons_zero, List.getElem?_cons_succ] at e0 e1
  exact ⟨b, off, ha, World.block_lt_of_cell? W _ e0, e0, fa, fn, fc, e1, hF⟩
theorem ckinds_of {H : Type} {enc : TypeId × Value → H} {W : World} {held : Bool} {fuel : Nat} {cs : List Value} {x : DataW H × List MemPlace} (l : List Int) (h : DataW.trod enc Tryz.prog W 0 (fun _ => true) held fuel 114 cs = some x) (hx : x.1 = sdat nd l) : ∃ a n cap, cs = [.slice a n cap] ∧ NLies W.heap.size W a n cap l := by
  obtain ⟨a, n, cap, hcs, hlen, hle, hmax, hnil, hall⟩ := slice_of 114 3 1 uc52 cc3 (by decide) 0 nd l h hx
  refine ⟨a, n, cap, hcs, hlen, hle, hmax, hnil, fun i hi => ?_⟩
  obtain ⟨b, off, fu, cs', y, ha, hc, hl, ht, hy⟩ := hall i hi
  obtain ⟨z, e, f, _⟩ := DataW.trod_int Tryz.underlying3 ht
  subst e
  have e0 := hc 0 (by decide)
  simp only [Nat.add_zero, Nat.mul_one, List.getElem?_cons_zero] at e0
  rw [f] at hy
  simp [nd] at hy
  refine ⟨b, off, ha, World.block_lt_of_cell? W _ e0, ?_⟩
  rw [e0, hy]; simp
theorem cshape_of {enc : TypeId × Value → Unit} {W : World} {held : Bool} {fuel : Nat} {cs : List Value} {x : DataW Unit × List MemPlace} (k : Nat) (h : DataW.trod enc Tryz.prog W 0 (fun _ => true) held fuel 196 cs = some x) (hx : x.1 = scd k) :
    ∃ a n cap a2 n2 c2, cs = [.string (cwd k), .slice a n cap, .bool (crt k), .slice a2 n2 c2] ∧ PaLies W.heap.size W a n cap (cpa k) ∧ NLies W.heap.size W a2 n2 c2 (cki k) := by
  obtain ⟨xs, n, rfl, hlen, hxl, hall⟩ := fields_of uc98 _ fsc98 h
  rw [cc98] at hlen
  match xs, hxl, cs, hlen with
  | [y0, y1, y2, y3], _, [v0, v1, v2, v3], _ =>
    have h0 := hall 0 9 0 rfl
    have h1 := hall 1 194 1 rfl
    have h2 := hall 2 4 2 rfl
    have h3 := hall 3 114 3 rfl
    rw [cc9] at h0
    rw [cc96] at h1
    rw [cc4] at h2
    rw [cc52] at h3
    simp at h0 h1 h2 h3
    simp [scd] at hx
    obtain ⟨s, e0, f0, _⟩ := DataW.trod_string Tryz.underlying9 h0
    obtain ⟨a, m, cap, e1, hP⟩ := cparts_of (cpa k) h1 hx.2.1
    obtain ⟨b2, e2, f2⟩ := DataW.trod_bool Tryz.underlying4 h2
    obtain ⟨a3, m3, cap3, e3, hK⟩ := ckinds_of (cki k) h3 hx.2.2.2
    simp at e0 e1 e2 e3
    subst e0; subst e1; subst e2; subst e3
    rw [f0, f2] at hx
    simp at hx
    obtain ⟨q0, _, q2, _⟩ := hx
    refine ⟨a, m, cap, a3, m3, cap3, ?_, hP, hK⟩
    have hs : s = cwd k := by
      have : s.data = (cwd k).data := by simpa using q0
      cases s; cases hw : cwd k; simp_all
    rw [hs, q2]
theorem cvars_of {W : World} (h : laidMet Tryz.prog [("rivulet/option.shapes", Rows.laid_rivulet_option_shapes), ("rivulet/control.shapes", Rows.laid_rivulet_control_shapes)] W) : CV W.heap.size W := by
  have hO := vars_of h
  have h : laidMet Tryz.prog [("rivulet/option.shapes", Rows.laid_rivulet_option_shapes), ("rivulet/control.shapes", Rows.laid_rivulet_control_shapes)] W := h
  obtain ⟨ps, ⟨_, _, _, _, _, q0, _, _, _, _, hrest, _⟩, _⟩ := h
  obtain ⟨g, t, cs, fuel, p, q, hg, ht, hvar, hd, _, _⟩ := hrest
  obtain rfl := Option.some.inj (gC0.symm.trans hg)
  obtain rfl := Option.some.inj (gtC0.symm.trans ht)
  rw [laidC_eq] at hd
  obtain ⟨xs, m, _, hx, hlen, hxl, hall⟩ := DataW.trod_array uc99 hd
  have hx1 : (DataW.agg ((List.range 4).map scd) : DataW Unit) = .agg (xs.map (·.1)) := congrArg Prod.fst hx
  injection hx1 with hx1
  rw [cc99] at hlen
  rw [cc98] at hall
  have key : ∀ k, k < 4 → ∃ a n cap a2 n2 c2, (cs.toList.drop (k * 4)).take 4 = [.string (cwd k), .slice a n cap, .bool (crt k), .slice a2 n2 c2] ∧ PaLies W.heap.size W a n cap (cpa k) ∧ NLies W.heap.size W a2 n2 c2 (cki k) := by
    intro k hk
    have h1 := hall k hk
    rw [List.getElem?_eq_getElem (by omega)] at h1
    refine cshape_of k h1 ?_
    have := congrArg (·[k]?) hx1
    simp only [List.getElem?_map, List.getElem?_range hk, Option.map_some] at this
    rw [List.getElem?_eq_getElem (by omega)] at this
    simpa using this.symm
  have cell : ∀ k j v, k < 4 → j < 4 → ((cs.toList.drop (k * 4)).take 4)[j]? = some v → W.cell? ⟨0, k * 4 + j, none⟩ = some v := by
    intro k j v hk hj hv
    have h0 := World.var?_cell gC0 hvar (k * 4 + j)
    rw [h0]
    rw [List.getElem?_take, if_pos hj, List.getElem?_drop] at hv
    simpa using hv
  have c0 : W.cell? ⟨0, 0, none⟩ = some (.string (cwd 0)) := by
    obtain ⟨a, n, cap, a2, n2, c2, e, _⟩ := key 0 (by decide)
    exact cell 0 0 _ (by decide) (by decide) (by rw [e]; rfl)
  refine ⟨⟨World.block_lt_of_cell? W _ c0, Nat.le_refl _, fun k hk => ?_, fun k hk => ?_, fun k hk => ?_, fun k hk => ?_⟩, hO⟩
  · obtain ⟨a, n, cap, a2, n2, c2, e, _⟩ := key k hk
    exact cell k 0 _ hk (by decide) (by rw [e]; rfl)
  · obtain ⟨a, n, cap, a2, n2, c2, e, hP, _⟩ := key k hk
    exact ⟨a, n, cap, cell k 1 _ hk (by decide) (by rw [e]; rfl), hP⟩
  · obtain ⟨a, n, cap, a2, n2, c2, e, _⟩ := key k hk
    exact cell k 2 _ hk (by decide) (by rw [e]; rfl)
  · obtain ⟨a, n, cap, a2, n2, c2, e, _, hK⟩ := key k hk
    exact ⟨a2, n2, c2, cell k 3 _ hk (by decide) (by rw [e]; rfl), hK⟩
/-! A message that came in. -/
theorem msg_of {H : Type} {enc : TypeId × Value → H} {W : World} {held : Bool} {fuel : Nat} {cs : List Value} {x : DataW H × List MemPlace} (h : DataW.trod enc Tryz.prog W 0 (fun _ => true) held fuel 27 cs = some x) : ∃ m : Mv, cs = m.cs.toList ∧ m.ok W ∧ Wfo m.L := by
  obtain ⟨xs, n, rfl, hlen, hxl, hall⟩ := fields_of uc25 _ fsc25 h
  rw [cc25] at hlen
  have key : ∀ (i : Nat) (ty : TypeId) (o : Nat), [(3, 0), (3, 1), (3, 2), (3, 3), (3, 4), (3, 5), (3, 6), (3, 7), (3, 8), (4, 9), (4, 10), (22, 11), (25, 27)][i]? = some (ty, o) → ∃ y, DataW.trod enc Tryz.prog W 0 (fun _ => true) held n ty ((cs.drop o).take (Tryz.prog.cellsOf ty)) = some y := by
    intro i ty o he
    have hi : i < 13 := (List.getElem?_eq_some_iff.1 he).1
    have := hall i ty o he
    rw [List.getElem?_eq_getElem (by rw [hxl]; exact hi)] at this
    exact ⟨_, this⟩
  have int : ∀ o, o < 9 → ∃ z, (cs.drop o).take 1 = [.int .i64 z] := by
    intro o ho
    obtain ⟨y, hy⟩ := key o 3 o (by match o, ho with | 0, _ => rfl | 1, _ => rfl | 2, _ => rfl | 3, _ => rfl | 4, _ => rfl | 5, _ => rfl | 6, _ => rfl | 7, _ => rfl | 8, _ => rfl)
    rw [cc3] at hy
    obtain ⟨z, hz, _, _⟩ := DataW.trod_int Tryz.underlying3 hy
    exact ⟨z, hz⟩
  obtain ⟨n0, e0⟩ := int 0 (by decide)
  obtain ⟨n1, e1⟩ := int 1 (by decide)
  obtain ⟨n2, e2⟩ := int 2 (by decide)
  obtain ⟨n3, e3⟩ := int 3 (by decide)
  obtain ⟨n4, e4⟩ := int 4 (by decide)
  obtain ⟨n5, e5⟩ := int 5 (by decide)
  obtain ⟨n6, e6⟩ := int 6 (by decide)
  obtain ⟨n7, e7⟩ := int 7 (by decide)
  obtain ⟨n8, e8⟩ := int 8 (by decide)
  obtain ⟨y9, h9⟩ := key 9 4 9 rfl
  obtain ⟨y10, h10⟩ := key 10 4 10 rfl
  obtain ⟨y11, h11⟩ := key 11 22 11 rfl
  obtain ⟨y12, h12⟩ := key 12 25 27 rfl
  rw [cc4] at h9 h10
  rw [cc22] at h11
  rw [cc23] at h12
  obtain ⟨g, e9, _⟩ := DataW.trod_bool Tryz.underlying4 h9
  obtain ⟨a, e10, _⟩ := DataW.trod_bool Tryz.underlying4 h10
  obtain ⟨ad, e11, hA⟩ := adr_of h11
  obtain ⟨oa, on, oc, e12⟩ : ∃ oa on oc, (cs.drop 27).take 1 = [Value.slice oa on oc] := by
    rcases open_slice Tryz.underlying25 h12 with ⟨hcs, _⟩ | ⟨sad, l, c, _, _, _, _, hcs, _⟩
    · exact ⟨none, 0, 0, hcs⟩
    · exact ⟨some sad, l, c, hcs⟩
  rw [e12] at h12
  obtain ⟨L, hL⟩ := open_optsw (a := oa) (len := on) (cap := oc) ⟨n, h12⟩
  clear key int hall hxl h9 h10 h11 h12
  match cs, hlen with
  | c0 :: c1 :: c2 :: c3 :: c4 :: c5 :: c6 :: c7 :: c8 :: c9 :: c10 :: rest, hlen =>
    simp at e0 e1 e2 e3 e4 e5 e6 e7 e8 e9 e10 e11 e12 hlen
    subst e0; subst e1; subst e2; subst e3; subst e4; subst e5; subst e6; subst e7; subst e8; subst e9; subst e10
    refine ⟨⟨n0, n1, n2, n3, n4, n5, n6, n7, n8, g, a, ad, oa, on, oc, L⟩, ?_, ⟨hA, hL.1⟩, hL.2⟩
    have hr : rest = u8s ad ++ [.slice oa on oc] := by
      rw [← e11, ← e12, List.take_of_length_le (by simp; omega : (rest.drop 16).length ≤ 1), List.take_append_drop]
    simp [Mv.cs, Mv.hd, arr, hr]
end Go.Proofs.YtbklpelikaapoaaGreatDoor

namespace Go.Proofs.YtbklpelikaapoaaGreatDoor
open Go.ChangeShapes Go.WideShapes Go.ChangeAt Go.RowKit Go.Deep
set_option linter.unusedVariables false
set_option linter.unusedSimpArgs false
set_option maxRecDepth 100000

theorem own : ownKnob Tryz.prog.godebug = none := by kernel_rfl
theorem laidOut : laidOutB Tryz.prog = true := by kernel_rfl
noncomputable def lowW : Nat := (World.holding Tryz.prog default ⟨#[], #[], []⟩).heap.size
def put (c : Array Value) : Obj → Obj
  | .cells _ t frozen => .cells c t frozen
  | o => o
def pblk (k : Nat) : Obj := .cells (pcs (prt k)).toArray 240
noncomputable def shc (k : Nat) (j : Nat) : List Value := [.string (wrd k), .slice (some ⟨lowW + j, 0, none⟩) (prt k).length (prt k).length, .bool (zer k), .bool (txb k)]
def shn (k : Nat) : List Value := [.string (wrd k), .slice none 0 0, .bool (zer k), .bool (txb k)]
noncomputable def shAll : Array Value := (shn 0 ++ (shc 1 0 ++ (shn 2 ++ (shc 3 1 ++ (shc 4 2 ++ (shc 5 3 ++ (shc 6 4 ++ (shc 7 5 ++ (shc 8 6 ++ shc 9 7))))))))).toArray
noncomputable def csAll : Array Value := #[.string (cwd 0), .slice (some ⟨lowW + 8, 0, none⟩) 1 1, .bool (crt 0), .slice (some ⟨lowW + 9, 0, none⟩) 3 3, .string (cwd 1), .slice (some ⟨lowW + 15, 0, none⟩) 6 6, .bool (crt 1), .slice (some ⟨lowW + 16, 0, none⟩) 6 6, .string (cwd 2), .slice (some ⟨lowW + 20, 0, none⟩) 4 4, .bool (crt 2), .slice (some ⟨lowW + 21, 0, none⟩) 5 5, .string (cwd 3), .slice (some ⟨lowW + 26, 0, none⟩) 4 4, .bool (crt 3), .slice (some ⟨lowW + 27, 0, none⟩) 2 2]
noncomputable def laidObjs : List Obj := [pblk 1, pblk 3, pblk 4, pblk 5, pblk 6, pblk 7, pblk 8, pblk 9, (.cells #[.int .i64 2, .slice none 0 0] 200), (.cells #[.int .i64 0, .int .i64 1, .int .i64 7] 3), (.cells #[.int .i64 0, .int .i64 0, .int .i64 255] 202), (.cells #[.int .i64 1, .int .i64 0, .int .i64 255] 202), (.cells #[.int .i64 2, .int .i64 0, .int .i64 65535] 202), (.cells #[.int .i64 3, .int .i64 7, .int .i64 1, .int .i64 4, .int .i64 3, .int .i64 7, .int .i64 5, .int .i64 0, .int .i64 7] 202), (.cells #[.int .i64 6, .int .i64 0, .int .i64 255] 202), (.cells #[.int .i64 1, .slice (some ⟨lowW + 10, 0, none⟩) 1 1, .int .i64 1, .slice (some ⟨lowW + 11, 0, none⟩) 1 1, .int .i64 2, .slice (some ⟨lowW + 12, 0, none⟩) 1 1, .int .i64 1, .slice (some ⟨lowW + 13, 0, none⟩) 3 3, .int .i64 1, .slice (some ⟨lowW + 14, 0, none⟩) 1 1, .int .i64 2, .slice none 0 0] 200), (.cells #[.int .i64 0, .int .i64 1, .int .i64 2, .int .i64 3, .int .i64 4, .int .i64 8] 3), (.cells #[.int .i64 0, .int .i64 0, .int .i64 255] 202), (.cells #[.int .i64 7, .int .i64 7, .int .i64 1, .int .i64 10, .int .i64 6, .int .i64 1] 202), (.cells #[.int .i64 8, .int .i64 0, .int .i64 255] 202), (.cells #[.int .i64 1, .slice (some ⟨lowW + 17, 0, none⟩) 1 1, .int .i64 1, .slice (some ⟨lowW + 18, 0, none⟩) 2 2, .int .i64 1, .slice none 0 0, .int .i64 1, .slice (some ⟨lowW + 19, 0, none⟩) 1 1] 200), (.cells #[.int .i64 0, .int .i64 1, .int .i64 5, .int .i64 6, .int .i64 9] 3), (.cells #[.int .i64 0, .int .i64 0, .int .i64 255] 202), (.cells #[.int .i64 10, .int .i64 7, .int .i64 1] 202), (.cells #[.int .i64 8, .int .i64 0, .int .i64 255] 202), (.cells #[.int .i64 9, .int .i64 0, .int .i64 255] 202), (.cells #[.int .i64 1, .slice (some ⟨lowW + 22, 0, none⟩) 1 1, .int .i64 1, .slice (some ⟨lowW + 23, 0, none⟩) 1 1, .int .i64 1, .slice (some ⟨lowW + 24, 0, none⟩) 1 1, .int .i64 1, .slice (some ⟨lowW + 25, 0, none⟩) 1 1] 200), (.cells #[.int .i64 0, .int .i64 1] 3)]
noncomputable def laidWorld (os : Os) : World :=
  let w0 := World.holding Tryz.prog os ⟨laidObjs.toArray, #[], []⟩
  { w0 with heap := (w0.heap.modify 1 (put shAll)).modify 0 (put csAll) }
theorem laid_met (os : Os) (args : Array Value) : laidMet Tryz.prog Rows.datagramBendsRow.laid ((laidWorld os).forCall (fun _ _ => 0) ⟨#[], args, []⟩).memory :=
  laidMet_of_run' 10 (by kernel_rfl) (by kernel_rfl)
end Go.Proofs.YtbklpelikaapoaaGreatDoor

namespace Go.Proofs.YtbklpelikaapoaaGreatDoor
open Go.ChangeShapes Go.WideShapes Go.ChangeAt Go.RowKit Go.Deep
set_option linter.unusedVariables false
set_option linter.unusedSimpArgs false

theorem c22 : Tryz.prog.cellsOf 22 = 16 := by kernel_rfl
theorem c3 : Tryz.prog.cellsOf 3 = 1 := by kernel_rfl
theorem fieldsRh : Tryz.prog.underlying 24 = some (.struct (Tryz.prog.fieldsOf 24)) := by kernel_rfl
theorem fsRh : (Tryz.prog.fieldsOf 24).toList.map (fun f => (f.type, f.offset)) = [(3, 0), (3, 1), (3, 2), (3, 3), (3, 4), (22, 5), (22, 21)] := by kernel_rfl
theorem adr_cells {H : Type} {enc : TypeId × Value → H} {W : World} {held : Bool} {fuel : Nat} {cs : List Value} {x : DataW H × List MemPlace} (hlen : cs.length = 16)
    (hf : DataW.trod enc Tryz.prog W 0 (fun _ => true) held fuel 22 cs = some x) : ∃ l, cs = u8s l ∧ Adr l := by
  obtain ⟨xs, m, rfl, hx, hl, hxl, hall⟩ := DataW.trod_array Tryz.underlying22 hf
  have key : ∀ i, i < 16 → ∃ z, cs[i]? = some (.int .u8 z) ∧ 0 ≤ z ∧ z < 256 := by
    intro i hi
    have h1 := hall i hi
    rw [c5, Nat.mul_one] at h1
    obtain ⟨b, hb⟩ : ∃ b, xs[i]? = some b := ⟨xs[i]'(by omega), List.getElem?_eq_getElem (by omega)⟩
    rw [hb] at h1
    obtain ⟨z, hz, _, hw⟩ := DataW.trod_int Tryz.underlying5 h1
    have h2 : cs[i]? = some (.int .u8 z) := by
      have := congrArg (·[0]?) hz
      simpa [List.getElem?_take, List.getElem?_drop] using this
    have e1 : IntKind.u8.min = 0 := rfl
    have e2 : IntKind.u8.max = 255 := rfl
    simp [Lit.wf, e1, e2] at hw
    exact ⟨z, h2, hw.1, by omega⟩
  refine ⟨cs.map intOf, ?_, ?_, ?_⟩
  · apply List.ext_getElem?
    intro i
    by_cases hi : i < 16
    · obtain ⟨z, hz, _⟩ := key i hi
      simp only [u8s, List.getElem?_map, hz, Option.map_some, intOf]
    · rw [List.getElem?_eq_none (by omega), List.getElem?_eq_none (by simp [u8s]; omega)]
  · simp; omega
  · intro x hx
    simp only [List.mem_map] at hx
    obtain ⟨v, hv, rfl⟩ := hx
    obtain ⟨i, hi, rfl⟩ := List.mem_iff_getElem.1 hv
    obtain ⟨z, hz, h0, h1⟩ := key i (by omega)
    rw [List.getElem?_eq_getElem hi] at hz
    rw [Option.some.inj hz]
    exact ⟨h0, h1⟩
theorem hd_cells {H : Type} {enc : TypeId × Value → H} {W : World} {held : Bool} {fuel : Nat} {cs : List Value} {x : DataW H × List MemPlace} (hlen : cs.length = 37)
    (hf : DataW.trod enc Tryz.prog W 0 (fun _ => true) held fuel 24 cs = some x) : ∃ h : Hd, cs = h.cs.toList ∧ h.ok := by
  obtain ⟨xs, n, rfl, hx, hl, hxl, hall⟩ := DataW.trod_struct fieldsRh hf
  have h7 : (Tryz.prog.fieldsOf 24).size = 7 := by have := congrArg List.length fsRh; simpa using this
  have key : ∀ i t o, i < 7 → [(3, 0), (3, 1), (3, 2), (3, 3), (3, 4), (22, 5), (22, 21)][i]? = some (t, o) → ∃ y, DataW.trod enc Tryz.prog W 0 (fun _ => true) held n t ((cs.drop o).take (Tryz.prog.cellsOf t)) = some y := by
    intro i t o hi he
    have hi' : i < (Tryz.prog.fieldsOf 24).size := by omega
    have e1 := congrArg (·[i]?) fsRh
    simp only [List.getElem?_map, he] at e1
    have e2 : (Tryz.prog.fieldsOf 24).toList[i]? = some (Tryz.prog.fieldsOf 24)[i] := by simp [hi']
    rw [e2] at e1
    simp only [Option.map_some, Option.some.injEq, Prod.mk.injEq] at e1
    have := hall i _ (Array.getElem?_eq_getElem hi')
    rw [e1.1, e1.2, List.getElem?_eq_getElem (by omega : i < xs.length)] at this
    exact ⟨_, this⟩
  have int : ∀ o, o < 5 → ∃ N, (cs.drop o).take 1 = [.int .i64 N] := by
    intro o ho
    obtain ⟨y, hy⟩ := key o 3 o (by omega) (by match o, ho with | 0, _ => rfl | 1, _ => rfl | 2, _ => rfl | 3, _ => rfl | 4, _ => rfl)
    rw [c3] at hy
    obtain ⟨N, hN, _, _⟩ := DataW.trod_int Tryz.underlying3 hy
    exact ⟨N, hN⟩
  obtain ⟨n0, h0⟩ := int 0 (by omega)
  obtain ⟨n1, h1⟩ := int 1 (by omega)
  obtain ⟨n2, h2⟩ := int 2 (by omega)
  obtain ⟨n3, h3⟩ := int 3 (by omega)
  obtain ⟨n4, h4⟩ := int 4 (by omega)
  obtain ⟨y5, h5⟩ := key 5 22 5 (by omega) rfl
  obtain ⟨y6, h6⟩ := key 6 22 21 (by omega) rfl
  rw [c22] at h5 h6
  obtain ⟨f, hf5, hF⟩ := adr_cells (by simp; omega) h5
  obtain ⟨t, hf6, hT⟩ := adr_cells (by simp; omega) h6
  clear key int hall h5 h6 hx hxl hl hf
  match cs, hlen with
  | c0 :: c1 :: c2 :: c3 :: c4 :: rest, hlen =>
    simp at h0 h1 h2 h3 h4 hlen hf5 hf6
    subst h0; subst h1; subst h2; subst h3; subst h4
    refine ⟨⟨n0, n1, n2, n3, n4, f, t⟩, ?_, hF, hT⟩
    have hr : rest = u8s f ++ u8s t := by
      rw [← hf5, ← hf6, List.take_of_length_le (by simp; omega : (rest.drop 16).length ≤ 16), List.take_append_drop]
    simp [Hd.cs, arr, hr]
end Go.Proofs.YtbklpelikaapoaaGreatDoor

namespace Go.Proofs.YtbklpelikaapoaaGreatDoor
open Go.ChangeShapes Go.WideShapes Go.ChangeAt Go.RowKit Go.Deep
set_option linter.unusedVariables false
set_option linter.unusedSimpArgs false
set_option linter.constructorNameAsVariable false

theorem cells3o : Tryz.prog.cellsOf 3 = 1 := by kernel_rfl
theorem cells4o : Tryz.prog.cellsOf 4 = 1 := by kernel_rfl
theorem fsRo' : (Tryz.prog.fieldsOf 29).toList.map (fun f => (f.type, f.offset)) = [(4, 0), (4, 1), (4, 2), (3, 3), (3, 4)] := by kernel_rfl
theorem ho_cells {H : Type} {enc : TypeId × Value → H} {W : World} {held : Bool} {fuel : Nat} {cs : List Value} {x : DataW H × List MemPlace} (hlen : cs.length = 5)
    (hf : DataW.trod enc Tryz.prog W 0 (fun _ => true) held fuel 29 cs = some x) : ∃ h : Ho, cs = h.cs.toList := by
  obtain ⟨xs, n, rfl, hx, hl, hxl, hall⟩ := DataW.trod_struct fieldsRo hf
  have h5 : (Tryz.prog.fieldsOf 29).size = 5 := by have := congrArg List.length fsRo'; simpa using this
  have key : ∀ i t o, i < 5 → [(4, 0), (4, 1), (4, 2), (3, 3), (3, 4)][i]? = some (t, o) → ∃ y, DataW.trod enc Tryz.prog W 0 (fun _ => true) held n t ((cs.drop o).take (Tryz.prog.cellsOf t)) = some y := by
    intro i t o hi he
    have hi' : i < (Tryz.prog.fieldsOf 29).size := by omega
    have e1 := congrArg (·[i]?) fsRo'
    simp only [List.getElem?_map, he] at e1
    have e2 : (Tryz.prog.fieldsOf 29).toList[i]? = some (Tryz.prog.fieldsOf 29)[i] := by simp [hi']
    rw [e2] at e1
    simp only [Option.map_some, Option.some.injEq, Prod.mk.injEq] at e1
    have := hall i _ (Array.getElem?_eq_getElem hi')
    rw [e1.1, e1.2, List.getElem?_eq_getElem (by omega : i < xs.length)] at this
    exact ⟨_, this⟩
  obtain ⟨y0, h0⟩ := key 0 4 0 (by omega) rfl
  obtain ⟨y1, h1⟩ := key 1 4 1 (by omega) rfl
  obtain ⟨y2, h2⟩ := key 2 4 2 (by omega) rfl
  obtain ⟨y3, h3⟩ := key 3 3 3 (by omega) rfl
  obtain ⟨y4, h4⟩ := key 4 3 4 (by omega) rfl
  rw [cells4o] at h0 h1 h2
  rw [cells3o] at h3 h4
  obtain ⟨b0, k0, _⟩ := DataW.trod_bool Tryz.underlying4 h0
  obtain ⟨b1, k1, _⟩ := DataW.trod_bool Tryz.underlying4 h1
  obtain ⟨b2, k2, _⟩ := DataW.trod_bool Tryz.underlying4 h2
  obtain ⟨n3, k3, _⟩ := DataW.trod_int Tryz.underlying3 h3
  obtain ⟨n4, k4, _⟩ := DataW.trod_int Tryz.underlying3 h4
  clear key hall h0 h1 h2 h3 h4 hx hxl hl hf
  match cs, hlen with
  | [c0, c1, c2, c3, c4], _ =>
    simp at k0 k1 k2 k3 k4
    subst k0; subst k1; subst k2; subst k3; subst k4
    exact ⟨⟨b0, b1, b2, n3, n4⟩, rfl⟩
end Go.Proofs.YtbklpelikaapoaaGreatDoor
