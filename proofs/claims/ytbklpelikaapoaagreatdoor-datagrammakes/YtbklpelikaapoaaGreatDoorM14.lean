/- Are two messages the same? · Datagrams, plainly: what is wrong with a packet, its bytes; what bytes are. · datagram's Encode: data, control messages. -/
import Derived.Test.YtbklpelikaapoaaGreatDoorM5
import Derived.Test.YtbklpelikaapoaaGreatDoorM13
import Derived.Test.YtbklpelikaapoaaGreatDoorM9
import Derived.Test.YtbklpelikaapoaaGreatDoorM10
import Derived.Test.YtbklpelikaapoaaGreatDoorM11
import Derived.Test.YtbklpelikaapoaaGreatDoorM12
namespace Go.Proofs.YtbklpelikaapoaaGreatDoor
open Go.ChangeShapes Go.WideShapes Go.ChangeAt Go.RowKit Go.Deep
set_option linter.unusedVariables false
set_option linter.unusedSimpArgs false

/-- The same message? -/
def sameM (a b : Pm) : Bool := (a.c == b.c) && ((a.ro == b.ro) && ((a.vs == b.vs) && allB a.o b.o))
set_option maxRecDepth 100000 in
set_option maxHeartbeats 1600000 in
theorem cSame1 (m x : Mv) (w : World) (hm : m.ok w) (hx : x.ok w) (h1 : (m.c == x.c) = false) : Calls Tryz.prog 22 #[.agg m.cs, .agg x.cs] w fun e w' => e = .returned (.bool (sameM m.p x.p)) ∧ Below w.heap.size w w' := by
  have HA := hid hm.ro
  have HB := hid hx.ro
  have R1 := hid ((Row.new w 38 m.cs).alloc (.cells x.cs 38))
  have X1 := hid (Row.new (w.alloc (.cells m.cs 38)) 38 x.cs)
  have B1 := hid (balloc (balloc (Below.refl w.heap.size w) (.cells m.cs 38)) (.cells x.cs 38))
  have hs1 : (w.alloc (.cells m.cs 38)).heap.size = w.heap.size + 1 := World.size_alloc ..
  have hs2 : ((w.alloc (.cells m.cs 38)).alloc (.cells x.cs 38)).heap.size = w.heap.size + 2 := by rw [World.size_alloc, hs1]
  rw [hs1] at X1
  have O1 := hid (hm.o.below B1.out)
  have P1 := hid (hx.o.below B1.out)
  have hq := eq41 m.ro x.ro hm.ro.1 hx.ro.1
  have HS : Hid (sameM m.p x.p = ((m.c == x.c) && ((m.ro == x.ro) && ((m.p.vs == x.p.vs) && allB (pos m.L) (pos x.L))))) := rfl
  clear hm hx
  go_enter Tryz.func22, Tryz.ntmps22
  go_upto_region 1 with fail
  generalize hw1 : (w.alloc (.cells m.cs 38)).alloc (.cells x.cs 38) = w1 at *
  have B1 : Hid (Below w.heap.size w w1.drew) := hid (B1.out.trans ⟨rfl, rfl, rfl, Nat.le_refl _, fun _ _ => rfl⟩)
  have O1 : Hid (Opts w1.drew m.oa m.on m.oc m.L) := hid (O1.out.below (bdrew (Below.refl _ _) 1))
  have P1 : Hid (Opts w1.drew x.oa x.on x.oc x.L) := hid (P1.out.below (bdrew (Below.refl _ _) 1))
  have R1 : Hid (Row w1.drew w.heap.size 38 m.cs) := R1
  have X1 : Hid (Row w1.drew (w.heap.size + 1) 38 x.cs) := X1
  generalize hg1 : w.heap.size = g1 at *
  clear hw1 hs1 hs2
  refine wp_region_held_drew (S := fun w' => w'.cell? ⟨g1, 0, none⟩ = some (.int .i64 m.c) ∧ (w'.cell? ⟨g1 + 1, 0, none⟩ = some (.int .i64 x.c) ∧ (w'.cell? ⟨g1, 27, none⟩ = some (.slice m.oa m.on m.oc) ∧ (w'.cell? ⟨g1 + 1, 27, none⟩ = some (.slice x.oa x.on x.oc) ∧ (Hid (Row w' g1 38 m.cs) ∧ Hid (Row w' (g1 + 1) 38 x.cs)))))) (by kernel_rfl) ?_ (fun hHeld => ?_)
  · exact ⟨(R1.out.cell 0).trans m.at0, (X1.out.cell 0).trans x.at0, (R1.out.cell 27).trans (Mv.at27 HA.out), (X1.out.cell 27).trans (Mv.at27 HB.out), R1.out, X1.out⟩
  refine wpAnyH_take (i := 0) (oi := _) (v := ?va0) rfl (by kernel_rfl) (by kernel_rfl) (by kernel_rfl) (fun _ _ _ h => h) (Or.inl ⟨by rfl, ?hya0⟩) (by assumption) ?resta0
  case hya0 => (intro w hSw; (try dsimp only at hSw); go_split_ands; go_simp; try (with_reducible rfl))
  try simp only [List.getElem_toArray, List.getElem_cons_zero, List.getElem_cons_succ, Act.put, List.setIfInBounds_toArray, List.set_cons_zero, List.set_cons_succ]
  refine wpAnyH_take (i := 1) (oi := _) (v := ?va1) rfl (by kernel_rfl) (by kernel_rfl) (by kernel_rfl) (fun _ _ _ h => h) (Or.inl ⟨by rfl, ?hya1⟩) (by assumption) ?resta1
  case hya1 => (intro w hSw; (try dsimp only at hSw); go_split_ands; go_simp; try (with_reducible rfl))
  try simp only [List.getElem_toArray, List.getElem_cons_zero, List.getElem_cons_succ, Act.put, List.setIfInBounds_toArray, List.set_cons_zero, List.set_cons_succ]
  refine wpAnyH_take (i := 2) (oi := _) (v := ?va2) rfl (by kernel_rfl) (by kernel_rfl) (by kernel_rfl) (fun _ _ _ h => h) (Or.inl ⟨by rfl, ?hya2⟩) (by assumption) ?resta2
  case hya2 => (intro w hSw; (try dsimp only at hSw); go_split_ands; go_simp; try (with_reducible rfl))
  try simp only [List.getElem_toArray, List.getElem_cons_zero, List.getElem_cons_succ, Act.put, List.setIfInBounds_toArray, List.set_cons_zero, List.set_cons_succ]
  refine wpAnyH_take (i := 3) (oi := _) (v := ?va3) rfl (by kernel_rfl) (by kernel_rfl) (by kernel_rfl) (fun _ _ _ h => h) (Or.inl ⟨by rfl, ?hya3⟩) (by assumption) ?resta3
  case hya3 => (intro w hSw; (try dsimp only at hSw); go_split_ands; go_simp; try (with_reducible rfl))
  try simp only [List.getElem_toArray, List.getElem_cons_zero, List.getElem_cons_succ, Act.put, List.setIfInBounds_toArray, List.set_cons_zero, List.set_cons_succ]
  refine wpAnyH_take (i := 4) (oi := _) (v := ?va4) rfl (by kernel_rfl) (by kernel_rfl) (by kernel_rfl) (fun _ _ _ h => h) (Or.inl ⟨by rfl, ?hya4⟩) (by assumption) ?resta4
  case hya4 => (intro w hSw; (try dsimp only at hSw); go_split_ands; go_simp; try (with_reducible rfl))
  try simp only [List.getElem_toArray, List.getElem_cons_zero, List.getElem_cons_succ, Act.put, List.setIfInBounds_toArray, List.set_cons_zero, List.set_cons_succ]
  refine wpAnyH_take (i := 5) (oi := _) (v := ?va5) rfl (by kernel_rfl) (by kernel_rfl) (by kernel_rfl) (fun _ _ _ h => h) (Or.inl ⟨by rfl, ?hya5⟩) (by assumption) ?resta5
  case hya5 => (intro w hSw; (try dsimp only at hSw); go_split_ands; go_simp; try (with_reducible rfl))
  try simp only [List.getElem_toArray, List.getElem_cons_zero, List.getElem_cons_succ, Act.put, List.setIfInBounds_toArray, List.set_cons_zero, List.set_cons_succ]
  refine wpAnyH_take (i := 6) (oi := _) (v := undef) rfl (by kernel_rfl) (by kernel_rfl) (by kernel_rfl) (fun _ _ _ h => h) (Or.inr ⟨by rfl, rfl⟩) (by assumption) ?_
  try simp only [List.getElem_toArray, List.getElem_cons_zero, List.getElem_cons_succ, Act.put, List.setIfInBounds_toArray, List.set_cons_zero, List.set_cons_succ]
  refine wpAnyH_take (i := 7) (oi := _) (v := undef) rfl (by kernel_rfl) (by kernel_rfl) (by kernel_rfl) (fun _ _ _ h => h) (Or.inr ⟨by rfl, rfl⟩) (by assumption) ?_
  try simp only [List.getElem_toArray, List.getElem_cons_zero, List.getElem_cons_succ, Act.put, List.setIfInBounds_toArray, List.set_cons_zero, List.set_cons_succ]
  refine wpAnyH_take (i := 8) (oi := _) (v := undef) rfl (by kernel_rfl) (by kernel_rfl) (by kernel_rfl) (fun _ _ _ h => h) (Or.inr ⟨by rfl, rfl⟩) (by assumption) ?_
  try simp only [List.getElem_toArray, List.getElem_cons_zero, List.getElem_cons_succ, Act.put, List.setIfInBounds_toArray, List.set_cons_zero, List.set_cons_succ]
  refine wpAnyH_take (i := 9) (oi := _) (v := undef) rfl (by kernel_rfl) (by kernel_rfl) (by kernel_rfl) (fun _ _ _ h => h) (Or.inr ⟨by rfl, rfl⟩) (by assumption) ?_
  try simp only [List.getElem_toArray, List.getElem_cons_zero, List.getElem_cons_succ, Act.put, List.setIfInBounds_toArray, List.set_cons_zero, List.set_cons_succ]
  refine wpAnyH_take (i := 10) (oi := _) (v := undef) rfl (by kernel_rfl) (by kernel_rfl) (by kernel_rfl) (fun _ _ _ h => h) (Or.inr ⟨by rfl, rfl⟩) (by assumption) ?_
  try simp only [List.getElem_toArray, List.getElem_cons_zero, List.getElem_cons_succ, Act.put, List.setIfInBounds_toArray, List.set_cons_zero, List.set_cons_succ]
  refine wpAnyH_take (i := 11) (oi := _) (v := ?va11) rfl (by kernel_rfl) (by kernel_rfl) (by kernel_rfl) (fun _ _ _ h => h) (Or.inl ⟨by rfl, ?hya11⟩) (by assumption) ?resta11
  case hya11 => (intro w hSw; (try dsimp only at hSw); go_split_ands; go_simp; try (with_reducible rfl))
  try simp only [List.getElem_toArray, List.getElem_cons_zero, List.getElem_cons_succ, Act.put, List.setIfInBounds_toArray, List.set_cons_zero, List.set_cons_succ]
  refine wpAnyH_take (i := 12) (oi := _) (v := ?va12) rfl (by kernel_rfl) (by kernel_rfl) (by kernel_rfl) (fun _ _ _ h => h) (Or.inl ⟨by rfl, ?hya12⟩) (by assumption) ?resta12
  case hya12 => (intro w hSw; (try dsimp only at hSw); go_split_ands; go_simp; try (with_reducible rfl))
  try simp only [List.getElem_toArray, List.getElem_cons_zero, List.getElem_cons_succ, Act.put, List.setIfInBounds_toArray, List.set_cons_zero, List.set_cons_succ]
  refine wpAnyH_take (i := 13) (oi := _) (v := undef) rfl (by kernel_rfl) (by kernel_rfl) (by kernel_rfl) (fun _ _ _ h => h) (Or.inr ⟨by rfl, rfl⟩) (by assumption) ?_
  try simp only [List.getElem_toArray, List.getElem_cons_zero, List.getElem_cons_succ, Act.put, List.setIfInBounds_toArray, List.set_cons_zero, List.set_cons_succ]
  refine wpAnyH_take (i := 14) (oi := _) (v := undef) rfl (by kernel_rfl) (by kernel_rfl) (by kernel_rfl) (fun _ _ _ h => h) (Or.inr ⟨by rfl, rfl⟩) (by assumption) ?_
  try simp only [List.getElem_toArray, List.getElem_cons_zero, List.getElem_cons_succ, Act.put, List.setIfInBounds_toArray, List.set_cons_zero, List.set_cons_succ]
  refine wpAnyH_take (i := 15) (oi := _) (v := undef) rfl (by kernel_rfl) (by kernel_rfl) (by kernel_rfl) (fun _ _ _ h => h) (Or.inr ⟨by rfl, rfl⟩) (by assumption) ?_
  try simp only [List.getElem_toArray, List.getElem_cons_zero, List.getElem_cons_succ, Act.put, List.setIfInBounds_toArray, List.set_cons_zero, List.set_cons_succ]
  refine wpAnyH_take (i := 16) (oi := _) (v := undef) rfl (by kernel_rfl) (by kernel_rfl) (by kernel_rfl) (fun _ _ _ h => h) (Or.inr ⟨by rfl, rfl⟩) (by assumption) ?_
  try simp only [List.getElem_toArray, List.getElem_cons_zero, List.getElem_cons_succ, Act.put, List.setIfInBounds_toArray, List.set_cons_zero, List.set_cons_succ]
  refine wpAnyH_take (i := 17) (oi := _) (v := undef) rfl (by kernel_rfl) (by kernel_rfl) (by kernel_rfl) (fun _ _ _ h => h) (Or.inr ⟨by rfl, rfl⟩) (by assumption) ?_
  try simp only [List.getElem_toArray, List.getElem_cons_zero, List.getElem_cons_succ, Act.put, List.setIfInBounds_toArray, List.set_cons_zero, List.set_cons_succ]
  refine wpAnyH_take (i := 18) (oi := _) (v := ?va18) rfl (by kernel_rfl) (by kernel_rfl) (by kernel_rfl) (fun _ _ _ h => h) (Or.inl ⟨by rfl, ?hya18⟩) (by assumption) ?resta18
  case hya18 => (intro w hSw; (try dsimp only at hSw); go_split_ands; go_simp; try (with_reducible rfl))
  try simp only [List.getElem_toArray, List.getElem_cons_zero, List.getElem_cons_succ, Act.put, List.setIfInBounds_toArray, List.set_cons_zero, List.set_cons_succ]
  refine wpAnyH_take (i := 19) (oi := _) (v := ?va19) rfl (by kernel_rfl) (by kernel_rfl) (by kernel_rfl) (fun _ _ _ h => h) (Or.inl ⟨by rfl, ?hya19⟩) (by assumption) ?resta19
  case hya19 => (intro w hSw; (try dsimp only at hSw); go_split_ands; go_simp; try (with_reducible rfl))
  try simp only [List.getElem_toArray, List.getElem_cons_zero, List.getElem_cons_succ, Act.put, List.setIfInBounds_toArray, List.set_cons_zero, List.set_cons_succ]
  refine wpAnyH_take (i := 20) (oi := _) (v := undef) rfl (by kernel_rfl) (by kernel_rfl) (by kernel_rfl) (fun _ _ _ h => h) (Or.inr ⟨by rfl, rfl⟩) (by assumption) ?_
  try simp only [List.getElem_toArray, List.getElem_cons_zero, List.getElem_cons_succ, Act.put, List.setIfInBounds_toArray, List.set_cons_zero, List.set_cons_succ]
  refine wpAnyH_take (i := 21) (oi := _) (v := undef) rfl (by kernel_rfl) (by kernel_rfl) (by kernel_rfl) (fun _ _ _ h => h) (Or.inr ⟨by rfl, rfl⟩) (by assumption) ?_
  try simp only [List.getElem_toArray, List.getElem_cons_zero, List.getElem_cons_succ, Act.put, List.setIfInBounds_toArray, List.set_cons_zero, List.set_cons_succ]
  refine wpAnyH_take (i := 22) (oi := _) (v := undef) rfl (by kernel_rfl) (by kernel_rfl) (by kernel_rfl) (fun _ _ _ h => h) (Or.inr ⟨by rfl, rfl⟩) (by assumption) ?_
  try simp only [List.getElem_toArray, List.getElem_cons_zero, List.getElem_cons_succ, Act.put, List.setIfInBounds_toArray, List.set_cons_zero, List.set_cons_succ]
  refine wpAnyH_take (i := 23) (oi := _) (v := undef) rfl (by kernel_rfl) (by kernel_rfl) (by kernel_rfl) (fun _ _ _ h => h) (Or.inr ⟨by rfl, rfl⟩) (by assumption) ?_
  try simp only [List.getElem_toArray, List.getElem_cons_zero, List.getElem_cons_succ, Act.put, List.setIfInBounds_toArray, List.set_cons_zero, List.set_cons_succ]
  refine wpAnyH_take (i := 24) (oi := _) (v := undef) rfl (by kernel_rfl) (by kernel_rfl) (by kernel_rfl) (fun _ _ _ h => h) (Or.inr ⟨by rfl, rfl⟩) (by assumption) ?_
  try simp only [List.getElem_toArray, List.getElem_cons_zero, List.getElem_cons_succ, Act.put, List.setIfInBounds_toArray, List.set_cons_zero, List.set_cons_succ]
  refine wpAnyH_take (i := 25) (oi := _) (v := ?va25) rfl (by kernel_rfl) (by kernel_rfl) (by kernel_rfl) (fun _ _ _ h => h) (Or.inl ⟨by rfl, ?hya25⟩) (by assumption) ?resta25
  case hya25 => (intro w hSw; (try dsimp only at hSw); go_split_ands; go_simp; try (with_reducible rfl))
  try simp only [List.getElem_toArray, List.getElem_cons_zero, List.getElem_cons_succ, Act.put, List.setIfInBounds_toArray, List.set_cons_zero, List.set_cons_succ]
  refine wpAnyH_take (i := 26) (oi := _) (v := ?va26) rfl (by kernel_rfl) (by kernel_rfl) (by kernel_rfl) (fun _ _ _ h => h) (Or.inl ⟨by rfl, ?hya26⟩) (by assumption) ?resta26
  case hya26 => (intro w hSw; (try dsimp only at hSw); go_split_ands; go_simp; try (with_reducible rfl))
  try simp only [List.getElem_toArray, List.getElem_cons_zero, List.getElem_cons_succ, Act.put, List.setIfInBounds_toArray, List.set_cons_zero, List.set_cons_succ]
  refine wpAnyH_done (by kernel_rfl) ?_ _
  go_wp2_with fail
  go_ret
  exact ⟨ret_bool (by rw [HS.out]; simp [h1]), by rw [hg1]; exact B1.out⟩
set_option maxRecDepth 100000 in
set_option maxHeartbeats 1600000 in
theorem cSame2 (m x : Mv) (w : World) (hm : m.ok w) (hx : x.ok w) (h1 : (m.c == x.c) = true) (h2 : (m.ro == x.ro) = false) : Calls Tryz.prog 22 #[.agg m.cs, .agg x.cs] w fun e w' => e = .returned (.bool (sameM m.p x.p)) ∧ Below w.heap.size w w' := by
  have HA := hid hm.ro
  have HB := hid hx.ro
  have R1 := hid ((Row.new w 38 m.cs).alloc (.cells x.cs 38))
  have X1 := hid (Row.new (w.alloc (.cells m.cs 38)) 38 x.cs)
  have B1 := hid (balloc (balloc (Below.refl w.heap.size w) (.cells m.cs 38)) (.cells x.cs 38))
  have hs1 : (w.alloc (.cells m.cs 38)).heap.size = w.heap.size + 1 := World.size_alloc ..
  have hs2 : ((w.alloc (.cells m.cs 38)).alloc (.cells x.cs 38)).heap.size = w.heap.size + 2 := by rw [World.size_alloc, hs1]
  rw [hs1] at X1
  have O1 := hid (hm.o.below B1.out)
  have P1 := hid (hx.o.below B1.out)
  have hq := eq41 m.ro x.ro hm.ro.1 hx.ro.1
  have HS : Hid (sameM m.p x.p = ((m.c == x.c) && ((m.ro == x.ro) && ((m.p.vs == x.p.vs) && allB (pos m.L) (pos x.L))))) := rfl
  clear hm hx
  go_enter Tryz.func22, Tryz.ntmps22
  go_upto_region 1 with fail
  generalize hw1 : (w.alloc (.cells m.cs 38)).alloc (.cells x.cs 38) = w1 at *
  have B1 : Hid (Below w.heap.size w w1.drew) := hid (B1.out.trans ⟨rfl, rfl, rfl, Nat.le_refl _, fun _ _ => rfl⟩)
  have O1 : Hid (Opts w1.drew m.oa m.on m.oc m.L) := hid (O1.out.below (bdrew (Below.refl _ _) 1))
  have P1 : Hid (Opts w1.drew x.oa x.on x.oc x.L) := hid (P1.out.below (bdrew (Below.refl _ _) 1))
  have R1 : Hid (Row w1.drew w.heap.size 38 m.cs) := R1
  have X1 : Hid (Row w1.drew (w.heap.size + 1) 38 x.cs) := X1
  generalize hg1 : w.heap.size = g1 at *
  clear hw1 hs1 hs2
  have H2 := hid h2
  rw [h2] at hq
  clear h2
  refine wp_region_held_drew (S := fun w' => w'.cell? ⟨g1, 0, none⟩ = some (.int .i64 m.c) ∧ (w'.cell? ⟨g1 + 1, 0, none⟩ = some (.int .i64 x.c) ∧ (w'.cell? ⟨g1, 27, none⟩ = some (.slice m.oa m.on m.oc) ∧ (w'.cell? ⟨g1 + 1, 27, none⟩ = some (.slice x.oa x.on x.oc) ∧ (Hid (Row w' g1 38 m.cs) ∧ Hid (Row w' (g1 + 1) 38 x.cs)))))) (by kernel_rfl) ?_ (fun hHeld => ?_)
  · exact ⟨(R1.out.cell 0).trans m.at0, (X1.out.cell 0).trans x.at0, (R1.out.cell 27).trans (Mv.at27 HA.out), (X1.out.cell 27).trans (Mv.at27 HB.out), R1.out, X1.out⟩
  refine wpAnyH_take (i := 0) (oi := _) (v := ?va0) rfl (by kernel_rfl) (by kernel_rfl) (by kernel_rfl) (fun _ _ _ h => h) (Or.inl ⟨by rfl, ?hya0⟩) (by assumption) ?resta0
  case hya0 => (intro w hSw; (try dsimp only at hSw); go_split_ands; go_simp; try (with_reducible rfl))
  try simp only [List.getElem_toArray, List.getElem_cons_zero, List.getElem_cons_succ, Act.put, List.setIfInBounds_toArray, List.set_cons_zero, List.set_cons_succ]
  refine wpAnyH_take (i := 1) (oi := _) (v := ?va1) rfl (by kernel_rfl) (by kernel_rfl) (by kernel_rfl) (fun _ _ _ h => h) (Or.inl ⟨by rfl, ?hya1⟩) (by assumption) ?resta1
  case hya1 => (intro w hSw; (try dsimp only at hSw); go_split_ands; go_simp; try (with_reducible rfl))
  try simp only [List.getElem_toArray, List.getElem_cons_zero, List.getElem_cons_succ, Act.put, List.setIfInBounds_toArray, List.set_cons_zero, List.set_cons_succ]
  refine wpAnyH_take (i := 2) (oi := _) (v := ?va2) rfl (by kernel_rfl) (by kernel_rfl) (by kernel_rfl) (fun _ _ _ h => h) (Or.inl ⟨by rfl, ?hya2⟩) (by assumption) ?resta2
  case hya2 => (intro w hSw; (try dsimp only at hSw); go_split_ands; go_simp; try (with_reducible rfl))
  try simp only [List.getElem_toArray, List.getElem_cons_zero, List.getElem_cons_succ, Act.put, List.setIfInBounds_toArray, List.set_cons_zero, List.set_cons_succ]
  refine wpAnyH_take (i := 3) (oi := _) (v := ?va3) rfl (by kernel_rfl) (by kernel_rfl) (by kernel_rfl) (fun _ _ _ h => h) (Or.inl ⟨by rfl, ?hya3⟩) (by assumption) ?resta3
  case hya3 => (intro w hSw; (try dsimp only at hSw); go_split_ands; go_simp; try (with_reducible rfl))
  try simp only [List.getElem_toArray, List.getElem_cons_zero, List.getElem_cons_succ, Act.put, List.setIfInBounds_toArray, List.set_cons_zero, List.set_cons_succ]
  refine wpAnyH_take (i := 4) (oi := _) (v := ?va4) rfl (by kernel_rfl) (by kernel_rfl) (by kernel_rfl) (fun _ _ _ h => h) (Or.inl ⟨by rfl, ?hya4⟩) (by assumption) ?resta4
  case hya4 => (intro w hSw; (try dsimp only at hSw); go_split_ands; go_simp; try (with_reducible rfl))
  try simp only [List.getElem_toArray, List.getElem_cons_zero, List.getElem_cons_succ, Act.put, List.setIfInBounds_toArray, List.set_cons_zero, List.set_cons_succ]
  refine wpAnyH_take (i := 5) (oi := _) (v := ?va5) rfl (by kernel_rfl) (by kernel_rfl) (by kernel_rfl) (fun _ _ _ h => h) (Or.inl ⟨by rfl, ?hya5⟩) (by assumption) ?resta5
  case hya5 => (intro w hSw; (try dsimp only at hSw); go_split_ands; go_simp; try (with_reducible rfl))
  try simp only [List.getElem_toArray, List.getElem_cons_zero, List.getElem_cons_succ, Act.put, List.setIfInBounds_toArray, List.set_cons_zero, List.set_cons_succ]
  refine wpAnyH_take (i := 6) (oi := _) (v := ?va6) rfl (by kernel_rfl) (by kernel_rfl) (by kernel_rfl) (fun _ _ _ h => h) (Or.inl ⟨by rfl, ?hya6⟩) (by assumption) ?resta6
  case hya6 => (intro w hSw; (try dsimp only at hSw); go_split_ands; go_simp; try (with_reducible rfl))
  try simp only [List.getElem_toArray, List.getElem_cons_zero, List.getElem_cons_succ, Act.put, List.setIfInBounds_toArray, List.set_cons_zero, List.set_cons_succ]
  refine wpAnyH_take (i := 7) (oi := _) (v := .agg (arr m.ro)) rfl (by kernel_rfl) (by kernel_rfl) (by kernel_rfl) (fun _ _ _ h => h) (yld41 (by rfl) _ rfl g1 11 rfl m.ro HA.out (fun w h => by have := h.2.2.2.2.1.out.part.mvA HA.out; simpa using this)) (by assumption) ?_
  try simp only [List.getElem_toArray, List.getElem_cons_zero, List.getElem_cons_succ, Act.put, List.setIfInBounds_toArray, List.set_cons_zero, List.set_cons_succ]
  refine wpAnyH_take (i := 8) (oi := _) (v := ?va8) rfl (by kernel_rfl) (by kernel_rfl) (by kernel_rfl) (fun _ _ _ h => h) (Or.inl ⟨by rfl, ?hya8⟩) (by assumption) ?resta8
  case hya8 => (intro w hSw; (try dsimp only at hSw); go_split_ands; go_simp; try (with_reducible rfl))
  try simp only [List.getElem_toArray, List.getElem_cons_zero, List.getElem_cons_succ, Act.put, List.setIfInBounds_toArray, List.set_cons_zero, List.set_cons_succ]
  refine wpAnyH_take (i := 9) (oi := _) (v := .agg (arr x.ro)) rfl (by kernel_rfl) (by kernel_rfl) (by kernel_rfl) (fun _ _ _ h => h) (yld41 (by rfl) _ rfl (g1 + 1) 11 rfl x.ro HB.out (fun w h => by have := h.2.2.2.2.2.out.part.mvA HB.out; simpa using this)) (by assumption) ?_
  try simp only [List.getElem_toArray, List.getElem_cons_zero, List.getElem_cons_succ, Act.put, List.setIfInBounds_toArray, List.set_cons_zero, List.set_cons_succ]
  refine wpAnyH_take (i := 10) (oi := _) (v := ?va10) rfl (by kernel_rfl) (by kernel_rfl) (by kernel_rfl) (fun _ _ _ h => h) (Or.inl ⟨by rfl, ?hya10⟩) (by assumption) ?resta10
  case hya10 => (intro w hSw; (try dsimp only at hSw); go_split_ands; go_simp; try (with_reducible rfl))
  try simp only [List.getElem_toArray, List.getElem_cons_zero, List.getElem_cons_succ, Act.put, List.setIfInBounds_toArray, List.set_cons_zero, List.set_cons_succ]
  refine wpAnyH_take (i := 11) (oi := _) (v := ?va11) rfl (by kernel_rfl) (by kernel_rfl) (by kernel_rfl) (fun _ _ _ h => h) (Or.inl ⟨by rfl, ?hya11⟩) (by assumption) ?resta11
  case hya11 => (intro w hSw; (try dsimp only at hSw); go_split_ands; go_simp; try (with_reducible rfl))
  try simp only [List.getElem_toArray, List.getElem_cons_zero, List.getElem_cons_succ, Act.put, List.setIfInBounds_toArray, List.set_cons_zero, List.set_cons_succ]
  refine wpAnyH_take (i := 12) (oi := _) (v := ?va12) rfl (by kernel_rfl) (by kernel_rfl) (by kernel_rfl) (fun _ _ _ h => h) (Or.inl ⟨by rfl, ?hya12⟩) (by assumption) ?resta12
  case hya12 => (intro w hSw; (try dsimp only at hSw); go_split_ands; go_simp; try (with_reducible rfl))
  try simp only [List.getElem_toArray, List.getElem_cons_zero, List.getElem_cons_succ, Act.put, List.setIfInBounds_toArray, List.set_cons_zero, List.set_cons_succ]
  refine wpAnyH_take (i := 13) (oi := _) (v := undef) rfl (by kernel_rfl) (by kernel_rfl) (by kernel_rfl) (fun _ _ _ h => h) (Or.inr ⟨by rfl, rfl⟩) (by assumption) ?_
  try simp only [List.getElem_toArray, List.getElem_cons_zero, List.getElem_cons_succ, Act.put, List.setIfInBounds_toArray, List.set_cons_zero, List.set_cons_succ]
  refine wpAnyH_take (i := 14) (oi := _) (v := undef) rfl (by kernel_rfl) (by kernel_rfl) (by kernel_rfl) (fun _ _ _ h => h) (Or.inr ⟨by rfl, rfl⟩) (by assumption) ?_
  try simp only [List.getElem_toArray, List.getElem_cons_zero, List.getElem_cons_succ, Act.put, List.setIfInBounds_toArray, List.set_cons_zero, List.set_cons_succ]
  refine wpAnyH_take (i := 15) (oi := _) (v := undef) rfl (by kernel_rfl) (by kernel_rfl) (by kernel_rfl) (fun _ _ _ h => h) (Or.inr ⟨by rfl, rfl⟩) (by assumption) ?_
  try simp only [List.getElem_toArray, List.getElem_cons_zero, List.getElem_cons_succ, Act.put, List.setIfInBounds_toArray, List.set_cons_zero, List.set_cons_succ]
  refine wpAnyH_take (i := 16) (oi := _) (v := undef) rfl (by kernel_rfl) (by kernel_rfl) (by kernel_rfl) (fun _ _ _ h => h) (Or.inr ⟨by rfl, rfl⟩) (by assumption) ?_
  try simp only [List.getElem_toArray, List.getElem_cons_zero, List.getElem_cons_succ, Act.put, List.setIfInBounds_toArray, List.set_cons_zero, List.set_cons_succ]
  refine wpAnyH_take (i := 17) (oi := _) (v := undef) rfl (by kernel_rfl) (by kernel_rfl) (by kernel_rfl) (fun _ _ _ h => h) (Or.inr ⟨by rfl, rfl⟩) (by assumption) ?_
  try simp only [List.getElem_toArray, List.getElem_cons_zero, List.getElem_cons_succ, Act.put, List.setIfInBounds_toArray, List.set_cons_zero, List.set_cons_succ]
  refine wpAnyH_take (i := 18) (oi := _) (v := ?va18) rfl (by kernel_rfl) (by kernel_rfl) (by kernel_rfl) (fun _ _ _ h => h) (Or.inl ⟨by rfl, ?hya18⟩) (by assumption) ?resta18
  case hya18 => (intro w hSw; (try dsimp only at hSw); go_split_ands; go_simp; try (with_reducible rfl))
  try simp only [List.getElem_toArray, List.getElem_cons_zero, List.getElem_cons_succ, Act.put, List.setIfInBounds_toArray, List.set_cons_zero, List.set_cons_succ]
  refine wpAnyH_take (i := 19) (oi := _) (v := ?va19) rfl (by kernel_rfl) (by kernel_rfl) (by kernel_rfl) (fun _ _ _ h => h) (Or.inl ⟨by rfl, ?hya19⟩) (by assumption) ?resta19
  case hya19 => (intro w hSw; (try dsimp only at hSw); go_split_ands; go_simp; try (with_reducible rfl))
  try simp only [List.getElem_toArray, List.getElem_cons_zero, List.getElem_cons_succ, Act.put, List.setIfInBounds_toArray, List.set_cons_zero, List.set_cons_succ]
  refine wpAnyH_take (i := 20) (oi := _) (v := undef) rfl (by kernel_rfl) (by kernel_rfl) (by kernel_rfl) (fun _ _ _ h => h) (Or.inr ⟨by rfl, rfl⟩) (by assumption) ?_
  try simp only [List.getElem_toArray, List.getElem_cons_zero, List.getElem_cons_succ, Act.put, List.setIfInBounds_toArray, List.set_cons_zero, List.set_cons_succ]
  refine wpAnyH_take (i := 21) (oi := _) (v := undef) rfl (by kernel_rfl) (by kernel_rfl) (by kernel_rfl) (fun _ _ _ h => h) (Or.inr ⟨by rfl, rfl⟩) (by assumption) ?_
  try simp only [List.getElem_toArray, List.getElem_cons_zero, List.getElem_cons_succ, Act.put, List.setIfInBounds_toArray, List.set_cons_zero, List.set_cons_succ]
  refine wpAnyH_take (i := 22) (oi := _) (v := undef) rfl (by kernel_rfl) (by kernel_rfl) (by kernel_rfl) (fun _ _ _ h => h) (Or.inr ⟨by rfl, rfl⟩) (by assumption) ?_
  try simp only [List.getElem_toArray, List.getElem_cons_zero, List.getElem_cons_succ, Act.put, List.setIfInBounds_toArray, List.set_cons_zero, List.set_cons_succ]
  refine wpAnyH_take (i := 23) (oi := _) (v := undef) rfl (by kernel_rfl) (by kernel_rfl) (by kernel_rfl) (fun _ _ _ h => h) (Or.inr ⟨by rfl, rfl⟩) (by assumption) ?_
  try simp only [List.getElem_toArray, List.getElem_cons_zero, List.getElem_cons_succ, Act.put, List.setIfInBounds_toArray, List.set_cons_zero, List.set_cons_succ]
  refine wpAnyH_take (i := 24) (oi := _) (v := undef) rfl (by kernel_rfl) (by kernel_rfl) (by kernel_rfl) (fun _ _ _ h => h) (Or.inr ⟨by rfl, rfl⟩) (by assumption) ?_
  try simp only [List.getElem_toArray, List.getElem_cons_zero, List.getElem_cons_succ, Act.put, List.setIfInBounds_toArray, List.set_cons_zero, List.set_cons_succ]
  refine wpAnyH_take (i := 25) (oi := _) (v := ?va25) rfl (by kernel_rfl) (by kernel_rfl) (by kernel_rfl) (fun _ _ _ h => h) (Or.inl ⟨by rfl, ?hya25⟩) (by assumption) ?resta25
  case hya25 => (intro w hSw; (try dsimp only at hSw); go_split_ands; go_simp; try (with_reducible rfl))
  try simp only [List.getElem_toArray, List.getElem_cons_zero, List.getElem_cons_succ, Act.put, List.setIfInBounds_toArray, List.set_cons_zero, List.set_cons_succ]
  refine wpAnyH_take (i := 26) (oi := _) (v := ?va26) rfl (by kernel_rfl) (by kernel_rfl) (by kernel_rfl) (fun _ _ _ h => h) (Or.inl ⟨by rfl, ?hya26⟩) (by assumption) ?resta26
  case hya26 => (intro w hSw; (try dsimp only at hSw); go_split_ands; go_simp; try (with_reducible rfl))
  try simp only [List.getElem_toArray, List.getElem_cons_zero, List.getElem_cons_succ, Act.put, List.setIfInBounds_toArray, List.set_cons_zero, List.set_cons_succ]
  refine wpAnyH_done (by kernel_rfl) ?_ _
  go_wp2_with fail
  go_ret
  exact ⟨ret_bool (by rw [HS.out]; simp [H2.out]), by rw [hg1]; exact B1.out⟩
set_option maxRecDepth 100000 in
set_option maxHeartbeats 1600000 in
theorem cSame3 (m x : Mv) (w : World) (hm : m.ok w) (hx : x.ok w) (h1 : (m.c == x.c) = true) (h2 : (m.ro == x.ro) = true) (h3 : (m.p.vs == x.p.vs) = false) : Calls Tryz.prog 22 #[.agg m.cs, .agg x.cs] w fun e w' => e = .returned (.bool (sameM m.p x.p)) ∧ Below w.heap.size w w' := by
  have HA := hid hm.ro
  have HB := hid hx.ro
  have R1 := hid ((Row.new w 38 m.cs).alloc (.cells x.cs 38))
  have X1 := hid (Row.new (w.alloc (.cells m.cs 38)) 38 x.cs)
  have B1 := hid (balloc (balloc (Below.refl w.heap.size w) (.cells m.cs 38)) (.cells x.cs 38))
  have hs1 : (w.alloc (.cells m.cs 38)).heap.size = w.heap.size + 1 := World.size_alloc ..
  have hs2 : ((w.alloc (.cells m.cs 38)).alloc (.cells x.cs 38)).heap.size = w.heap.size + 2 := by rw [World.size_alloc, hs1]
  rw [hs1] at X1
  have O1 := hid (hm.o.below B1.out)
  have P1 := hid (hx.o.below B1.out)
  have hq := eq41 m.ro x.ro hm.ro.1 hx.ro.1
  have HS : Hid (sameM m.p x.p = ((m.c == x.c) && ((m.ro == x.ro) && ((m.p.vs == x.p.vs) && allB (pos m.L) (pos x.L))))) := rfl
  clear hm hx
  go_enter Tryz.func22, Tryz.ntmps22
  go_upto_region 1 with fail
  generalize hw1 : (w.alloc (.cells m.cs 38)).alloc (.cells x.cs 38) = w1 at *
  have B1 : Hid (Below w.heap.size w w1.drew) := hid (B1.out.trans ⟨rfl, rfl, rfl, Nat.le_refl _, fun _ _ => rfl⟩)
  have O1 : Hid (Opts w1.drew m.oa m.on m.oc m.L) := hid (O1.out.below (bdrew (Below.refl _ _) 1))
  have P1 : Hid (Opts w1.drew x.oa x.on x.oc x.L) := hid (P1.out.below (bdrew (Below.refl _ _) 1))
  have R1 : Hid (Row w1.drew w.heap.size 38 m.cs) := R1
  have X1 : Hid (Row w1.drew (w.heap.size + 1) 38 x.cs) := X1
  generalize hg1 : w.heap.size = g1 at *
  clear hw1 hs1 hs2
  have H3 := hid h3
  have H2 := hid h2
  have hv := eq74 m.p.vs x.p.vs rfl rfl
  rw [h2] at hq
  rw [h3] at hv
  clear h3 h2
  refine wp_region_held_drew (S := fun w' => w'.cell? ⟨g1, 0, none⟩ = some (.int .i64 m.c) ∧ (w'.cell? ⟨g1 + 1, 0, none⟩ = some (.int .i64 x.c) ∧ (w'.cell? ⟨g1, 27, none⟩ = some (.slice m.oa m.on m.oc) ∧ (w'.cell? ⟨g1 + 1, 27, none⟩ = some (.slice x.oa x.on x.oc) ∧ (Hid (Row w' g1 38 m.cs) ∧ Hid (Row w' (g1 + 1) 38 x.cs)))))) (by kernel_rfl) ?_ (fun hHeld => ?_)
  · exact ⟨(R1.out.cell 0).trans m.at0, (X1.out.cell 0).trans x.at0, (R1.out.cell 27).trans (Mv.at27 HA.out), (X1.out.cell 27).trans (Mv.at27 HB.out), R1.out, X1.out⟩
  refine wpAnyH_take (i := 0) (oi := _) (v := ?va0) rfl (by kernel_rfl) (by kernel_rfl) (by kernel_rfl) (fun _ _ _ h => h) (Or.inl ⟨by rfl, ?hya0⟩) (by assumption) ?resta0
  case hya0 => (intro w hSw; (try dsimp only at hSw); go_split_ands; go_simp; try (with_reducible rfl))
  try simp only [List.getElem_toArray, List.getElem_cons_zero, List.getElem_cons_succ, Act.put, List.setIfInBounds_toArray, List.set_cons_zero, List.set_cons_succ]
  refine wpAnyH_take (i := 1) (oi := _) (v := ?va1) rfl (by kernel_rfl) (by kernel_rfl) (by kernel_rfl) (fun _ _ _ h => h) (Or.inl ⟨by rfl, ?hya1⟩) (by assumption) ?resta1
  case hya1 => (intro w hSw; (try dsimp only at hSw); go_split_ands; go_simp; try (with_reducible rfl))
  try simp only [List.getElem_toArray, List.getElem_cons_zero, List.getElem_cons_succ, Act.put, List.setIfInBounds_toArray, List.set_cons_zero, List.set_cons_succ]
  refine wpAnyH_take (i := 2) (oi := _) (v := ?va2) rfl (by kernel_rfl) (by kernel_rfl) (by kernel_rfl) (fun _ _ _ h => h) (Or.inl ⟨by rfl, ?hya2⟩) (by assumption) ?resta2
  case hya2 => (intro w hSw; (try dsimp only at hSw); go_split_ands; go_simp; try (with_reducible rfl))
  try simp only [List.getElem_toArray, List.getElem_cons_zero, List.getElem_cons_succ, Act.put, List.setIfInBounds_toArray, List.set_cons_zero, List.set_cons_succ]
  refine wpAnyH_take (i := 3) (oi := _) (v := ?va3) rfl (by kernel_rfl) (by kernel_rfl) (by kernel_rfl) (fun _ _ _ h => h) (Or.inl ⟨by rfl, ?hya3⟩) (by assumption) ?resta3
  case hya3 => (intro w hSw; (try dsimp only at hSw); go_split_ands; go_simp; try (with_reducible rfl))
  try simp only [List.getElem_toArray, List.getElem_cons_zero, List.getElem_cons_succ, Act.put, List.setIfInBounds_toArray, List.set_cons_zero, List.set_cons_succ]
  refine wpAnyH_take (i := 4) (oi := _) (v := ?va4) rfl (by kernel_rfl) (by kernel_rfl) (by kernel_rfl) (fun _ _ _ h => h) (Or.inl ⟨by rfl, ?hya4⟩) (by assumption) ?resta4
  case hya4 => (intro w hSw; (try dsimp only at hSw); go_split_ands; go_simp; try (with_reducible rfl))
  try simp only [List.getElem_toArray, List.getElem_cons_zero, List.getElem_cons_succ, Act.put, List.setIfInBounds_toArray, List.set_cons_zero, List.set_cons_succ]
  refine wpAnyH_take (i := 5) (oi := _) (v := ?va5) rfl (by kernel_rfl) (by kernel_rfl) (by kernel_rfl) (fun _ _ _ h => h) (Or.inl ⟨by rfl, ?hya5⟩) (by assumption) ?resta5
  case hya5 => (intro w hSw; (try dsimp only at hSw); go_split_ands; go_simp; try (with_reducible rfl))
  try simp only [List.getElem_toArray, List.getElem_cons_zero, List.getElem_cons_succ, Act.put, List.setIfInBounds_toArray, List.set_cons_zero, List.set_cons_succ]
  refine wpAnyH_take (i := 6) (oi := _) (v := ?va6) rfl (by kernel_rfl) (by kernel_rfl) (by kernel_rfl) (fun _ _ _ h => h) (Or.inl ⟨by rfl, ?hya6⟩) (by assumption) ?resta6
  case hya6 => (intro w hSw; (try dsimp only at hSw); go_split_ands; go_simp; try (with_reducible rfl))
  try simp only [List.getElem_toArray, List.getElem_cons_zero, List.getElem_cons_succ, Act.put, List.setIfInBounds_toArray, List.set_cons_zero, List.set_cons_succ]
  refine wpAnyH_take (i := 7) (oi := _) (v := .agg (arr m.ro)) rfl (by kernel_rfl) (by kernel_rfl) (by kernel_rfl) (fun _ _ _ h => h) (yld41 (by rfl) _ rfl g1 11 rfl m.ro HA.out (fun w h => by have := h.2.2.2.2.1.out.part.mvA HA.out; simpa using this)) (by assumption) ?_
  try simp only [List.getElem_toArray, List.getElem_cons_zero, List.getElem_cons_succ, Act.put, List.setIfInBounds_toArray, List.set_cons_zero, List.set_cons_succ]
  refine wpAnyH_take (i := 8) (oi := _) (v := ?va8) rfl (by kernel_rfl) (by kernel_rfl) (by kernel_rfl) (fun _ _ _ h => h) (Or.inl ⟨by rfl, ?hya8⟩) (by assumption) ?resta8
  case hya8 => (intro w hSw; (try dsimp only at hSw); go_split_ands; go_simp; try (with_reducible rfl))
  try simp only [List.getElem_toArray, List.getElem_cons_zero, List.getElem_cons_succ, Act.put, List.setIfInBounds_toArray, List.set_cons_zero, List.set_cons_succ]
  refine wpAnyH_take (i := 9) (oi := _) (v := .agg (arr x.ro)) rfl (by kernel_rfl) (by kernel_rfl) (by kernel_rfl) (fun _ _ _ h => h) (yld41 (by rfl) _ rfl (g1 + 1) 11 rfl x.ro HB.out (fun w h => by have := h.2.2.2.2.2.out.part.mvA HB.out; simpa using this)) (by assumption) ?_
  try simp only [List.getElem_toArray, List.getElem_cons_zero, List.getElem_cons_succ, Act.put, List.setIfInBounds_toArray, List.set_cons_zero, List.set_cons_succ]
  refine wpAnyH_take (i := 10) (oi := _) (v := ?va10) rfl (by kernel_rfl) (by kernel_rfl) (by kernel_rfl) (fun _ _ _ h => h) (Or.inl ⟨by rfl, ?hya10⟩) (by assumption) ?resta10
  case hya10 => (intro w hSw; (try dsimp only at hSw); go_split_ands; go_simp; try (with_reducible rfl))
  try simp only [List.getElem_toArray, List.getElem_cons_zero, List.getElem_cons_succ, Act.put, List.setIfInBounds_toArray, List.set_cons_zero, List.set_cons_succ]
  refine wpAnyH_take (i := 11) (oi := _) (v := ?va11) rfl (by kernel_rfl) (by kernel_rfl) (by kernel_rfl) (fun _ _ _ h => h) (Or.inl ⟨by rfl, ?hya11⟩) (by assumption) ?resta11
  case hya11 => (intro w hSw; (try dsimp only at hSw); go_split_ands; go_simp; try (with_reducible rfl))
  try simp only [List.getElem_toArray, List.getElem_cons_zero, List.getElem_cons_succ, Act.put, List.setIfInBounds_toArray, List.set_cons_zero, List.set_cons_succ]
  refine wpAnyH_take (i := 12) (oi := _) (v := ?va12) rfl (by kernel_rfl) (by kernel_rfl) (by kernel_rfl) (fun _ _ _ h => h) (Or.inl ⟨by rfl, ?hya12⟩) (by assumption) ?resta12
  case hya12 => (intro w hSw; (try dsimp only at hSw); go_split_ands; go_simp; try (with_reducible rfl))
  try simp only [List.getElem_toArray, List.getElem_cons_zero, List.getElem_cons_succ, Act.put, List.setIfInBounds_toArray, List.set_cons_zero, List.set_cons_succ]
  refine wpAnyH_take (i := 13) (oi := _) (v := .agg m.cs) rfl (by kernel_rfl) (by kernel_rfl) (by kernel_rfl) (fun _ _ _ h => h) (yldM m29 (by rfl) _ rfl g1 0 rfl m HA.out (fun w h => h.2.2.2.2.1.out.part)) (by assumption) ?_
  try simp only [List.getElem_toArray, List.getElem_cons_zero, List.getElem_cons_succ, Act.put, List.setIfInBounds_toArray, List.set_cons_zero, List.set_cons_succ]
  refine wpAnyH_take (i := 15) (oi := _) (v := .agg x.cs) rfl (by kernel_rfl) (by kernel_rfl) (by kernel_rfl) (fun _ _ _ h => h) (yldM m29 (by rfl) _ rfl (g1 + 1) 0 rfl x HB.out (fun w h => h.2.2.2.2.2.out.part)) (by assumption) ?_
  try simp only [List.getElem_toArray, List.getElem_cons_zero, List.getElem_cons_succ, Act.put, List.setIfInBounds_toArray, List.set_cons_zero, List.set_cons_succ]
  refine wpAnyH_ready (rs := [14]) (by kernel_rfl) (by simp) ?_
  refine AllReadyH.cons (o := _) rfl (fun K hK => ?_) AllReadyH.nil
  go_simp
  generalize w1.drew = w2 at *
  have R2 := R1
  have X2 := X1
  have O2 := O1
  have P2 := P1
  have B2 := B1
  clear R1 X1 O1 P1 B1
  refine (valuesOf_any m _ HA.out).mono ?_
  rintro e w3 ⟨rfl, hb3⟩
  have R3 := hid (R2.out.below hb3)
  have X3 := hid (X2.out.below hb3)
  have O3 := hid (O2.out.below hb3)
  have P3 := hid (P2.out.below hb3)
  have B3 : Hid (Below g1 w w3) := hid (B2.out.trans (hb3.mono (by rw [← hg1]; exact B2.out.size)))
  clear hb3
  go_wp2_with fail
  refine hK.out _ _ ⟨(R3.out.cell 0).trans m.at0, (X3.out.cell 0).trans x.at0, (R3.out.cell 27).trans (Mv.at27 HA.out), (X3.out.cell 27).trans (Mv.at27 HB.out), R3.out, X3.out⟩ (fun hHeld => ?_)
  clear hK K
  try simp only [List.getElem_toArray, List.getElem_cons_zero, List.getElem_cons_succ, Act.put, List.setIfInBounds_toArray, List.set_cons_zero, List.set_cons_succ]
  refine wpAnyH_ready (rs := [16]) (by kernel_rfl) (by simp) ?_
  refine AllReadyH.cons (o := _) rfl (fun K hK => ?_) AllReadyH.nil
  go_simp
  refine (valuesOf_any x _ HB.out).mono ?_
  rintro e w4 ⟨rfl, hb4⟩
  have R4 := hid (R3.out.below hb4)
  have X4 := hid (X3.out.below hb4)
  have O4 := hid (O3.out.below hb4)
  have P4 := hid (P3.out.below hb4)
  have B4 : Hid (Below g1 w w4) := hid (B3.out.trans (hb4.mono (by rw [← hg1]; exact B3.out.size)))
  clear hb4
  go_wp2_with fail
  refine hK.out _ _ ⟨(R4.out.cell 0).trans m.at0, (X4.out.cell 0).trans x.at0, (R4.out.cell 27).trans (Mv.at27 HA.out), (X4.out.cell 27).trans (Mv.at27 HB.out), R4.out, X4.out⟩ (fun hHeld => ?_)
  clear hK K
  try simp only [List.getElem_toArray, List.getElem_cons_zero, List.getElem_cons_succ, Act.put, List.setIfInBounds_toArray, List.set_cons_zero, List.set_cons_succ]
  refine wpAnyH_take (i := 17) (oi := _) (v := ?va17) rfl (by kernel_rfl) (by kernel_rfl) (by kernel_rfl) (fun _ _ _ h => h) (Or.inl ⟨by rfl, ?hya17⟩) (by assumption) ?resta17
  case hya17 => (intro w hSw; (try dsimp only at hSw); go_split_ands; go_simp; try (with_reducible rfl))
  try simp only [List.getElem_toArray, List.getElem_cons_zero, List.getElem_cons_succ, Act.put, List.setIfInBounds_toArray, List.set_cons_zero, List.set_cons_succ]
  refine wpAnyH_take (i := 18) (oi := _) (v := ?va18) rfl (by kernel_rfl) (by kernel_rfl) (by kernel_rfl) (fun _ _ _ h => h) (Or.inl ⟨by rfl, ?hya18⟩) (by assumption) ?resta18
  case hya18 => (intro w hSw; (try dsimp only at hSw); go_split_ands; go_simp; try (with_reducible rfl))
  try simp only [List.getElem_toArray, List.getElem_cons_zero, List.getElem_cons_succ, Act.put, List.setIfInBounds_toArray, List.set_cons_zero, List.set_cons_succ]
  refine wpAnyH_take (i := 19) (oi := _) (v := ?va19) rfl (by kernel_rfl) (by kernel_rfl) (by kernel_rfl) (fun _ _ _ h => h) (Or.inl ⟨by rfl, ?hya19⟩) (by assumption) ?resta19
  case hya19 => (intro w hSw; (try dsimp only at hSw); go_split_ands; go_simp; try (with_reducible rfl))
  try simp only [List.getElem_toArray, List.getElem_cons_zero, List.getElem_cons_succ, Act.put, List.setIfInBounds_toArray, List.set_cons_zero, List.set_cons_succ]
  refine wpAnyH_take (i := 20) (oi := _) (v := undef) rfl (by kernel_rfl) (by kernel_rfl) (by kernel_rfl) (fun _ _ _ h => h) (Or.inr ⟨by rfl, rfl⟩) (by assumption) ?_
  try simp only [List.getElem_toArray, List.getElem_cons_zero, List.getElem_cons_succ, Act.put, List.setIfInBounds_toArray, List.set_cons_zero, List.set_cons_succ]
  refine wpAnyH_take (i := 21) (oi := _) (v := undef) rfl (by kernel_rfl) (by kernel_rfl) (by kernel_rfl) (fun _ _ _ h => h) (Or.inr ⟨by rfl, rfl⟩) (by assumption) ?_
  try simp only [List.getElem_toArray, List.getElem_cons_zero, List.getElem_cons_succ, Act.put, List.setIfInBounds_toArray, List.set_cons_zero, List.set_cons_succ]
  refine wpAnyH_take (i := 22) (oi := _) (v := undef) rfl (by kernel_rfl) (by kernel_rfl) (by kernel_rfl) (fun _ _ _ h => h) (Or.inr ⟨by rfl, rfl⟩) (by assumption) ?_
  try simp only [List.getElem_toArray, List.getElem_cons_zero, List.getElem_cons_succ, Act.put, List.setIfInBounds_toArray, List.set_cons_zero, List.set_cons_succ]
  refine wpAnyH_take (i := 23) (oi := _) (v := undef) rfl (by kernel_rfl) (by kernel_rfl) (by kernel_rfl) (fun _ _ _ h => h) (Or.inr ⟨by rfl, rfl⟩) (by assumption) ?_
  try simp only [List.getElem_toArray, List.getElem_cons_zero, List.getElem_cons_succ, Act.put, List.setIfInBounds_toArray, List.set_cons_zero, List.set_cons_succ]
  refine wpAnyH_take (i := 24) (oi := _) (v := undef) rfl (by kernel_rfl) (by kernel_rfl) (by kernel_rfl) (fun _ _ _ h => h) (Or.inr ⟨by rfl, rfl⟩) (by assumption) ?_
  try simp only [List.getElem_toArray, List.getElem_cons_zero, List.getElem_cons_succ, Act.put, List.setIfInBounds_toArray, List.set_cons_zero, List.set_cons_succ]
  refine wpAnyH_take (i := 25) (oi := _) (v := ?va25) rfl (by kernel_rfl) (by kernel_rfl) (by kernel_rfl) (fun _ _ _ h => h) (Or.inl ⟨by rfl, ?hya25⟩) (by assumption) ?resta25
  case hya25 => (intro w hSw; (try dsimp only at hSw); go_split_ands; go_simp; try (with_reducible rfl))
  try simp only [List.getElem_toArray, List.getElem_cons_zero, List.getElem_cons_succ, Act.put, List.setIfInBounds_toArray, List.set_cons_zero, List.set_cons_succ]
  refine wpAnyH_take (i := 26) (oi := _) (v := ?va26) rfl (by kernel_rfl) (by kernel_rfl) (by kernel_rfl) (fun _ _ _ h => h) (Or.inl ⟨by rfl, ?hya26⟩) (by assumption) ?resta26
  case hya26 => (intro w hSw; (try dsimp only at hSw); go_split_ands; go_simp; try (with_reducible rfl))
  try simp only [List.getElem_toArray, List.getElem_cons_zero, List.getElem_cons_succ, Act.put, List.setIfInBounds_toArray, List.set_cons_zero, List.set_cons_succ]
  refine wpAnyH_done (by kernel_rfl) ?_ _
  go_wp2_with fail
  go_ret
  exact ⟨ret_bool (by rw [HS.out]; simp [H3.out]), by rw [hg1]; exact B4.out⟩
set_option maxRecDepth 100000 in
set_option maxHeartbeats 1600000 in
theorem cSame4 (m x : Mv) (w : World) (hm : m.ok w) (hx : x.ok w) (h1 : (m.c == x.c) = true) (h2 : (m.ro == x.ro) = true) (h3 : (m.p.vs == x.p.vs) = true) : Calls Tryz.prog 22 #[.agg m.cs, .agg x.cs] w fun e w' => e = .returned (.bool (sameM m.p x.p)) ∧ Below w.heap.size w w' := by
  have HA := hid hm.ro
  have HB := hid hx.ro
  have R1 := hid ((Row.new w 38 m.cs).alloc (.cells x.cs 38))
  have X1 := hid (Row.new (w.alloc (.cells m.cs 38)) 38 x.cs)
  have B1 := hid (balloc (balloc (Below.refl w.heap.size w) (.cells m.cs 38)) (.cells x.cs 38))
  have hs1 : (w.alloc (.cells m.cs 38)).heap.size = w.heap.size + 1 := World.size_alloc ..
  have hs2 : ((w.alloc (.cells m.cs 38)).alloc (.cells x.cs 38)).heap.size = w.heap.size + 2 := by rw [World.size_alloc, hs1]
  rw [hs1] at X1
  have O1 := hid (hm.o.below B1.out)
  have P1 := hid (hx.o.below B1.out)
  have hq := eq41 m.ro x.ro hm.ro.1 hx.ro.1
  have HS : Hid (sameM m.p x.p = ((m.c == x.c) && ((m.ro == x.ro) && ((m.p.vs == x.p.vs) && allB (pos m.L) (pos x.L))))) := rfl
  clear hm hx
  go_enter Tryz.func22, Tryz.ntmps22
  go_upto_region 1 with fail
  generalize hw1 : (w.alloc (.cells m.cs 38)).alloc (.cells x.cs 38) = w1 at *
  have B1 : Hid (Below w.heap.size w w1.drew) := hid (B1.out.trans ⟨rfl, rfl, rfl, Nat.le_refl _, fun _ _ => rfl⟩)
  have O1 : Hid (Opts w1.drew m.oa m.on m.oc m.L) := hid (O1.out.below (bdrew (Below.refl _ _) 1))
  have P1 : Hid (Opts w1.drew x.oa x.on x.oc x.L) := hid (P1.out.below (bdrew (Below.refl _ _) 1))
  have R1 : Hid (Row w1.drew w.heap.size 38 m.cs) := R1
  have X1 : Hid (Row w1.drew (w.heap.size + 1) 38 x.cs) := X1
  generalize hg1 : w.heap.size = g1 at *
  clear hw1 hs1 hs2
  have H3 := hid h3
  have H2 := hid h2
  have H1 := hid h1
  have hv := eq74 m.p.vs x.p.vs rfl rfl
  rw [h2] at hq
  rw [h3] at hv
  clear h3 h2
  refine wp_region_held_drew (S := fun w' => w'.cell? ⟨g1, 0, none⟩ = some (.int .i64 m.c) ∧ (w'.cell? ⟨g1 + 1, 0, none⟩ = some (.int .i64 x.c) ∧ (w'.cell? ⟨g1, 27, none⟩ = some (.slice m.oa m.on m.oc) ∧ (w'.cell? ⟨g1 + 1, 27, none⟩ = some (.slice x.oa x.on x.oc) ∧ (Hid (Row w' g1 38 m.cs) ∧ Hid (Row w' (g1 + 1) 38 x.cs)))))) (by kernel_rfl) ?_ (fun hHeld => ?_)
  · exact ⟨(R1.out.cell 0).trans m.at0, (X1.out.cell 0).trans x.at0, (R1.out.cell 27).trans (Mv.at27 HA.out), (X1.out.cell 27).trans (Mv.at27 HB.out), R1.out, X1.out⟩
  refine wpAnyH_take (i := 0) (oi := _) (v := ?va0) rfl (by kernel_rfl) (by kernel_rfl) (by kernel_rfl) (fun _ _ _ h => h) (Or.inl ⟨by rfl, ?hya0⟩) (by assumption) ?resta0
  case hya0 => (intro w hSw; (try dsimp only at hSw); go_split_ands; go_simp; try (with_reducible rfl))
  try simp only [List.getElem_toArray, List.getElem_cons_zero, List.getElem_cons_succ, Act.put, List.setIfInBounds_toArray, List.set_cons_zero, List.set_cons_succ]
  refine wpAnyH_take (i := 1) (oi := _) (v := ?va1) rfl (by kernel_rfl) (by kernel_rfl) (by kernel_rfl) (fun _ _ _ h => h) (Or.inl ⟨by rfl, ?hya1⟩) (by assumption) ?resta1
  case hya1 => (intro w hSw; (try dsimp only at hSw); go_split_ands; go_simp; try (with_reducible rfl))
  try simp only [List.getElem_toArray, List.getElem_cons_zero, List.getElem_cons_succ, Act.put, List.setIfInBounds_toArray, List.set_cons_zero, List.set_cons_succ]
  refine wpAnyH_take (i := 2) (oi := _) (v := ?va2) rfl (by kernel_rfl) (by kernel_rfl) (by kernel_rfl) (fun _ _ _ h => h) (Or.inl ⟨by rfl, ?hya2⟩) (by assumption) ?resta2
  case hya2 => (intro w hSw; (try dsimp only at hSw); go_split_ands; go_simp; try (with_reducible rfl))
  try simp only [List.getElem_toArray, List.getElem_cons_zero, List.getElem_cons_succ, Act.put, List.setIfInBounds_toArray, List.set_cons_zero, List.set_cons_succ]
  refine wpAnyH_take (i := 3) (oi := _) (v := ?va3) rfl (by kernel_rfl) (by kernel_rfl) (by kernel_rfl) (fun _ _ _ h => h) (Or.inl ⟨by rfl, ?hya3⟩) (by assumption) ?resta3
  case hya3 => (intro w hSw; (try dsimp only at hSw); go_split_ands; go_simp; try (with_reducible rfl))
  try simp only [List.getElem_toArray, List.getElem_cons_zero, List.getElem_cons_succ, Act.put, List.setIfInBounds_toArray, List.set_cons_zero, List.set_cons_succ]
  refine wpAnyH_take (i := 4) (oi := _) (v := ?va4) rfl (by kernel_rfl) (by kernel_rfl) (by kernel_rfl) (fun _ _ _ h => h) (Or.inl ⟨by rfl, ?hya4⟩) (by assumption) ?resta4
  case hya4 => (intro w hSw; (try dsimp only at hSw); go_split_ands; go_simp; try (with_reducible rfl))
  try simp only [List.getElem_toArray, List.getElem_cons_zero, List.getElem_cons_succ, Act.put, List.setIfInBounds_toArray, List.set_cons_zero, List.set_cons_succ]
  refine wpAnyH_take (i := 5) (oi := _) (v := ?va5) rfl (by kernel_rfl) (by kernel_rfl) (by kernel_rfl) (fun _ _ _ h => h) (Or.inl ⟨by rfl, ?hya5⟩) (by assumption) ?resta5
  case hya5 => (intro w hSw; (try dsimp only at hSw); go_split_ands; go_simp; try (with_reducible rfl))
  try simp only [List.getElem_toArray, List.getElem_cons_zero, List.getElem_cons_succ, Act.put, List.setIfInBounds_toArray, List.set_cons_zero, List.set_cons_succ]
  refine wpAnyH_take (i := 6) (oi := _) (v := ?va6) rfl (by kernel_rfl) (by kernel_rfl) (by kernel_rfl) (fun _ _ _ h => h) (Or.inl ⟨by rfl, ?hya6⟩) (by assumption) ?resta6
  case hya6 => (intro w hSw; (try dsimp only at hSw); go_split_ands; go_simp; try (with_reducible rfl))
  try simp only [List.getElem_toArray, List.getElem_cons_zero, List.getElem_cons_succ, Act.put, List.setIfInBounds_toArray, List.set_cons_zero, List.set_cons_succ]
  refine wpAnyH_take (i := 7) (oi := _) (v := .agg (arr m.ro)) rfl (by kernel_rfl) (by kernel_rfl) (by kernel_rfl) (fun _ _ _ h => h) (yld41 (by rfl) _ rfl g1 11 rfl m.ro HA.out (fun w h => by have := h.2.2.2.2.1.out.part.mvA HA.out; simpa using this)) (by assumption) ?_
  try simp only [List.getElem_toArray, List.getElem_cons_zero, List.getElem_cons_succ, Act.put, List.setIfInBounds_toArray, List.set_cons_zero, List.set_cons_succ]
  refine wpAnyH_take (i := 8) (oi := _) (v := ?va8) rfl (by kernel_rfl) (by kernel_rfl) (by kernel_rfl) (fun _ _ _ h => h) (Or.inl ⟨by rfl, ?hya8⟩) (by assumption) ?resta8
  case hya8 => (intro w hSw; (try dsimp only at hSw); go_split_ands; go_simp; try (with_reducible rfl))
  try simp only [List.getElem_toArray, List.getElem_cons_zero, List.getElem_cons_succ, Act.put, List.setIfInBounds_toArray, List.set_cons_zero, List.set_cons_succ]
  refine wpAnyH_take (i := 9) (oi := _) (v := .agg (arr x.ro)) rfl (by kernel_rfl) (by kernel_rfl) (by kernel_rfl) (fun _ _ _ h => h) (yld41 (by rfl) _ rfl (g1 + 1) 11 rfl x.ro HB.out (fun w h => by have := h.2.2.2.2.2.out.part.mvA HB.out; simpa using this)) (by assumption) ?_
  try simp only [List.getElem_toArray, List.getElem_cons_zero, List.getElem_cons_succ, Act.put, List.setIfInBounds_toArray, List.set_cons_zero, List.set_cons_succ]
  refine wpAnyH_take (i := 10) (oi := _) (v := ?va10) rfl (by kernel_rfl) (by kernel_rfl) (by kernel_rfl) (fun _ _ _ h => h) (Or.inl ⟨by rfl, ?hya10⟩) (by assumption) ?resta10
  case hya10 => (intro w hSw; (try dsimp only at hSw); go_split_ands; go_simp; try (with_reducible rfl))
  try simp only [List.getElem_toArray, List.getElem_cons_zero, List.getElem_cons_succ, Act.put, List.setIfInBounds_toArray, List.set_cons_zero, List.set_cons_succ]
  refine wpAnyH_take (i := 11) (oi := _) (v := ?va11) rfl (by kernel_rfl) (by kernel_rfl) (by kernel_rfl) (fun _ _ _ h => h) (Or.inl ⟨by rfl, ?hya11⟩) (by assumption) ?resta11
  case hya11 => (intro w hSw; (try dsimp only at hSw); go_split_ands; go_simp; try (with_reducible rfl))
  try simp only [List.getElem_toArray, List.getElem_cons_zero, List.getElem_cons_succ, Act.put, List.setIfInBounds_toArray, List.set_cons_zero, List.set_cons_succ]
  refine wpAnyH_take (i := 12) (oi := _) (v := ?va12) rfl (by kernel_rfl) (by kernel_rfl) (by kernel_rfl) (fun _ _ _ h => h) (Or.inl ⟨by rfl, ?hya12⟩) (by assumption) ?resta12
  case hya12 => (intro w hSw; (try dsimp only at hSw); go_split_ands; go_simp; try (with_reducible rfl))
  try simp only [List.getElem_toArray, List.getElem_cons_zero, List.getElem_cons_succ, Act.put, List.setIfInBounds_toArray, List.set_cons_zero, List.set_cons_succ]
  refine wpAnyH_take (i := 13) (oi := _) (v := .agg m.cs) rfl (by kernel_rfl) (by kernel_rfl) (by kernel_rfl) (fun _ _ _ h => h) (yldM m29 (by rfl) _ rfl g1 0 rfl m HA.out (fun w h => h.2.2.2.2.1.out.part)) (by assumption) ?_
  try simp only [List.getElem_toArray, List.getElem_cons_zero, List.getElem_cons_succ, Act.put, List.setIfInBounds_toArray, List.set_cons_zero, List.set_cons_succ]
  refine wpAnyH_take (i := 15) (oi := _) (v := .agg x.cs) rfl (by kernel_rfl) (by kernel_rfl) (by kernel_rfl) (fun _ _ _ h => h) (yldM m29 (by rfl) _ rfl (g1 + 1) 0 rfl x HB.out (fun w h => h.2.2.2.2.2.out.part)) (by assumption) ?_
  try simp only [List.getElem_toArray, List.getElem_cons_zero, List.getElem_cons_succ, Act.put, List.setIfInBounds_toArray, List.set_cons_zero, List.set_cons_succ]
  refine wpAnyH_ready (rs := [14]) (by kernel_rfl) (by simp) ?_
  refine AllReadyH.cons (o := _) rfl (fun K hK => ?_) AllReadyH.nil
  go_simp
  generalize w1.drew = w2 at *
  have R2 := R1
  have X2 := X1
  have O2 := O1
  have P2 := P1
  have B2 := B1
  clear R1 X1 O1 P1 B1
  refine (valuesOf_any m _ HA.out).mono ?_
  rintro e w3 ⟨rfl, hb3⟩
  have R3 := hid (R2.out.below hb3)
  have X3 := hid (X2.out.below hb3)
  have O3 := hid (O2.out.below hb3)
  have P3 := hid (P2.out.below hb3)
  have B3 : Hid (Below g1 w w3) := hid (B2.out.trans (hb3.mono (by rw [← hg1]; exact B2.out.size)))
  clear hb3
  go_wp2_with fail
  refine hK.out _ _ ⟨(R3.out.cell 0).trans m.at0, (X3.out.cell 0).trans x.at0, (R3.out.cell 27).trans (Mv.at27 HA.out), (X3.out.cell 27).trans (Mv.at27 HB.out), R3.out, X3.out⟩ (fun hHeld => ?_)
  clear hK K
  try simp only [List.getElem_toArray, List.getElem_cons_zero, List.getElem_cons_succ, Act.put, List.setIfInBounds_toArray, List.set_cons_zero, List.set_cons_succ]
  refine wpAnyH_ready (rs := [16]) (by kernel_rfl) (by simp) ?_
  refine AllReadyH.cons (o := _) rfl (fun K hK => ?_) AllReadyH.nil
  go_simp
  refine (valuesOf_any x _ HB.out).mono ?_
  rintro e w4 ⟨rfl, hb4⟩
  have R4 := hid (R3.out.below hb4)
  have X4 := hid (X3.out.below hb4)
  have O4 := hid (O3.out.below hb4)
  have P4 := hid (P3.out.below hb4)
  have B4 : Hid (Below g1 w w4) := hid (B3.out.trans (hb4.mono (by rw [← hg1]; exact B3.out.size)))
  clear hb4
  go_wp2_with fail
  refine hK.out _ _ ⟨(R4.out.cell 0).trans m.at0, (X4.out.cell 0).trans x.at0, (R4.out.cell 27).trans (Mv.at27 HA.out), (X4.out.cell 27).trans (Mv.at27 HB.out), R4.out, X4.out⟩ (fun hHeld => ?_)
  clear hK K
  try simp only [List.getElem_toArray, List.getElem_cons_zero, List.getElem_cons_succ, Act.put, List.setIfInBounds_toArray, List.set_cons_zero, List.set_cons_succ]
  refine wpAnyH_take (i := 17) (oi := _) (v := ?va17) rfl (by kernel_rfl) (by kernel_rfl) (by kernel_rfl) (fun _ _ _ h => h) (Or.inl ⟨by rfl, ?hya17⟩) (by assumption) ?resta17
  case hya17 => (intro w hSw; (try dsimp only at hSw); go_split_ands; go_simp; try (with_reducible rfl))
  try simp only [List.getElem_toArray, List.getElem_cons_zero, List.getElem_cons_succ, Act.put, List.setIfInBounds_toArray, List.set_cons_zero, List.set_cons_succ]
  refine wpAnyH_take (i := 18) (oi := _) (v := ?va18) rfl (by kernel_rfl) (by kernel_rfl) (by kernel_rfl) (fun _ _ _ h => h) (Or.inl ⟨by rfl, ?hya18⟩) (by assumption) ?resta18
  case hya18 => (intro w hSw; (try dsimp only at hSw); go_split_ands; go_simp; try (with_reducible rfl))
  try simp only [List.getElem_toArray, List.getElem_cons_zero, List.getElem_cons_succ, Act.put, List.setIfInBounds_toArray, List.set_cons_zero, List.set_cons_succ]
  refine wpAnyH_take (i := 19) (oi := _) (v := ?va19) rfl (by kernel_rfl) (by kernel_rfl) (by kernel_rfl) (fun _ _ _ h => h) (Or.inl ⟨by rfl, ?hya19⟩) (by assumption) ?resta19
  case hya19 => (intro w hSw; (try dsimp only at hSw); go_split_ands; go_simp; try (with_reducible rfl))
  try simp only [List.getElem_toArray, List.getElem_cons_zero, List.getElem_cons_succ, Act.put, List.setIfInBounds_toArray, List.set_cons_zero, List.set_cons_succ]
  refine wpAnyH_take (i := 20) (oi := _) (v := ?va20) rfl (by kernel_rfl) (by kernel_rfl) (by kernel_rfl) (fun _ _ _ h => h) (Or.inl ⟨by rfl, ?hya20⟩) (by assumption) ?resta20
  case hya20 => (intro w hSw; (try dsimp only at hSw); go_split_ands; go_simp; try (with_reducible rfl))
  try simp only [List.getElem_toArray, List.getElem_cons_zero, List.getElem_cons_succ, Act.put, List.setIfInBounds_toArray, List.set_cons_zero, List.set_cons_succ]
  refine wpAnyH_take (i := 21) (oi := _) (v := ?va21) rfl (by kernel_rfl) (by kernel_rfl) (by kernel_rfl) (fun _ _ _ h => h) (Or.inl ⟨by rfl, ?hya21⟩) (by assumption) ?resta21
  case hya21 => (intro w hSw; (try dsimp only at hSw); go_split_ands; go_simp; try (with_reducible rfl))
  try simp only [List.getElem_toArray, List.getElem_cons_zero, List.getElem_cons_succ, Act.put, List.setIfInBounds_toArray, List.set_cons_zero, List.set_cons_succ]
  refine wpAnyH_take (i := 22) (oi := _) (v := ?va22) rfl (by kernel_rfl) (by kernel_rfl) (by kernel_rfl) (fun _ _ _ h => h) (Or.inl ⟨by rfl, ?hya22⟩) (by assumption) ?resta22
  case hya22 => (intro w hSw; (try dsimp only at hSw); go_split_ands; go_simp; try (with_reducible rfl))
  try simp only [List.getElem_toArray, List.getElem_cons_zero, List.getElem_cons_succ, Act.put, List.setIfInBounds_toArray, List.set_cons_zero, List.set_cons_succ]
  refine wpAnyH_take (i := 23) (oi := _) (v := ?va23) rfl (by kernel_rfl) (by kernel_rfl) (by kernel_rfl) (fun _ _ _ h => h) (Or.inl ⟨by rfl, ?hya23⟩) (by assumption) ?resta23
  case hya23 => (intro w hSw; (try dsimp only at hSw); go_split_ands; go_simp; try (with_reducible rfl))
  try simp only [List.getElem_toArray, List.getElem_cons_zero, List.getElem_cons_succ, Act.put, List.setIfInBounds_toArray, List.set_cons_zero, List.set_cons_succ]
  refine wpAnyH_ready (rs := [24]) (by kernel_rfl) (by simp) ?_
  refine AllReadyH.cons (o := _) rfl (fun K hK => ?_) AllReadyH.nil
  go_simp
  refine (oSame_any m.oa x.oa m.on m.oc x.on x.oc m.L x.L _ O4.out P4.out).mono ?_
  rintro e w5 ⟨rfl, hb5⟩
  have R5 := hid (R4.out.below hb5)
  have X5 := hid (X4.out.below hb5)
  have O5 := hid (O4.out.below hb5)
  have P5 := hid (P4.out.below hb5)
  have B5 : Hid (Below g1 w w5) := hid (B4.out.trans (hb5.mono (by rw [← hg1]; exact B4.out.size)))
  clear hb5
  go_wp2_with fail
  refine hK.out _ _ ⟨(R5.out.cell 0).trans m.at0, (X5.out.cell 0).trans x.at0, (R5.out.cell 27).trans (Mv.at27 HA.out), (X5.out.cell 27).trans (Mv.at27 HB.out), R5.out, X5.out⟩ (fun hHeld => ?_)
  clear hK K
  try simp only [List.getElem_toArray, List.getElem_cons_zero, List.getElem_cons_succ, Act.put, List.setIfInBounds_toArray, List.set_cons_zero, List.set_cons_succ]
  refine wpAnyH_take (i := 25) (oi := _) (v := ?va25) rfl (by kernel_rfl) (by kernel_rfl) (by kernel_rfl) (fun _ _ _ h => h) (Or.inl ⟨by rfl, ?hya25⟩) (by assumption) ?resta25
  case hya25 => (intro w hSw; (try dsimp only at hSw); go_split_ands; go_simp; try (with_reducible rfl))
  try simp only [List.getElem_toArray, List.getElem_cons_zero, List.getElem_cons_succ, Act.put, List.setIfInBounds_toArray, List.set_cons_zero, List.set_cons_succ]
  refine wpAnyH_take (i := 26) (oi := _) (v := ?va26) rfl (by kernel_rfl) (by kernel_rfl) (by kernel_rfl) (fun _ _ _ h => h) (Or.inl ⟨by rfl, ?hya26⟩) (by assumption) ?resta26
  case hya26 => (intro w hSw; (try dsimp only at hSw); go_split_ands; go_simp; try (with_reducible rfl))
  try simp only [List.getElem_toArray, List.getElem_cons_zero, List.getElem_cons_succ, Act.put, List.setIfInBounds_toArray, List.set_cons_zero, List.set_cons_succ]
  refine wpAnyH_done (by kernel_rfl) ?_ _
  go_wp2_with fail
  go_ret
  exact ⟨ret_bool (by rw [HS.out]; simp [H1.out, H2.out, H3.out]), by rw [hg1]; exact B5.out⟩
theorem cSame_any (m x : Mv) (w : World) (hm : m.ok w) (hx : x.ok w) : Calls Tryz.prog 22 #[.agg m.cs, .agg x.cs] w fun e w' => e = .returned (.bool (sameM m.p x.p)) ∧ Below w.heap.size w w' := by
  cases h1 : (m.c == x.c)
  · exact cSame1 m x w hm hx h1
  · cases h2 : (m.ro == x.ro)
    · exact cSame2 m x w hm hx h1 h2
    · cases h3 : (m.p.vs == x.p.vs)
      · exact cSame3 m x w hm hx h1 h2 h3
      · exact cSame4 m x w hm hx h1 h2 h3
end Go.Proofs.YtbklpelikaapoaaGreatDoor

namespace Go.Proofs.YtbklpelikaapoaaGreatDoor
open Go.ChangeShapes Go.WideShapes Go.ChangeAt Go.RowKit Go.Deep
set_option linter.unusedVariables false
set_option linter.unusedSimpArgs false

/-- A packet. -/
structure Pp where
  h : Hd
  d : Bool
  m : Pm
  o : Ho
  n : Int
  t : List Int
def Pv.p (v : Pv) : Pp := ⟨v.h, v.d, v.m.p, v.o, v.n, v.t.l⟩
def Pp.zero : Pp := ⟨Hd.zero, false, Pm.zero, Ho.zero, 0, []⟩
/-- What is behind the header. -/
def datL (p : Pp) : List Int := optL 17 p.o ++ (digs 4 p.n ++ p.t)
def ctlL (p : Pp) : List Int := [155, p.m.c, 0, 0] ++ eL p.m
def datE (p : Pp) : Int := if okO p.o = true then (if okB 4 p.n = true then withE (p.h.setNx 0) (datL p) else 1) else 1
def ctlE (p : Pp) : Int := if eE p.m = 0 then withE (p.h.setNx 58) (ctlL p) else eE p.m
/-- What is wrong with a packet; its bytes. -/
def pgE (p : Pp) : Int := if p.d = true then datE p else ctlE p
def ctlR (p : Pp) : List Int := setL p.h.f p.h.t 58 (ctlL p) 2
def datB (p : Pp) : List Int := hdrL ((p.h.setNx 0).setLn (datL p).length) ++ datL p
def ctlB (p : Pp) : List Int := hdrL ((p.h.setNx 58).setLn (ctlL p).length) ++ ctlR p
/-- The bytes of a data packet, of a control packet, where it has some. -/
def datO (p : Pp) : List Int := if datE p = 0 then datB p else []
def ctlO (p : Pp) : List Int := if ctlE p = 0 then ctlB p else []
def pgL (p : Pp) : List Int := if pgE p = 0 then (if p.d = true then datB p else ctlB p) else []
/-- Bytes behind a header, of a control message and of data: what is wrong, and the packet. -/
def rcE (h : Hd) (l : List Int) : Int := if l.length < 4 then 4 else if chkB h.f h.t 58 l = true then (if l.getD 0 0 = 155 then dE (l.getD 1 0) (l.drop 4) else 6) else 5
def rdtE (l : List Int) : Int := if dcE l = 0 then (if dcN l = 17 then (if (dcR l).length < 4 then 4 else 0) else 6) else dcE l
def rhE (h : Hd) (l : List Int) : Int := if h.nx = 58 then rcE h l else if h.nx = 0 then rdtE l else 6
def rhP (h : Hd) (l : List Int) : Pp := if rhE h l = 0 then (if h.nx = 58 then ⟨h, false, dM (l.getD 1 0) (l.drop 4), Ho.zero, 0, []⟩ else ⟨h, true, Pm.zero, dcO l, numOf ((dcR l).take 4), (dcR l).drop 4⟩) else Pp.zero
/-- What is wrong with bytes; their packet. -/
def dgE (l : List Int) : Int := if decE l = 0 then rhE (decV l) (decR l) else decE l
def dgP (l : List Int) : Pp := if decE l = 0 then rhP (decV l) (decR l) else Pp.zero
/-! The same? -/
def Hd.ch (h : Hd) : Hd := (h.setLn 0).setNx 0
def Hd.eqB (a b : Hd) : Bool := a.c == b.c && (a.fl == b.fl && (a.ln == b.ln && (a.nx == b.nx && (a.hp == b.hp && (a.f == b.f && a.t == b.t)))))
theorem Hd.eqB_iff (a b : Hd) : a.eqB b = true ↔ a = b := by
  obtain ⟨c, fl, ln, nx, hp, f, t⟩ := a
  obtain ⟨c', fl', ln', nx', hp', f', t'⟩ := b
  simp [Hd.eqB]
theorem Ho.eqB_iff (a b : Ho) : a.eqB b = true ↔ a = b := by
  obtain ⟨d, w, f, i, r⟩ := a
  obtain ⟨d', w', f', i', r'⟩ := b
  simp [Ho.eqB]
def sameP (a b : Pp) : Bool := (a.d == b.d && a.h.ch.eqB b.h.ch) && (if a.d = true then a.o.eqB b.o && (a.n == b.n && a.t == b.t) else sameM a.m b.m)
theorem sameM_self (a : Pm) : sameM a a = true := by simp [sameM, allB_self]
/-- All that a packet has is the same, but for the header's length and next header. -/
theorem sameP_of {a b : Pp} (hd : a.d = b.d) (hh : a.h.ch = b.h.ch) (h1 : a.d = true → a.o = b.o ∧ a.n = b.n ∧ a.t = b.t) (h2 : a.d = false → a.m = b.m) : sameP a b = true := by
  unfold sameP
  rw [← hd, ← hh, (Hd.eqB_iff a.h.ch a.h.ch).2 rfl]
  cases hc : a.d
  · rw [← h2 hc, sameM_self]; simp
  · obtain ⟨e1, e2, e3⟩ := h1 hc
    rw [← e1, ← e2, ← e3, Ho.eqB_self]; simp
theorem withE_0 {h : Hd} {B : List Int} (e : withE h B = 0) : okH (h.setLn 0) = true ∧ B.length ≤ 1240 := by
  unfold withE at e
  split at e
  · split at e
    · omega
    · exact ⟨‹_›, by omega⟩
  · omega
theorem datL_len (p : Pp) : (datL p).length = 12 + p.t.length := by
  rw [datL, List.length_append, List.length_append, optL_len, digs_length 4 _ (by decide)]; show 8 + (4 + _) = _; omega
theorem ctlL_len (p : Pp) : (ctlL p).length = 4 + (eL p.m).length := by rw [ctlL, List.length_append]; rfl
theorem ctlR_len (p : Pp) : (ctlR p).length = (ctlL p).length := setL_len _ _ _ _ _
theorem eE_cod {m : Pm} (h : eE m = 0) : codB m.c = true := (chkM_0 (eE_0 h).1).1
theorem cod_byte {c : Int} (h : codB c = true) : 0 ≤ c ∧ c < 256 := by
  have : 0 ≤ c ∧ c < 4 := by simpa [codB] using h
  omega
theorem ctlL_oct {p : Pp} (h : eE p.m = 0) (ho : Oct (eL p.m)) : Oct (ctlL p) := by
  refine Oct.app ?_ ho
  have := cod_byte (eE_cod h)
  intro x hx
  simp at hx
  omega
theorem psE_58 {n : Nat} (h : n ≤ 1280) : psE 58 n = 0 := by
  unfold psE
  rw [if_pos (by omega), if_neg (by omega)]
/-! There and back. -/
/-- An encoded packet is decoded as it was. -/
theorem pg_dg (p : Pp) (hh : p.h.ok) (ho : Oct (eL p.m)) (hro : p.m.ro.length = 16) (had : ∀ o ∈ p.m.o, o.ad.length = 16) (ht : Oct p.t) (h : pgE p = 0) : dgE (pgL p) = 0 ∧ sameP (dgP (pgL p)) p = true ∧ Oct (pgL p) ∧ (pgL p).length ≤ 1280 := by
  rw [pgL, if_pos h]
  unfold pgE at h
  cases hd : p.d
  · rw [hd] at h
    simp only [Bool.false_eq_true, if_false] at h ⊢
    have he : eE p.m = 0 := by
      unfold ctlE at h
      split at h
      · assumption
      · contradiction
    rw [ctlE, if_pos he] at h
    obtain ⟨h1, h2⟩ := withE_0 h
    have hO := ctlL_oct he ho
    have hRl := ctlR_len p
    have hRo : Oct (ctlR p) := setL_oct _ _ _ _ _ hO
    have hlen := ctlL_len p
    have k1 : ((p.h.setNx 58).setLn ((ctlL p).length : Nat)).ok := hh
    have hy : okH ((p.h.setNx 58).setLn ((ctlL p).length : Nat)) = true := okH_ln h1 (by omega) (by omega)
    obtain ⟨d1, d2, d3⟩ := dec_with k1 hy (ctlR p) hRo (by show ((ctlL p).length : Int) = ((ctlR p).length : Nat); rw [hRl]) (by omega)
    have hck : chkB p.h.f p.h.t 58 (ctlR p) = true := setL_right _ _ _ _ _ hh.1 hh.2 hO (psE_58 (by omega)) (by decide) (by omega)
    have ht2 : (ctlR p).take 2 = [155, p.m.c] := by rw [ctlR, setL_take _ _ _ _ _ (by omega)]; rfl
    have hd4 : (ctlR p).drop 4 = eL p.m := by rw [ctlR, setL_drop _ _ _ _ 2 (by omega)]; rfl
    have g0 : (ctlR p).getD 0 0 = 155 := by
      have := congrArg (fun l => l.getD 0 0) ht2
      simpa [List.getD_eq_getElem?_getD, List.getElem?_take] using this
    have g1 : (ctlR p).getD 1 0 = p.m.c := by
      have := congrArg (fun l => l.getD 1 0) ht2
      simpa [List.getD_eq_getElem?_getD, List.getElem?_take] using this
    obtain ⟨b1, b2⟩ := back_trip p.m he hro ho had
    have hnx : ((p.h.setNx 58).setLn ((ctlL p).length : Nat)).nx = 58 := rfl
    have hR : rhE ((p.h.setNx 58).setLn ((ctlL p).length : Nat)) (ctlR p) = 0 := by
      rw [rhE, if_pos hnx, rcE, if_neg (by omega)]
      show (if chkB p.h.f p.h.t 58 (ctlR p) = true then _ else _) = _
      rw [if_pos hck, if_pos g0, g1, hd4, b1]
    have hE : dgE (ctlB p) = 0 := by rw [ctlB, dgE, if_pos d1, d2, d3, hR]
    refine ⟨hE, ?_, (hdrL_oct k1).app hRo, ?_⟩
    · rw [ctlB, dgP, if_pos d1, d2, d3, rhP, if_pos hR, if_pos hnx, g1, hd4, b2]
      exact sameP_of hd.symm rfl (fun e => by cases e) (fun _ => rfl)
    · rw [ctlB, List.length_append, hdrL_len k1]; omega
  · rw [hd] at h
    simp only [if_true] at h ⊢
    unfold datE at h
    split at h
    · rename_i ho1
      split at h
      · rename_i hn1
        obtain ⟨h1, h2⟩ := withE_0 h
        have hDo : Oct (datL p) := (optL_oct _ _).app ((digs_oct _ _).app ht)
        have hlen := datL_len p
        have k1 : ((p.h.setNx 0).setLn ((datL p).length : Nat)).ok := hh
        have hy : okH ((p.h.setNx 0).setLn ((datL p).length : Nat)) = true := okH_ln h1 (by omega) (by omega)
        obtain ⟨d1, d2, d3⟩ := dec_with k1 hy (datL p) hDo rfl (by omega)
        obtain ⟨b1, b2, b3, b4⟩ := bits_back p.o
        have hol := optL_list (next := 17) (h := p.o) (by decide) ho1
        obtain ⟨⟨i0, i1⟩, ⟨r0, r1⟩⟩ := okO_yes ho1
        have hL : datL p = [17, 0, 99, 4, bitsV p.o, p.o.i, p.o.r / 256, p.o.r % 256] ++ (digs 4 p.n ++ p.t) := by rw [datL, hol]
        have c1 : dcE (datL p) = 0 := by
          rw [dcE, if_neg (by omega), hL]
          show (if ((0 : Int) = 0 ∧ (99 : Int) = 99 ∧ (4 : Int) = 4) then (if bitsV p.o % 32 = 0 then (0 : Int) else 3) else 6) = 0
          rw [if_pos ⟨rfl, rfl, rfl⟩, if_pos b4]
        have c2 : dcN (datL p) = 17 := by rw [dcN, if_pos c1, hL]; rfl
        have c3 : dcO (datL p) = p.o := by
          rw [dcO, if_pos c1, hL]
          show (⟨bitsV p.o / 128 == 1, bitsV p.o / 64 % 2 == 1, bitsV p.o / 32 % 2 == 1, p.o.i, 256 * (p.o.r / 256) + p.o.r % 256⟩ : Ho) = p.o
          rw [b1, b2, b3, show 256 * (p.o.r / 256) + p.o.r % 256 = p.o.r by omega]
        have c4 : dcR (datL p) = digs 4 p.n ++ p.t := by rw [dcR, if_pos c1, hL]; rfl
        have hnx : ((p.h.setNx 0).setLn ((datL p).length : Nat)).nx = 0 := rfl
        have hnn : ¬ ((p.h.setNx 0).setLn ((datL p).length : Nat)).nx = 58 := by rw [hnx]; decide
        have dl : (digs 4 p.n).length = 4 := digs_length 4 _ (by decide)
        have hR : rhE ((p.h.setNx 0).setLn ((datL p).length : Nat)) (datL p) = 0 := by
          rw [rhE, if_neg hnn, if_pos hnx, rdtE, if_pos c1, if_pos c2, c4, if_neg (by rw [List.length_append]; omega)]
        have hE : dgE (datB p) = 0 := by rw [datB, dgE, if_pos d1, d2, d3, hR]
        refine ⟨hE, ?_, (hdrL_oct k1).app hDo, ?_⟩
        · rw [datB, dgP, if_pos d1, d2, d3, rhP, if_pos hR, if_neg hnn, c3, c4]
          refine sameP_of hd.symm rfl (fun _ => ⟨rfl, ?_, ?_⟩) (fun e => by cases e)
          · show numOf ((digs 4 p.n ++ p.t).take 4) = p.n
            rw [List.take_left' dl]
            have hb : 0 ≤ p.n ∧ p.n < 4294967296 := by simpa [okB, top] using hn1
            simp [digs, numOf]; omega
          · show (digs 4 p.n ++ p.t).drop 4 = p.t
            exact List.drop_left' dl
        · rw [datB, List.length_append, hdrL_len k1]; omega
      · omega
    · omega
end Go.Proofs.YtbklpelikaapoaaGreatDoor

namespace Go.Proofs.YtbklpelikaapoaaGreatDoor
open Go.ChangeShapes Go.WideShapes Go.ChangeAt Go.RowKit Go.Deep
set_option linter.unusedVariables false
set_option linter.unusedSimpArgs false

theorem texts_lit (w : World) (L : List Txt) (h : ∀ t ∈ L, t.ok w) (hn : L.length ≤ 1000) : Texts (w.alloc (.cells (L.map Txt.v).toArray 30)) (some ⟨w.heap.size, 0, none⟩) L.length L.length L := by
  refine ⟨rfl, Nat.le_refl _, by unfold maxLen; omega, fun k hk => ⟨w.heap.size, 0, rfl, ?_⟩, fun t ht => (h t ht).below (balloc (Below.refl _ _) _)⟩
  have := World.news_of_block (heap_alloc_new w (.cells (L.map Txt.v).toArray 30)) k (L.getD k Txt.none).v (by simp [hk])
  rwa [Addr.add_lit] at this
theorem own_pre {w : World} {b : Nat} {e : TypeId} {g N cap : Nat} {xs : List Value} (h : w.ownsRow b e 1 (.slice (some ⟨g, 0, none⟩) N cap) N xs) (k : Nat) (hk : k ≤ N) : w.ownsRow b e 1 (.slice (some ⟨g, 0, none⟩) k cap) k (xs.take k) := by
  obtain ⟨h1, h2 | ⟨g', cap', cur, he, hb, hg, hnc, hcm, hcs, hx⟩⟩ := h
  · cases h2.1
  · cases he
    refine ⟨by rw [List.length_take, h1]; omega, .inr ⟨g, cap, cur, rfl, hb, hg, by omega, hcm, hcs, ?_⟩⟩
    rw [← hx, List.take_take]
    congr 1; omega
theorem encOE_17 (o : Ho) : encOE 17 o = if okO o = true then 0 else 1 := by simp [encOE, encB, byB]
theorem encOL_17 {o : Ho} (h : okO o = true) : encOL 17 o = optL 17 o := by simp [encOL, encB, byB, h]
theorem putE_4 (l : List Int) (n : Int) (hl : l.length = 8) : putE 4 l.length [n] = if okB 4 n = true then 0 else 1 := by
  rw [hl]; unfold putE fitsB
  cases h : okB 4 n <;> simp [sizeB, h]
theorem putL_4 {l : List Int} {n : Int} (hl : l.length = 8) (h : okB 4 n = true) : putL 4 l [n] = l ++ digs 4 n := by
  rw [putL, putE_4 l n hl, if_pos h, if_pos rfl]; simp [bytesOf]
theorem put_code {c : Int} (h : codB c = true) : putE 1 ([] : List Int).length [155, c] = 0 ∧ putL 1 [] [155, c] = [155, c] := by
  have hc := cod_byte h
  have e : putE 1 ([] : List Int).length [155, c] = 0 := by
    unfold putE fitsB
    have : okB 1 c = true := by simp [okB, top]; omega
    simp [sizeB, okB, top, hc]
  refine ⟨e, ?_⟩
  rw [putL, if_pos e]
  simp [bytesOf, digs]; omega
theorem datO_bad {p : Pp} (h : datE p ≠ 0) : datO p = [] := by rw [datO, if_neg h]
theorem datE_1 {p : Pp} (h : okO p.o = false) : datE p = 1 := by rw [datE, h]; rfl
theorem datE_2 {p : Pp} (h : okO p.o = true) (h2 : okB 4 p.n = false) : datE p = 1 := by rw [datE, h, h2]; rfl
theorem datE_3 {p : Pp} (h : okO p.o = true) (h2 : okB 4 p.n = true) : datE p = withE (p.h.setNx 0) (datL p) := by rw [datE, if_pos h, if_pos h2]
set_option maxRecDepth 100000 in
set_option maxHeartbeats 3200000 in
theorem dataBytes_any (p : Pv) (w : World) (h : p.ok w) :
    Calls Tryz.prog 25 #[.agg p.cs] w fun e w' => (∃ v, e = .returned (.tuple #[v, .int .i64 (datE p.p)]) ∧ Hid (w'.ownsRow w.heap.size 5 1 v (datO p.p).length (u8s (datO p.p)))) ∧ Below w.heap.size w w' := by
  have HF := hid h.fit
  have R0 := hid (Row.new w 41 p.cs)
  have B0 := hid (balloc (Below.refl w.heap.size w) (.cells p.cs 41))
  have U0 := hid h.t
  have c72 := Pv.rT HF.out R0.out
  have c71 := Pv.rN HF.out R0.out
  have HD1 : Hid (okO p.o = false → datE p.p = 1) := hid (fun e => datE_1 e)
  have HD2 : Hid (okO p.o = true → okB 4 p.n = false → datE p.p = 1) := hid (fun e e2 => datE_2 e e2)
  have HD3 : Hid (okO p.o = true → okB 4 p.n = true → datE p.p = withE (p.h.setNx 0) (datL p.p)) := hid (fun e e2 => datE_3 e e2)
  clear h
  go_enter Tryz.func25, Tryz.ntmps25
  go_upto_region 1 with fail
  generalize hw1 : w.alloc (.cells p.cs 41) = w1 at *
  have hg1 : w1.heap.size = w.heap.size + 1 := by rw [← hw1]; simp
  have HG1 := hid hg1
  clear hw1 hg1
  go_wp2_with (refine ldOq oh _ rfl rfl w.heap.size 66 rfl p.o (Pv.rO HF.out R0.out) ?_)
  refine (hopEncode_any 17 p.o _).mono ?_
  rintro e w2 ⟨v, rfl, hown, hb⟩
  have c72' : w2.cell? ⟨w.heap.size, 72, none⟩ = some p.t.v := by rw [hb.cell (p := ⟨w.heap.size, 72, none⟩) R0.out.lt]; exact c72
  have c71' : w2.cell? ⟨w.heap.size, 71, none⟩ = some (.int .i64 p.n) := by rw [hb.cell (p := ⟨w.heap.size, 71, none⟩) R0.out.lt]; exact c71
  have R2 := hid (R0.out.below hb)
  have B2 := hid (bthen B0.out hb)
  rw [encOE_17]
  clear hb R0 B0 c71 c72
  cases ho : okO p.o
  · have HE := hid (HD1.out ho)
    rw [if_neg (by simp)]
    clear hown HD1 HD2 HD3
    go_wp2_with fail
    go_ret2
    exact ⟨⟨.slice none 0 0, by rw [HE.out]; rfl, by rw [datO_bad (by rw [HE.out]; decide)]; exact World.ownsRow_nil _ _ _ _⟩, B2.out⟩
  · have HO := hid ho
    rw [if_pos rfl]
    rw [encOL_17 ho] at hown
    obtain ⟨a, c, rfl, hl, _⟩ := owns_lies hown
    have L2 := hid hl
    clear hown hl HD1
    have hl8 := optL_len 17 p.o
    rw [hl8] at L2 ⊢
    have HL8 := hid hl8
    have L3 := hid (lies_new .i64 w2 #[.int .i64 p.n] 3 [p.n] rfl (by simp))
    have b3 := balloc (Below.refl w2.heap.size w2) (.cells #[.int .i64 p.n] 3)
    have R3 := hid (R2.out.below b3)
    have B3 := hid (bthen B2.out b3)
    have L2' := hid (L2.out.below b3)
    clear hl8 b3 R2 B2 L2 ho
    go_wp2_with fail
    generalize w2.alloc (.cells #[.int .i64 p.n] 3) = w3 at *
    refine (put_any _ _ 8 _ 1 _ 4 _ [p.n] _ L2'.out L3.out (by omega) (by omega)).mono ?_
    rintro e w4 ⟨v4, rfl, hown, hb⟩
    have R4 := hid (R3.out.below hb)
    have B4 := hid (bthen B3.out hb)
    rw [putE_4 _ _ HL8.out]
    clear hb R3 B3 L2' L3
    cases hn : okB 4 p.n
    · have HE := hid (HD2.out HO.out hn)
      rw [if_neg (by simp)]
      clear hown HD2 HD3
      go_wp2_with fail
      go_ret2
      exact ⟨⟨.slice none 0 0, by rw [HE.out]; rfl, by rw [datO_bad (by rw [HE.out]; decide)]; exact World.ownsRow_nil _ _ _ _⟩, B4.out⟩
    · rw [if_pos rfl]
      rw [putL_4 HL8.out hn] at hown
      have HE := hid (HD3.out HO.out hn)
      obtain ⟨a4, k4, rfl, _, _⟩ := owns_lies hown
      have O4 := hid hown
      have HXo : Hid (Oct (optL 17 p.o ++ digs 4 p.n)) := hid ((optL_oct _ _).app (digs_oct _ _))
      clear hown HD2 HD3
      generalize hX : optL 17 p.o ++ digs 4 p.n = X at *
      have HX := hid hX
      generalize hxn : X.length = xn at *
      have HXN := hid hxn
      clear hX hn hxn
      have c3 : w4.cell? ⟨w.heap.size, 3, none⟩ = some (.int .i64 p.h.nx) := by rw [R4.out.cell]; have := (Pv.rH HF.out R4.out).at 3 _ p.h.at3; rwa [R4.out.cell] at this
      have f3 := R4.out.frozen 3
      have R5 : Hid (Row (w4.setCell ⟨w.heap.size, 3, none⟩ (.int .i64 0)) w.heap.size 41 (p.setNx 0).cs) := by rw [Hid, ← Pv.put3 HF.out]; exact R4.out.set 3 _
      have B5 := hid (Below.setCell B4.out (p := ⟨w.heap.size, 3, none⟩) (Nat.le_refl _) (.int .i64 0))
      have T5 : Hid (Txt.ok (w4.setCell ⟨w.heap.size, 3, none⟩ (.int .i64 0)) ⟨a4, xn, k4, X⟩) := by
        have o5 := O4.out.kept (grownBy_setCell w4 w.heap.size 3 (.int .i64 0)) (.inr (own_row O4.out R4.out (by decide)))
        rw [← HXN.out] at o5 ⊢
        obtain ⟨a9, k9, e9, h9, _⟩ := owns_lies o5
        cases e9
        exact hid ⟨h9, HXo.out⟩
      have U5 : Hid (p.t.ok (w4.setCell ⟨w.heap.size, 3, none⟩ (.int .i64 0))) := hid (U0.out.below B5.out)
      clear O4 HXo HXN
      go_upto_region 8 with fail
      generalize w4.setCell ⟨w.heap.size, 3, none⟩ (.int .i64 0) = w5 at *
      clear c3 f3 R4 B4 c71' c72'
      have c72 : w5.cell? ⟨w.heap.size, 72, none⟩ = some (.slice p.t.a p.t.n p.t.cap) := Pv.rT HF.out (p := p.setNx 0) R5.out
      have HT := hid (texts_lit w5 [⟨a4, xn, k4, X⟩, p.t] (by intro t ht; simp at ht; rcases ht with rfl | rfl; exact T5.out; exact U5.out) (by simp))
      have B6 := hid (balloc B5.out (.cells #[Txt.v ⟨a4, xn, k4, X⟩, p.t.v] 30))
      go_wp2_with (refine ldHoH _ rfl rfl w.heap.size 0 rfl (p.h.setNx 0) (Hd.setNx_ok HF.out.1 0) (Pv.rH HF.out (p := p.setNx 0) R5.out) ?_)
      refine (hdrWith_any (p.h.setNx 0) (Hd.setNx_ok HF.out.1 0) _ 2 2 [⟨a4, xn, k4, X⟩, p.t] _ HT.out).mono ?_
      rintro e w7 ⟨v7, rfl, hown, hb⟩
      have hbb : bytes [⟨a4, xn, k4, X⟩, p.t] = datL p.p := by
        simp only [bytes, List.flatMap_cons, List.flatMap_nil, List.append_nil]
        rw [← HX.out, List.append_assoc]; rfl
      rw [hbb] at hown ⊢
      rw [← HE.out]
      have hL : withL (p.h.setNx 0) (datL p.p) = datO p.p := by rw [withL, ← HE.out]; rfl
      rw [hL] at hown
      have O7 := hid hown
      have B7 := hid (bthen B6.out hb)
      clear hown hb hbb hL
      go_wp2_with fail
      go_ret2
      exact ⟨⟨_, rfl, hid (own_mono O7.out B6.out.size)⟩, B7.out⟩
end Go.Proofs.YtbklpelikaapoaaGreatDoor
