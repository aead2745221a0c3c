/- header's read. · header's Decode where something is wrong. · header's Check. · A header laid into a new block. · header's Decode. · rivuletref05's Decode where something is wrong; pure facts. · header's written. · header's Passed. · header's Encode. · rivuletref05's Encode. · header's With. · There and back, pure. · rivuletlaw06's To and Of; hopopt's isRank, Check, checkOwn; ref's Right. · hopopt's Consistent; ref's Step and Consistent. · hopopt's Hop and Mark; ref's Hop; rivuletlaw06's known. · hopopt's flags: the closures, eachFlag, bits, flagged. -/
import Derived.Test.YtbklpelikaapoaaGreatDoorM9
import Derived.Test.YtbklpelikaapoaaGreatDoorM6
namespace Go.Proofs.YtbklpelikaapoaaGreatDoor
open Go.ChangeShapes Go.WideShapes Go.ChangeAt Go.RowKit
set_option linter.unusedVariables false
set_option linter.unusedSimpArgs false

theorem Hd.lenL {h : Hd} (k : h.ok) : h.cs.toList.length = 37 := by rw [Array.length_toList, Hd.size k]
set_option maxHeartbeats 1600000 in
theorem hdrRead_any (w : World) (c : Nat) (a : Option Addr) (len cap : Nat) (l : List Int) (hC : CurAt w c a len cap l 0 0) (h40 : 40 ≤ len) :
    Calls Tryz.prog 66 #[.pointer (some ⟨c, 0, none⟩)] w fun e w' => e = .returned (.agg (decH l).cs) ∧ CurAt w' c a len cap l 40 0 ∧ w.grownBy w' (some c) := by
  have hlen : 40 ≤ l.length := by rw [hC.lies.1]; exact h40
  have hoct := hC.oct
  have hcw : c < w.heap.size := hC.lt
  have HC0 := hid hC
  have hz := zhd
  obtain ⟨X, hX⟩ : ∃ X, X = numOf (l.take 4) := ⟨_, rfl⟩
  have hXb : 0 ≤ X ∧ X < 4294967296 := by rw [hX]; exact num_bd _ (fun x hx => hoct x (List.mem_of_mem_take hx)) 4 _ (by simp; omega) (by decide)
  have q1 := and8 X hXb.1 hXb.2
  have q2 := and20 X hXb.1 hXb.2
  obtain ⟨hX0, hX1⟩ := hXb
  obtain ⟨x2, hx2⟩ : ∃ x, x = numOf ((l.drop 4).take 2) := ⟨_, rfl⟩
  obtain ⟨x3, hx3⟩ : ∃ x, x = numOf ((l.drop 6).take 1) := ⟨_, rfl⟩
  obtain ⟨x4, hx4⟩ : ∃ x, x = numOf ((l.drop 7).take 1) := ⟨_, rfl⟩
  obtain ⟨F, hF⟩ : ∃ x, x = (l.drop 8).take 16 := ⟨_, rfl⟩
  obtain ⟨T, hT⟩ : ∃ x, x = (l.drop 24).take 16 := ⟨_, rfl⟩
  have NF : Hid (F.length = 16) := by rw [Hid, hF]; simp; omega
  have NT : Hid (T.length = 16) := by rw [Hid, hT]; simp; omega
  have aF : Adr F := ⟨NF.out, by rw [hF]; exact hoct.cut 8 16⟩
  have aT : Adr T := ⟨NT.out, by rw [hT]; exact hoct.cut 24 16⟩
  have HF := hid hF
  have HT := hid hT
  have HX := hid hX
  have HX2 := hid hx2
  have HX3 := hid hx3
  have HX4 := hid hx4
  obtain ⟨H0, hH0⟩ : ∃ H, H = (⟨X / 1048576 % 256, X % 1048576, 0, 0, 0, zeros, zeros⟩ : Hd) := ⟨_, rfl⟩
  have k0 : H0.ok := by rw [hH0]; exact ⟨adr_zeros, adr_zeros⟩
  obtain ⟨H1, hH1⟩ : ∃ H, H = H0.setLn x2 := ⟨_, rfl⟩
  have k1 : H1.ok := by rw [hH1]; exact k0
  obtain ⟨H2, hH2⟩ : ∃ H, H = H1.setNx x3 := ⟨_, rfl⟩
  have k2 : H2.ok := by rw [hH2]; exact k1
  obtain ⟨H3, hH3⟩ : ∃ H, H = H2.setHp x4 := ⟨_, rfl⟩
  have k3 : H3.ok := by rw [hH3]; exact k2
  have k4 : (H3.setF F).ok := Hd.setF_ok k3 aF
  have k5 : ((H3.setF F).setT T).ok := Hd.setT_ok k4 aT
  have HE : Hid ((H3.setF F).setT T = decH l) := by rw [Hid, hH3, hH2, hH1, hH0, hX, hx2, hx3, hx4, hF, hT]; rfl
  rw [← HE.out]
  have E0 := hid hH0
  have E1 := hid hH1
  have E2 := hid hH2
  have E3 := hid hH3
  have Z1 := hid (Row.new w 35 Hd.zero.cs)
  have b1 : Below w.heap.size w (w.alloc (.cells Hd.zero.cs 35)) := balloc (Below.refl _ _) _
  have C1 := hid (hC.below b1)
  have G1 := hid (grown_then (World.grownBy.refl w (some c)) b1)
  have hs1 : (w.alloc (.cells Hd.zero.cs 35)).heap.size = w.heap.size + 1 := by simp
  have S1 := hid hs1
  clear hC b1 hs1 hX hx2 hx3 hx4 hF hT hH0 hH1 hH2 hH3 hoct
  go_enter Tryz.func66, Tryz.ntmps66
  go_upto_region 1 with fail
  generalize w.alloc (.cells Hd.zero.cs 35) = w1 at *
  go_wp2_with fail
  refine (take_ok _ c a len cap 0 l 4 4 C1.out rfl (by decide) (by omega)).mono ?_
  rintro e w2 ⟨rfl, hc, hg, hz2⟩
  rw [List.drop_zero, ← HX.out]
  have C2 := hid hc
  have G2 := hid (G1.out.trans hg)
  have Z2 := hid (Z1.out.kept hg (by intro e; cases e; omega))
  rw [S1.out] at hz2
  obtain ⟨g4, hg4⟩ : ∃ g4, g4 = w2.heap.size := ⟨_, rfl⟩
  have hgw : w.heap.size < g4 := by omega
  have hcg : c < g4 := by omega
  have R3 : Hid (Row ((w2.alloc (.cells Hd.zero.cs 35)).setRow w2.heap.size H0.cs) g4 35 H0.cs) := by rw [hg4]; exact (Row.new w2 35 _).setRow _
  have b3 : Below w2.heap.size w2 ((w2.alloc (.cells Hd.zero.cs 35)).setRow w2.heap.size H0.cs) := below_setRow' (balloc (Below.refl _ _) _) (Nat.le_refl _) _
  have Z3 := hid (Z2.out.below b3)
  have C3 := hid (C2.out.below b3)
  have G3 := hid (grownBy_below G2.out b3)
  have HG4 := hid hg4
  clear hc hg hz2 b3 Z1 C1 G1 C2 G2 Z2 hg4
  have EH : Hid (Hd.cs ⟨X / 1048576 % 256, X % 1048576, 0, 0, 0, zeros, zeros⟩ = H0.cs) := by rw [Hid, E0.out]
  go_wp2_with (first
    | (refine bdHdb _ _ rfl rfl (X / 1048576 % 256) (X % 1048576) rfl rfl ?_; rw [EH.out])
    | (refine stHd _ _ rfl rfl w2.heap.size H0 k0 rfl rfl 35 Hd.zero Hd.zero_ok (Row.new w2 35 _) ?_; rw [← HG4.out]; rw [← HG4.out] at R3 Z3 C3 G3; generalize (w2.alloc (.cells Hd.zero.cs 35)).setRow g4 H0.cs = w3 at *))
  refine (take_ok _ c a len cap 4 l 2 2 C3.out rfl (by decide) (by omega)).mono ?_
  rintro e w4 ⟨rfl, hc, hg, hz4⟩
  rw [← HX2.out]
  have G4 := hid (G3.out.trans hg)
  have Z4 := hid (Z3.out.kept hg (by intro e; cases e; omega))
  have R4 := hid (R3.out.kept hg (by intro e; cases e; omega))
  have cl := (R4.out.cell 2).trans H0.at2
  have fr := R4.out.frozen 2
  have b5 : Below w.heap.size w4 (w4.setCell ⟨g4, 2, none⟩ (.int .i64 x2)) := bset 2 _ (Below.refl _ _) (by omega)
  have C5 := hid (CurAt.own HC0.out hc G4.out b5)
  have G5 := hid (grown_then G4.out b5)
  have Z5 := hid (Z4.out.other ⟨g4, 2, none⟩ (.int .i64 x2) (by simp; omega))
  have R5 : Hid (Row (w4.setCell ⟨g4, 2, none⟩ (.int .i64 x2)) g4 35 H1.cs) := by rw [Hid, E1.out, ← Hd.set2]; exact R4.out.set 2 _
  clear hc hg hz4 b5 C3 G3 Z3 R3 G4 Z4 R4
  go_wp2_with fail
  clear cl fr
  generalize w4.setCell ⟨g4, 2, none⟩ (.int .i64 x2) = w5 at *
  refine (take_ok _ c a len cap 6 l 1 1 C5.out rfl (by decide) (by omega)).mono ?_
  rintro e w6 ⟨rfl, hc, hg, hz6⟩
  rw [← HX3.out]
  have G6 := hid (G5.out.trans hg)
  have Z6 := hid (Z5.out.kept hg (by intro e; cases e; omega))
  have R6 := hid (R5.out.kept hg (by intro e; cases e; omega))
  have cl := (R6.out.cell 3).trans H1.at3
  have fr := R6.out.frozen 3
  have b7 : Below w.heap.size w6 (w6.setCell ⟨g4, 3, none⟩ (.int .i64 x3)) := bset 3 _ (Below.refl _ _) (by omega)
  have C7 := hid (CurAt.own HC0.out hc G6.out b7)
  have G7 := hid (grown_then G6.out b7)
  have Z7 := hid (Z6.out.other ⟨g4, 3, none⟩ (.int .i64 x3) (by simp; omega))
  have R7 : Hid (Row (w6.setCell ⟨g4, 3, none⟩ (.int .i64 x3)) g4 35 H2.cs) := by rw [Hid, E2.out, ← Hd.set3]; exact R6.out.set 3 _
  clear hc hg hz6 b7 C5 G5 Z5 R5 G6 Z6 R6
  go_wp2_with fail
  clear cl fr
  generalize w6.setCell ⟨g4, 3, none⟩ (.int .i64 x3) = w7 at *
  refine (take_ok _ c a len cap 7 l 1 1 C7.out rfl (by decide) (by omega)).mono ?_
  rintro e w8 ⟨rfl, hc, hg, hz8⟩
  rw [← HX4.out]
  have G8 := hid (G7.out.trans hg)
  have Z8 := hid (Z7.out.kept hg (by intro e; cases e; omega))
  have R8 := hid (R7.out.kept hg (by intro e; cases e; omega))
  have cl := (R8.out.cell 4).trans H2.at4
  have fr := R8.out.frozen 4
  have b9 : Below w.heap.size w8 (w8.setCell ⟨g4, 4, none⟩ (.int .i64 x4)) := bset 4 _ (Below.refl _ _) (by omega)
  have C9 := hid (CurAt.own HC0.out hc G8.out b9)
  have G9 := hid (grown_then G8.out b9)
  have Z9 := hid (Z8.out.other ⟨g4, 4, none⟩ (.int .i64 x4) (by simp; omega))
  have R9 : Hid (Row (w8.setCell ⟨g4, 4, none⟩ (.int .i64 x4)) g4 35 H3.cs) := by rw [Hid, E3.out, ← Hd.set4]; exact R8.out.set 4 _
  clear hc hg hz8 b9 C7 G7 Z7 R7 G8 Z8 R8
  go_wp2_with fail
  clear cl fr
  generalize w8.setCell ⟨g4, 4, none⟩ (.int .i64 x4) = w9 at *
  refine wp_region_held_drew (S := fun _ => True) (by kernel_rfl) ?_ (fun hHeld => ?_)
  · trivial
  refine wpAnyH_take (i := 0) (oi := _) (v := ?vp0) rfl (by kernel_rfl) (by kernel_rfl) (by kernel_rfl) (fun _ _ _ h => h) (Or.inl ⟨by rfl, ?hyp0⟩) (by assumption) ?restp0
  case hyp0 => (intro w hSw; (try dsimp only at hSw); go_split_ands; go_simp; try (with_reducible rfl))
  try simp only [List.getElem_toArray, List.getElem_cons_zero, List.getElem_cons_succ, Act.put, List.setIfInBounds_toArray, List.set_cons_zero, List.set_cons_succ]
  refine wpAnyH_take (i := 1) (oi := _) (v := ?vp1) rfl (by kernel_rfl) (by kernel_rfl) (by kernel_rfl) (fun _ _ _ h => h) (Or.inl ⟨by rfl, ?hyp1⟩) (by assumption) ?restp1
  case hyp1 => (intro w hSw; (try dsimp only at hSw); go_split_ands; go_simp; try (with_reducible rfl))
  try simp only [List.getElem_toArray, List.getElem_cons_zero, List.getElem_cons_succ, Act.put, List.setIfInBounds_toArray, List.set_cons_zero, List.set_cons_succ]
  refine wpAnyH_take (i := 2) (oi := _) (v := ?vp2) rfl (by kernel_rfl) (by kernel_rfl) (by kernel_rfl) (fun _ _ _ h => h) (Or.inl ⟨by rfl, ?hyp2⟩) (by assumption) ?restp2
  case hyp2 => (intro w hSw; (try dsimp only at hSw); go_split_ands; go_simp; try (with_reducible rfl))
  try simp only [List.getElem_toArray, List.getElem_cons_zero, List.getElem_cons_succ, Act.put, List.setIfInBounds_toArray, List.set_cons_zero, List.set_cons_succ]
  refine wpAnyH_ready (rs := [3]) (by kernel_rfl) (by simp) ?_
  refine AllReadyH.cons (o := _) rfl (fun K hK => ?_) AllReadyH.nil
  go_simp
  refine (bytes_ok _ c a len cap 8 l 16 16 (C9.out.drewN 1) rfl (by omega)).mono ?_
  rintro e w10 ⟨v10, rfl, ho, hc, hg⟩
  have hg' : w9.grownBy w10 (some c) := (grownBy_drewN w9 1 _).trans hg
  have C10 := hid hc
  have G10 := hid (G9.out.trans hg')
  have R10 := hid (R9.out.kept hg' (by intro e; cases e; omega))
  have Z10 := hid (Z9.out.kept hg' (by intro e; cases e; omega))
  rw [← HF.out] at ho
  have ho' : w10.ownsRow w9.drew.heap.size 5 1 v10 F.length (u8s F) := by rw [NF.out]; exact ho
  obtain ⟨a10, cap10, rfl, hl10, _⟩ := owns_lies ho'
  rw [NF.out] at hl10 ⊢
  have L10 := hid hl10
  clear ho ho' hc hg hg' hl10 C9 G9 R9 Z9
  go_wp2_with fail
  refine hK.out _ _ trivial (fun hHeld => ?_)
  clear hK K
  try simp only [List.getElem_toArray, List.getElem_cons_zero, List.getElem_cons_succ, Act.put, List.setIfInBounds_toArray, List.set_cons_zero, List.set_cons_succ]
  refine wpAnyH_ready (rs := [4]) (by kernel_rfl) (by simp) ?_
  refine AllReadyH.cons (o := _) rfl (fun K hK => ?_) AllReadyH.nil
  refine step_copy_splice rfl _ _ 30 30 rfl 5 Tryz.underlying30 (by kernel_rfl) _ _ _ _ _ _ rfl rfl g4 5 H3.cs.toList 35 (by simpa [Row] using R10.out) (u8s F) (by rw [u8s_len, NF.out]; rfl) (fun _ => ⟨rfl, (by obtain ⟨b, off, e, _⟩ := L10.out.2.2.2.2 0 (by omega); exact ⟨_, e, L10.out.cells _ e⟩)⟩) (by rw [u8s_len, NF.out, Hd.lenL k3]; omega) (ints_oneCell8 _ _) (w.heap.size + 1) w10 (Below.refl _ _) (by omega) ?_
  intro w11 N11 b11
  have R11 : Hid (Row w11 g4 35 (H3.setF F).cs) := by have := N11.out; rw [splice_F k3 NF.out] at this; simpa [Row, Hid] using this
  have Z11 : Hid (Row w11 w.heap.size 35 Hd.zero.cs) := (b11.block _ (by omega)).trans Z10.out
  have C11 := hid (CurAt.own HC0.out C10.out G10.out (b11.mono (by omega)))
  have G11 := hid (grown_then G10.out (b11.mono (by omega)))
  clear N11 b11 R10 C10 G10 L10 Z10
  refine hK.out _ _ trivial (fun hHeld => ?_)
  clear hK K
  try simp only [List.getElem_toArray, List.getElem_cons_zero, List.getElem_cons_succ, Act.put, List.setIfInBounds_toArray, List.set_cons_zero, List.set_cons_succ]
  refine wpAnyH_done (by kernel_rfl) ?_ _
  go_wp2_with fail
  refine wp_region_held_drew (S := fun _ => True) (by kernel_rfl) ?_ (fun hHeld => ?_)
  · trivial
  refine wpAnyH_take (i := 0) (oi := _) (v := ?vq0) rfl (by kernel_rfl) (by kernel_rfl) (by kernel_rfl) (fun _ _ _ h => h) (Or.inl ⟨by rfl, ?hyq0⟩) (by assumption) ?restq0
  case hyq0 => (intro w hSw; (try dsimp only at hSw); go_split_ands; go_simp; try (with_reducible rfl))
  try simp only [List.getElem_toArray, List.getElem_cons_zero, List.getElem_cons_succ, Act.put, List.setIfInBounds_toArray, List.set_cons_zero, List.set_cons_succ]
  refine wpAnyH_take (i := 1) (oi := _) (v := ?vq1) rfl (by kernel_rfl) (by kernel_rfl) (by kernel_rfl) (fun _ _ _ h => h) (Or.inl ⟨by rfl, ?hyq1⟩) (by assumption) ?restq1
  case hyq1 => (intro w hSw; (try dsimp only at hSw); go_split_ands; go_simp; try (with_reducible rfl))
  try simp only [List.getElem_toArray, List.getElem_cons_zero, List.getElem_cons_succ, Act.put, List.setIfInBounds_toArray, List.set_cons_zero, List.set_cons_succ]
  refine wpAnyH_take (i := 2) (oi := _) (v := ?vq2) rfl (by kernel_rfl) (by kernel_rfl) (by kernel_rfl) (fun _ _ _ h => h) (Or.inl ⟨by rfl, ?hyq2⟩) (by assumption) ?restq2
  case hyq2 => (intro w hSw; (try dsimp only at hSw); go_split_ands; go_simp; try (with_reducible rfl))
  try simp only [List.getElem_toArray, List.getElem_cons_zero, List.getElem_cons_succ, Act.put, List.setIfInBounds_toArray, List.set_cons_zero, List.set_cons_succ]
  refine wpAnyH_ready (rs := [3]) (by kernel_rfl) (by simp) ?_
  refine AllReadyH.cons (o := _) rfl (fun K hK => ?_) AllReadyH.nil
  go_simp
  refine (bytes_ok _ c a len cap 24 l 16 16 (C11.out.drewN 1) rfl (by omega)).mono ?_
  rintro e w12 ⟨v12, rfl, ho, hc, hg⟩
  have hg' : w11.grownBy w12 (some c) := (grownBy_drewN w11 1 _).trans hg
  have C12 := hid hc
  have G12 := hid (G11.out.trans hg')
  have R12 := hid (R11.out.kept hg' (by intro e; cases e; omega))
  have Z12 := hid (Z11.out.kept hg' (by intro e; cases e; omega))
  rw [← HT.out] at ho
  have ho' : w12.ownsRow w11.drew.heap.size 5 1 v12 T.length (u8s T) := by rw [NT.out]; exact ho
  obtain ⟨a12, cap12, rfl, hl12, _⟩ := owns_lies ho'
  rw [NT.out] at hl12 ⊢
  have L12 := hid hl12
  clear ho ho' hc hg hg' hl12 C11 G11 R11 Z11
  go_wp2_with fail
  refine hK.out _ _ trivial (fun hHeld => ?_)
  clear hK K
  try simp only [List.getElem_toArray, List.getElem_cons_zero, List.getElem_cons_succ, Act.put, List.setIfInBounds_toArray, List.set_cons_zero, List.set_cons_succ]
  refine wpAnyH_ready (rs := [4]) (by kernel_rfl) (by simp) ?_
  refine AllReadyH.cons (o := _) rfl (fun K hK => ?_) AllReadyH.nil
  refine step_copy_splice rfl _ _ 30 30 rfl 5 Tryz.underlying30 (by kernel_rfl) _ _ _ _ _ _ rfl rfl g4 21 (H3.setF F).cs.toList 35 (by simpa [Row] using R12.out) (u8s T) (by rw [u8s_len, NT.out]; rfl) (fun _ => ⟨rfl, (by obtain ⟨b, off, e, _⟩ := L12.out.2.2.2.2 0 (by omega); exact ⟨_, e, L12.out.cells _ e⟩)⟩) (by rw [u8s_len, NT.out, Hd.lenL k4]; omega) (ints_oneCell8 _ _) (w.heap.size + 1) w12 (Below.refl _ _) (by omega) ?_
  intro w13 N13 b13
  have R13 : Hid (Row w13 g4 35 ((H3.setF F).setT T).cs) := by have := N13.out; rw [splice_T k4 NT.out] at this; simpa [Row, Hid] using this
  have Z13 : Hid (Row w13 w.heap.size 35 Hd.zero.cs) := (b13.block _ (by omega)).trans Z12.out
  have C13 := hid (CurAt.own HC0.out C12.out G12.out (b13.mono (by omega)))
  have G13 := hid (grown_then G12.out (b13.mono (by omega)))
  clear N13 b13 R12 C12 G12 L12 Z12
  refine hK.out _ _ trivial (fun hHeld => ?_)
  clear hK K
  try simp only [List.getElem_toArray, List.getElem_cons_zero, List.getElem_cons_succ, Act.put, List.setIfInBounds_toArray, List.set_cons_zero, List.set_cons_succ]
  refine wpAnyH_done (by kernel_rfl) ?_ _
  clear HE
  generalize hH5 : (H3.setF F).setT T = H5 at *
  have HH5 := hid hH5
  have R14 := hid (Z13.out.setRow H5.cs)
  have b14 : Below w.heap.size w13 (w13.setRow w.heap.size H5.cs) := below_setRow' (Below.refl _ _) (Nat.le_refl _) _
  have C14 := hid (CurAt.own HC0.out C13.out G13.out b14)
  have G14 := hid (grown_then G13.out b14)
  clear b14 hH5
  go_wp2_with (first
    | (refine ldHd _ rfl rfl g4 rfl H5 k5 35 R13.out ?_)
    | (refine stHd _ _ rfl rfl w.heap.size H5 k5 rfl rfl 35 Hd.zero Hd.zero_ok Z13.out ?_))
  exact bodyPost_ret (resHd rfl _ _ w.heap.size 35 H5 k5 rfl R14.out) rfl ⟨by rw [HH5.out], C14.out, G14.out⟩
end Go.Proofs.YtbklpelikaapoaaGreatDoor

namespace Go.Proofs.YtbklpelikaapoaaGreatDoor
open Go.ChangeShapes Go.WideShapes Go.ChangeAt Go.RowKit
set_option linter.unusedVariables false
set_option linter.unusedSimpArgs false

/-- What is wrong with bytes. -/
def decE (l : List Int) : Int :=
  if l.length < 40 then 4 else if l.getD 0 0 / 16 ≠ 6 then 3 else if 1280 < l.length then 2
  else if ((l.length - 40 : Nat) : Int) < (decH l).ln then 4 else if (decH l).ln < ((l.length - 40 : Nat) : Int) then 3 else 0
/-- The header of bytes, and what is behind it. -/
def decV (l : List Int) : Hd := if decE l = 0 then decH l else Hd.zero
def decR (l : List Int) : List Int := if decE l = 0 then l.drop 40 else []
theorem decE_zero {l : List Int} (h : decE l = 0) : 40 ≤ l.length ∧ l.getD 0 0 / 16 = 6 ∧ l.length ≤ 1280 ∧ (decH l).ln = ((l.length - 40 : Nat) : Int) := by
  unfold decE at h
  repeat' split at h
  all_goals (try omega)
  all_goals (refine ⟨by omega, by rename_i h1 _ _ _; simpa using h1, by omega, by omega⟩)
theorem hdrDec_bad (a : Option Addr) (len cap : Nat) (l : List Int) (w : World) (e : Int) (hE : decE l = e) (he : e ≠ 0)
    (hc : Calls Tryz.prog 42 #[.slice a len cap] w fun r w' => r = .returned (.tuple #[.agg Hd.zero.cs, .slice none 0 0, .int .i64 e]) ∧ Below w.heap.size w w') :
    Calls Tryz.prog 42 #[.slice a len cap] w fun r w' => ∃ v, r = .returned (.tuple #[.agg (decV l).cs, v, .int .i64 (decE l)]) ∧ w'.ownsRow w.heap.size 5 1 v (decR l).length (u8s (decR l)) ∧ Below w.heap.size w w' := by
  have h1 : decV l = Hd.zero := by rw [decV, hE, if_neg he]
  have h2 : decR l = [] := by rw [decR, hE, if_neg he]
  refine hc.mono ?_
  rintro r w' ⟨rfl, hb⟩
  rw [h1, h2, hE]
  exact ⟨_, rfl, World.ownsRow_nil _ _ _ _, hb⟩
set_option maxHeartbeats 800000 in
theorem hdrDec_short (a : Option Addr) (len cap : Nat) (l : List Int) (w : World) (h : Lies .u8 w a len cap l) (hs : len < 40) :
    Calls Tryz.prog 42 #[.slice a len cap] w fun r w' => r = .returned (.tuple #[.agg Hd.zero.cs, .slice none 0 0, .int .i64 4]) ∧ Below w.heap.size w w' := by
  have hz := zhd
  have Z1 := hid (Row.new w 35 Hd.zero.cs)
  have B1 := hid (balloc (Below.refl w.heap.size w) (.cells Hd.zero.cs 35))
  have hs' : (len : Int) < 40 := by omega
  clear h
  go_enter Tryz.func42, Tryz.ntmps42
  go_upto_region 1 with fail
  generalize w.alloc (.cells Hd.zero.cs 35) = w1 at *
  go_wp2_with (first
    | (refine bdHdz rfl rfl ?_)
    | (refine stHd _ _ rfl rfl w.heap.size Hd.zero Hd.zero_ok rfl rfl 35 Hd.zero Hd.zero_ok Z1.out ?_))
  exact bodyPost_ret (resHdf rfl _ _ w.heap.size 35 Hd.zero Hd.zero_ok (.slice none 0 0) (.int .i64 4) rfl rfl rfl (Z1.out.setRow _)) rfl ⟨rfl, below_setRow' B1.out (Nat.le_refl _) _⟩
set_option maxHeartbeats 800000 in
theorem hdrDec_form (a : Option Addr) (len cap : Nat) (l : List Int) (w : World) (h : Lies .u8 w a len cap l) (ho : Oct l) (hs : 40 ≤ len) (hf : l.getD 0 0 / 16 ≠ 6) :
    Calls Tryz.prog 42 #[.slice a len cap] w fun r w' => r = .returned (.tuple #[.agg Hd.zero.cs, .slice none 0 0, .int .i64 3]) ∧ Below w.heap.size w w' := by
  have hz := zhd
  have Z1 := hid (Row.new w 35 Hd.zero.cs)
  have b1 := balloc (Below.refl w.heap.size w) (.cells Hd.zero.cs 35)
  have B1 := hid b1
  obtain ⟨b, off, rfl, hcell⟩ := (h.below b1).2.2.2.2 0 (by omega)
  rw [Nat.add_zero] at hcell
  have hx := ho.at 0 (by rw [h.1]; omega)
  have hcm : cap ≤ maxLen := h.2.2.1
  have hlc := h.2.1
  unfold maxLen at hcm
  generalize l.getD 0 0 = x at *
  have hs' : decide ((len : Int) < 40) = false := by simp; omega
  have hf' : (x / 16 != 6) = true := by rw [bne_iff_ne]; exact hf
  clear h b1 hf
  go_enter Tryz.func42, Tryz.ntmps42
  go_upto_region 1 with fail
  generalize w.alloc (.cells Hd.zero.cs 35) = w1 at *
  go_wp2_with (first
    | (refine bdHdz rfl rfl ?_)
    | (refine stHd _ _ rfl rfl w.heap.size Hd.zero Hd.zero_ok rfl rfl 35 Hd.zero Hd.zero_ok Z1.out ?_))
  exact bodyPost_ret (resHdf rfl _ _ w.heap.size 35 Hd.zero Hd.zero_ok (.slice none 0 0) (.int .i64 3) rfl rfl rfl (Z1.out.setRow _)) rfl ⟨rfl, below_setRow' B1.out (Nat.le_refl _) _⟩
set_option maxHeartbeats 800000 in
theorem hdrDec_long (a : Option Addr) (len cap : Nat) (l : List Int) (w : World) (h : Lies .u8 w a len cap l) (ho : Oct l) (hs : 1280 < len) (hf : l.getD 0 0 / 16 = 6) :
    Calls Tryz.prog 42 #[.slice a len cap] w fun r w' => r = .returned (.tuple #[.agg Hd.zero.cs, .slice none 0 0, .int .i64 2]) ∧ Below w.heap.size w w' := by
  have hz := zhd
  have Z1 := hid (Row.new w 35 Hd.zero.cs)
  have b1 := balloc (Below.refl w.heap.size w) (.cells Hd.zero.cs 35)
  have B1 := hid b1
  obtain ⟨b, off, rfl, hcell⟩ := (h.below b1).2.2.2.2 0 (by omega)
  rw [Nat.add_zero] at hcell
  have hx := ho.at 0 (by rw [h.1]; omega)
  have hcm : cap ≤ maxLen := h.2.2.1
  have hlc := h.2.1
  unfold maxLen at hcm
  generalize l.getD 0 0 = x at *
  have hs' : decide ((len : Int) < 40) = false := by simp; omega
  have hf' : (x / 16 != 6) = false := by simp [hf]
  have hl' : (1280 : Int) < len := by omega
  clear h b1 hf
  go_enter Tryz.func42, Tryz.ntmps42
  go_upto_region 1 with fail
  generalize w.alloc (.cells Hd.zero.cs 35) = w1 at *
  go_wp2_with (first
    | (refine bdHdz rfl rfl ?_)
    | (refine stHd _ _ rfl rfl w.heap.size Hd.zero Hd.zero_ok rfl rfl 35 Hd.zero Hd.zero_ok Z1.out ?_))
  exact bodyPost_ret (resHdf rfl _ _ w.heap.size 35 Hd.zero Hd.zero_ok (.slice none 0 0) (.int .i64 2) rfl rfl rfl (Z1.out.setRow _)) rfl ⟨rfl, below_setRow' B1.out (Nat.le_refl _) _⟩
end Go.Proofs.YtbklpelikaapoaaGreatDoor

namespace Go.Proofs.YtbklpelikaapoaaGreatDoor
open Go.ChangeShapes Go.WideShapes Go.ChangeAt Go.RowKit
set_option linter.unusedVariables false
set_option linter.unusedSimpArgs false

/-- Are all numbers of a header as they must be? -/
def okH (h : Hd) : Bool := decide ((0 ≤ h.c ∧ h.c ≤ 255) ∧ (0 ≤ h.fl ∧ h.fl ≤ 1048575) ∧ (0 ≤ h.ln ∧ h.ln ≤ 65535) ∧ (0 ≤ h.nx ∧ h.nx ≤ 255) ∧ (0 ≤ h.hp ∧ h.hp ≤ 255))
def chkV (h : Hd) : Int := if okH h = true then 0 else 1
theorem okH_yes {h : Hd} (k : okH h = true) : (0 ≤ h.c ∧ h.c ≤ 255) ∧ (0 ≤ h.fl ∧ h.fl ≤ 1048575) ∧ (0 ≤ h.ln ∧ h.ln ≤ 65535) ∧ (0 ≤ h.nx ∧ h.nx ≤ 255) ∧ (0 ≤ h.hp ∧ h.hp ≤ 255) := by simpa [okH] using k
theorem hdrFits1 (a b c : Int) : fitsB 1 [a, b, c] = decide ((0 ≤ a ∧ a ≤ 255) ∧ (0 ≤ b ∧ b ≤ 255) ∧ (0 ≤ c ∧ c ≤ 255)) := by
  rw [Bool.eq_iff_iff]; simp [fitsB, okB, top, sizeB]; omega
theorem hdrFits2 (a : Int) : fitsB 2 [a] = decide (0 ≤ a ∧ a ≤ 65535) := by
  rw [Bool.eq_iff_iff]; simp [fitsB, okB, top, sizeB]; omega
theorem okH_eq (h : Hd) : okH h = (fitsB 1 [h.c, h.nx, h.hp] && (fitsB 2 [h.ln] && (decide (0 ≤ h.fl) && decide (h.fl ≤ 1048575)))) := by
  rw [hdrFits1, hdrFits2, Bool.eq_iff_iff]; simp [okH]; omega
set_option maxHeartbeats 800000 in
theorem hdrCheck_any (h : Hd) (k : h.ok) (w : World) :
    Calls Tryz.prog 89 #[.agg h.cs] w fun e w' => e = .returned (.int .i64 (chkV h)) ∧ Below w.heap.size w w' := by
  have R0 : Row (w.alloc (.cells h.cs 35)) w.heap.size 35 h.cs := Row.new w 35 _
  have B0 := hid (balloc (Below.refl w.heap.size w) (.cells h.cs 35))
  have HR0 := hid R0
  have HE := hid (okH_eq h)
  have HV : Hid (chkV h = if okH h = true then 0 else 1) := rfl
  clear R0
  generalize chkV h = cv at *
  generalize okH h = ob at *
  go_enter Tryz.func89, Tryz.ntmps89
  go_upto_region 1 with fail
  generalize hw1 : w.alloc (.cells h.cs 35) = w1 at *
  have c0 := (HR0.out.cell 0).trans h.at0
  have c1 := (HR0.out.cell 1).trans h.at1
  have c2 := (HR0.out.cell 2).trans h.at2
  have c3 := (HR0.out.cell 3).trans h.at3
  have c4 := (HR0.out.cell 4).trans h.at4
  clear hw1
  have L1 := hid (lies_new .i64 w1 #[.int .i64 h.c, .int .i64 h.nx, .int .i64 h.hp] 3 [h.c, h.nx, h.hp] rfl (by simp))
  have HR1 := hid (HR0.out.alloc (.cells #[.int .i64 h.c, .int .i64 h.nx, .int .i64 h.hp] 3))
  have B1 := hid (balloc B0.out (.cells #[.int .i64 h.c, .int .i64 h.nx, .int .i64 h.hp] 3))
  go_wp2_with fail
  generalize w1.alloc (.cells #[.int .i64 h.c, .int .i64 h.nx, .int .i64 h.hp] 3) = w2 at *
  refine (fits_any 1 _ 3 3 [h.c, h.nx, h.hp] _ L1.out).mono ?_
  rintro e w2 ⟨rfl, rfl⟩
  have HF1 : Hid (fitsB 1 [h.c, h.nx, h.hp] = fitsB 1 [h.c, h.nx, h.hp]) := rfl
  generalize fitsB 1 [h.c, h.nx, h.hp] = b1 at *
  cases b1
  · go_wp2_with fail
    go_ret
    exact ⟨ret_int (by rw [HV.out, HE.out]; rfl), B1.out⟩
  · have d1 := (HR1.out.cell 1).trans h.at1
    have d2 := (HR1.out.cell 2).trans h.at2
    clear c0 c1 c2 c3 c4 HF1
    have L2 := hid (lies_new .i64 w2 #[.int .i64 h.ln] 3 [h.ln] rfl (by simp))
    have HR2 := hid (HR1.out.alloc (.cells #[.int .i64 h.ln] 3))
    have B2 := hid (balloc B1.out (.cells #[.int .i64 h.ln] 3))
    go_wp2_with fail
    generalize w2.alloc (.cells #[.int .i64 h.ln] 3) = w4 at *
    refine (fits_any 2 _ 1 1 [h.ln] _ L2.out).mono ?_
    rintro e w4 ⟨rfl, rfl⟩
    generalize fitsB 2 [h.ln] = b2 at *
    have d3 := (HR2.out.cell 1).trans h.at1
    clear d1 d2
    cases b2
    · go_wp2_with fail
      go_ret
      exact ⟨ret_int (by rw [HV.out, HE.out]; rfl), B2.out⟩
    · generalize h.fl = fl at *
      by_cases h0 : fl < 0
      · go_wp2_with fail
        go_ret
        exact ⟨ret_int (by rw [HV.out, HE.out]; simp; omega), B2.out⟩
      · have e0 : decide (fl < 0) = false := by simp; omega
        by_cases h1 : 1048575 < fl
        · go_wp2_with fail
          go_ret
          exact ⟨ret_int (by rw [HV.out, HE.out]; simp; omega), B2.out⟩
        · have e1 : decide (1048575 < fl) = false := by simp; omega
          go_wp2_with fail
          go_ret
          exact ⟨ret_int (by rw [HV.out, HE.out]; simp; omega), B2.out⟩
end Go.Proofs.YtbklpelikaapoaaGreatDoor

namespace Go.Proofs.YtbklpelikaapoaaGreatDoor
open Go.ChangeShapes Go.WideShapes Go.ChangeAt Go.RowKit
set_option linter.unusedVariables false
set_option linter.unusedSimpArgs false

/-- A header is laid into a block that was just made. -/
theorem layHd_new (w : World) (h : Hd) : Row ((w.alloc (.cells Hd.zero.cs 35)).setRow w.heap.size h.cs) w.heap.size 35 h.cs := (Row.new w 35 _).setRow _
theorem layHd_below (w : World) (t : TypeId) (h : Hd) : Below w.heap.size w ((w.alloc (.cells Hd.zero.cs t)).setRow w.heap.size h.cs) := below_setRow' (balloc (Below.refl _ _) _) (Nat.le_refl _) _
end Go.Proofs.YtbklpelikaapoaaGreatDoor

namespace Go.Proofs.YtbklpelikaapoaaGreatDoor
open Go.ChangeShapes Go.WideShapes Go.ChangeAt Go.RowKit
set_option linter.unusedVariables false
set_option linter.unusedSimpArgs false

theorem decH_ln {l : List Int} (ho : Oct l) (hl : 40 ≤ l.length) : 0 ≤ (decH l).ln ∧ (decH l).ln < 65536 :=
  num_bd _ (ho.cut 4 2) 2 65536 (by simp; omega) (by decide)
/-- Behind the checks: what Bytes reads, and what Close tells. -/
def hdrLastN (n : Int) (left : Nat) : Nat := rdN 1 n left 0
def hdrLastE (n : Int) (left : Nat) : Int := closeV (left - hdrLastN n left) (rdE 1 n left 0)
theorem hdrLast_eq {n : Int} {left : Nat} (hn : 0 ≤ n) : hdrLastE n left = (if (left : Int) < n then 4 else if n < (left : Int) then 3 else 0) ∧ (n = left → hdrLastN n left = left) := by
  have hs : sizeB 1 = true := by decide
  have hE : rdE 1 n left 0 = if (left : Int) < n then 4 else 0 := by
    unfold rdE
    rw [if_pos rfl, if_neg (by rw [hs]; simp; omega), Int.one_mul]
  have hN : hdrLastN n left = if (left : Int) < n then 0 else n.toNat := by
    unfold hdrLastN rdN
    rw [hE, Int.one_mul]
    split <;> simp
  refine ⟨?_, fun h => by rw [hN, if_neg (by omega)]; omega⟩
  unfold hdrLastE
  rw [hN, hE]
  unfold closeV
  by_cases h1 : (left : Int) < n
  · simp [h1]
  · by_cases h2 : n < (left : Int)
    · simp [h1, h2]; omega
    · simp [h1, h2]; omega
set_option maxHeartbeats 1600000 in
theorem hdrDec_rest (a : Option Addr) (len cap : Nat) (l : List Int) (w : World) (h : Lies .u8 w a len cap l) (ho : Oct l) (h40 : 40 ≤ len) (hf : l.getD 0 0 / 16 = 6) (hs : len ≤ 1280) :
    Calls Tryz.prog 42 #[.slice a len cap] w fun r w' =>
      (hdrLastE (decH l).ln (len - 40) ≠ 0 → r = .returned (.tuple #[.agg Hd.zero.cs, .slice none 0 0, .int .i64 (hdrLastE (decH l).ln (len - 40))]) ∧ Below w.heap.size w w') ∧
      (hdrLastE (decH l).ln (len - 40) = 0 → ∃ v, r = .returned (.tuple #[.agg (decH l).cs, v, .int .i64 0]) ∧ w'.ownsRow w.heap.size 5 1 v (hdrLastN (decH l).ln (len - 40)) (u8s ((l.drop 40).take (hdrLastN (decH l).ln (len - 40)))) ∧ Below w.heap.size w w') := by
  have hz := zhd
  have Z1 := hid (Row.new w 35 Hd.zero.cs)
  have b1 := balloc (Below.refl w.heap.size w) (.cells Hd.zero.cs 35)
  have B1 := hid b1
  have S1 : Hid ((w.alloc (.cells Hd.zero.cs 35)).heap.size = w.heap.size + 1) := by simp [Hid]
  have L1 := hid (h.below b1)
  obtain ⟨b, off, rfl, hcell⟩ := (h.below b1).2.2.2.2 0 (by omega)
  rw [Nat.add_zero] at hcell
  have hx := ho.at 0 (by rw [h.1]; omega)
  have hcm : cap ≤ maxLen := h.2.2.1
  have hlc := h.2.1
  unfold maxLen at hcm
  have hln := decH_ln ho (by rw [h.1]; exact h40)
  have k := decH_ok ho (by rw [h.1]; exact h40)
  generalize l.getD 0 0 = x at *
  have hs' : decide ((len : Int) < 40) = false := by simp; omega
  have hf' : (x / 16 != 6) = false := by simp [hf]
  have hl' : decide ((1280 : Int) < len) = false := by simp; omega
  have HO := hid ho
  have HB : Hid (∀ w c a cap, CurAt w c a len cap l 40 0 → Calls Tryz.prog 67 #[.pointer (some ⟨c, 0, none⟩), .int .i64 (decH l).ln] w fun e w' => ∃ v, e = .returned v ∧ w'.ownsRow w.heap.size 5 1 v (hdrLastN (decH l).ln (len - 40)) (u8s ((l.drop 40).take (hdrLastN (decH l).ln (len - 40)))) ∧ CurAt w' c a len cap l (40 + hdrLastN (decH l).ln (len - 40)) (rdE 1 (decH l).ln (len - 40) 0) ∧ w.grownBy w' (some c)) :=
    fun w c a cap hc => bytes_any w c a len cap 40 l 0 (decH l).ln hc
  have HL : Hid (hdrLastE (decH l).ln (len - 40) = closeV (len - (40 + hdrLastN (decH l).ln (len - 40))) (rdE 1 (decH l).ln (len - 40) 0)) := by
    rw [Hid, hdrLastE, Nat.sub_sub]
  have HR : Hid (∀ w c a cap, CurAt w c a len cap l 0 0 → Calls Tryz.prog 66 #[.pointer (some ⟨c, 0, none⟩)] w fun e w' => e = .returned (.agg (decH l).cs) ∧ CurAt w' c a len cap l 40 0 ∧ w.grownBy w' (some c)) :=
    fun w c a cap hc => hdrRead_any w c a len cap l hc h40
  generalize hdrLastE (decH l).ln (len - 40) = E at *
  generalize hdrLastN (decH l).ln (len - 40) = M at *
  generalize rdE 1 (decH l).ln (len - 40) 0 = er at *
  generalize decH l = H at *
  clear h b1 hf ho
  go_enter Tryz.func42, Tryz.ntmps42
  go_upto_region 1 with fail
  generalize w.alloc (.cells Hd.zero.cs 35) = w1 at *
  go_wp2_with fail
  refine (over_any _ len cap l _ L1.out HO.out (by omega)).mono ?_
  rintro e w2 ⟨c, a2, cap2, rfl, hC, hb, hc1, hc2⟩
  rw [S1.out] at hc1
  have C2 := hid hC
  have Z2 := hid (Z1.out.below hb)
  have B2 := hid (bthen B1.out hb)
  clear hC hb Z1 B1 L1 hcell
  go_wp2_with fail
  refine (HR.out _ c a2 cap2 C2.out).mono ?_
  rintro e w3 ⟨rfl, hC, hg⟩
  have C3 := hid hC
  have Z3 := hid (Z2.out.kept hg (by intro e; cases e; omega))
  have B3 := hid (bgrown B2.out hg (by omega))
  have hc3 : c < w3.heap.size := hC.lt
  have b4 := layHd_below w3 35 H
  have C4 := hid (C3.out.below b4)
  have Z4 := hid (Z3.out.below b4)
  have B4 := hid (bthen B3.out b4)
  have X4 := hid (layHd_new w3 H)
  have hw3 : w.heap.size < w3.heap.size := Z3.out.lt
  have q2 := (X4.out.cell 2).trans H.at2
  clear hC hg b4 C2 Z2 B2 C3 Z3 B3
  go_wp2_with (refine stHd _ _ rfl rfl w3.heap.size H k rfl rfl 35 Hd.zero Hd.zero_ok (Row.new w3 35 _) ?_; generalize (w3.alloc (.cells Hd.zero.cs 35)).setRow w3.heap.size H.cs = w4 at *)
  refine (HB.out _ c a2 cap2 C4.out).mono ?_
  rintro e w5 ⟨v5, rfl, hown, hC, hg⟩
  have C5 := hid hC
  have Z5 := hid (Z4.out.kept hg (by intro e; cases e; omega))
  have X5 := hid (X4.out.kept hg (by intro e; cases e; omega))
  have B5 := hid (bgrown B4.out hg (by omega))
  have O5 := hid hown
  have hw4 : w.heap.size < w4.heap.size := Z4.out.lt
  clear hown hC hg C4 Z4 B4 X4 q2
  go_wp2_with fail
  refine (close_any _ c a2 len cap2 _ l _ C5.out).mono ?_
  rintro e w6 ⟨rfl, q, rfl⟩
  rw [← HL.out]
  by_cases hE : E = 0
  · subst hE
    have O6 : Hid (((w5.drewN q).setRow w.heap.size H.cs).ownsRow w.heap.size 5 1 v5 M (u8s ((l.drop 40).take M))) := own_mono (own_setRow (show (w5.drewN q).ownsRow _ _ _ _ _ _ from O5.out) hw4) (by omega)
    go_wp2_with (first
      | (refine ldHd _ rfl rfl w3.heap.size rfl H k 35 (X5.out.drewN q) ?_)
      | (refine stHd _ _ rfl rfl w.heap.size H k rfl rfl 35 Hd.zero Hd.zero_ok (Z5.out.drewN q) ?_))
    refine bodyPost_ret (resHdf rfl _ _ w.heap.size 35 H k v5 (.int .i64 0) rfl rfl rfl ((Z5.out.drewN q).setRow _)) rfl ⟨v5, rfl, O6.out, below_setRow' (bdrew B5.out q) (Nat.le_refl _) _⟩
  · have hE' : (E != 0) = true := by rw [bne_iff_ne]; exact hE
    go_wp2_with (first
      | (refine bdHdz rfl rfl ?_)
      | (refine stHd _ _ rfl rfl w.heap.size Hd.zero Hd.zero_ok rfl rfl 35 Hd.zero Hd.zero_ok (Z5.out.drewN q) ?_))
    refine bodyPost_ret (resHdf rfl _ _ w.heap.size 35 Hd.zero Hd.zero_ok (.slice none 0 0) (.int .i64 E) rfl rfl rfl ((Z5.out.drewN q).setRow _)) rfl ⟨fun _ => ⟨rfl, below_setRow' (bdrew B5.out q) (Nat.le_refl _) _⟩, fun h => absurd h hE⟩
theorem hdrDecode_any (a : Option Addr) (len cap : Nat) (l : List Int) (w : World) (h : Lies .u8 w a len cap l) (ho : Oct l) :
    Calls Tryz.prog 42 #[.slice a len cap] w fun r w' => ∃ v, r = .returned (.tuple #[.agg (decV l).cs, v, .int .i64 (decE l)]) ∧ w'.ownsRow w.heap.size 5 1 v (decR l).length (u8s (decR l)) ∧ Below w.heap.size w w' := by
  have hn := h.1
  by_cases h1 : len < 40
  · exact hdrDec_bad a len cap l w 4 (by unfold decE; rw [if_pos (by omega)]) (by omega) (hdrDec_short a len cap l w h h1)
  · by_cases h2 : l.getD 0 0 / 16 = 6
    · by_cases h3 : 1280 < len
      · exact hdrDec_bad a len cap l w 2 (by unfold decE; rw [if_neg (by omega), if_neg (by simpa using h2), if_pos (by omega)]) (by omega) (hdrDec_long a len cap l w h ho h3 h2)
      · have hl := decH_ln ho (by omega : 40 ≤ l.length)
        obtain ⟨hE, hN⟩ := hdrLast_eq (left := len - 40) hl.1
        have hd : decE l = hdrLastE (decH l).ln (len - 40) := by
          unfold decE
          rw [if_neg (by omega), if_neg (by simpa using h2), if_neg (by omega), hE, hn]
        refine (hdrDec_rest a len cap l w h ho (by omega) h2 (by omega)).mono ?_
        rintro r w' ⟨q1, q2⟩
        rw [← hd] at q1 q2
        by_cases hz : decE l = 0
        · obtain ⟨v, rfl, hown, hb⟩ := q2 hz
          have hm : hdrLastN (decH l).ln (len - 40) = len - 40 := hN (by have := (decE_zero hz).2.2.2; rw [hn] at this; exact this)
          have h4 : decV l = decH l := by rw [decV, if_pos hz]
          have h5 : decR l = l.drop 40 := by rw [decR, if_pos hz]
          rw [hm] at hown
          refine ⟨v, by rw [h4, hz], ?_, hb⟩
          rw [h5]
          rw [List.take_of_length_le (by simp; omega)] at hown
          rw [show (l.drop 40).length = len - 40 by simp; omega]
          exact hown
        · obtain ⟨rfl, hb⟩ := q1 hz
          have h4 : decV l = Hd.zero := by rw [decV, if_neg hz]
          have h5 : decR l = [] := by rw [decR, if_neg hz]
          rw [h4, h5]
          exact ⟨_, rfl, World.ownsRow_nil _ _ _ _, hb⟩
    · exact hdrDec_bad a len cap l w 3 (by unfold decE; rw [if_neg (by omega), if_pos h2]) (by omega) (hdrDec_form a len cap l w h ho (by omega) h2)
end Go.Proofs.YtbklpelikaapoaaGreatDoor

namespace Go.Proofs.YtbklpelikaapoaaGreatDoor
open Go.ChangeShapes Go.WideShapes Go.ChangeAt Go.RowKit
set_option linter.unusedVariables false
set_option linter.unusedSimpArgs false

theorem Hd.setA (h : Hd) (x : Int) : h.cs.setIfInBounds 0 (.int .i64 x) = Hd.cs ⟨x, h.fl, h.ln, h.nx, h.hp, h.f, h.t⟩ := by
  apply Array.ext'; simp [Hd.cs]
theorem hdrTake4 {l : List Int} (h : 4 ≤ l.length) : l.take 4 = [l.getD 0 0, l.getD 1 0, l.getD 2 0, l.getD 3 0] := by
  match l, h with
  | a :: b :: c :: d :: _, _ => rfl
theorem hdrCut2 {l : List Int} (n : Nat) (h : n + 2 ≤ l.length) : (l.drop n).take 2 = [l.getD n 0, l.getD (n + 1) 0] := by
  apply List.ext_getElem (by simp; omega)
  intro i h1 h2
  simp at h2
  match i, h2 with
  | 0, _ => simp [show n < l.length by omega]
  | 1, _ => simp [show n + 1 < l.length by omega]
theorem hdrCut1 {l : List Int} (n : Nat) (h : n + 1 ≤ l.length) : (l.drop n).take 1 = [l.getD n 0] := by
  apply List.ext_getElem (by simp; omega)
  intro i h1 h2
  simp at h2
  subst h2
  simp [show n < l.length by omega]
theorem decH_eq {l : List Int} (ho : Oct l) (h : 40 ≤ l.length) :
    decH l = ⟨l.getD 0 0 % 16 * 16 + l.getD 1 0 / 16, l.getD 1 0 % 16 * 65536 + l.getD 2 0 * 256 + l.getD 3 0, l.getD 4 0 * 256 + l.getD 5 0, l.getD 6 0, l.getD 7 0, (l.drop 8).take 16, (l.drop 24).take 16⟩ := by
  have h0 := ho.at 0 (by omega); have h1 := ho.at 1 (by omega); have h2 := ho.at 2 (by omega); have h3 := ho.at 3 (by omega)
  unfold decH
  rw [hdrTake4 (by omega), hdrCut2 4 (by omega), hdrCut1 6 (by omega), hdrCut1 7 (by omega), show l.getD (4 + 1) 0 = l.getD 5 0 from rfl]
  generalize l.getD 0 0 = a at *
  generalize l.getD 1 0 = b at *
  generalize l.getD 2 0 = c at *
  generalize l.getD 3 0 = d at *
  simp only [numOf, List.foldl_cons, List.foldl_nil]
  congr 1 <;> omega
end Go.Proofs.YtbklpelikaapoaaGreatDoor

namespace Go.Proofs.YtbklpelikaapoaaGreatDoor
open Go.ChangeShapes Go.WideShapes Go.ChangeAt Go.RowKit
set_option linter.unusedVariables false
set_option linter.unusedSimpArgs false

/-- The first 32 bits. -/
def hdrWord (h : Hd) : Int := 1610612736 + h.c * 1048576 + h.fl
/-- The first eight bytes. -/
def hd8 (h : Hd) : List Int := bytesOf 4 [hdrWord h] ++ bytesOf 2 [h.ln] ++ bytesOf 1 [h.nx, h.hp]
/-- A header's bytes. -/
def hdrL (h : Hd) : List Int := hd8 h ++ (h.f ++ h.t)
theorem hd8_len (h : Hd) : (hd8 h).length = 8 := by
  rw [hd8, List.length_append, List.length_append, bytesOf_length 4 _ rfl, bytesOf_length 2 _ rfl, bytesOf_length 1 _ rfl]; rfl
theorem hdrL_len {h : Hd} (k : h.ok) : (hdrL h).length = 40 := by
  rw [hdrL, List.length_append, List.length_append, hd8_len, k.1.1, k.2.1]
theorem hdrL_oct {h : Hd} (k : h.ok) : Oct (hdrL h) := (((bytesOf_oct _ _).app (bytesOf_oct _ _)).app (bytesOf_oct _ _)).app (k.1.2.app k.2.2)
theorem or28 (c : Int) (h0 : 0 ≤ c) (h1 : c ≤ 255) : bits .or .i64 1610612736 (c * 1048576) = 1610612736 + c * 1048576 :=
  bits_join .i64 62 (by decide) wraps_i64 28 1610612736 (c * 1048576) (by omega) (by omega) (by omega) (by omega) (by omega) (by omega)
theorem or20 (c fl : Int) (h0 : 0 ≤ c) (h1 : c ≤ 255) (h2 : 0 ≤ fl) (h3 : fl ≤ 1048575) : bits .or .i64 (1610612736 + c * 1048576) fl = 1610612736 + c * 1048576 + fl :=
  bits_join .i64 62 (by decide) wraps_i64 20 (1610612736 + c * 1048576) fl (by omega) (by omega) (by omega) (by omega) (by omega) (by omega)
theorem hdrFits4 {x : Int} (h0 : 0 ≤ x) (h1 : x < 4294967296) : fitsB 4 [x] = true := by simp [fitsB, okB, top, sizeB]; omega
theorem hdrFits2' {x : Int} (h0 : 0 ≤ x) (h1 : x ≤ 65535) : fitsB 2 [x] = true := by rw [hdrFits2]; simp; omega
theorem hdrFits1' {x y : Int} (h0 : 0 ≤ x ∧ x ≤ 255) (h1 : 0 ≤ y ∧ y ≤ 255) : fitsB 1 [x, y] = true := by simp [fitsB, okB, top, sizeB]; omega
set_option maxHeartbeats 800000 in
theorem hdrWritten_any (h : Hd) (k : h.ok) (ho : okH h = true) (w : World) :
    Calls Tryz.prog 90 #[.agg h.cs] w fun e w' => ∃ v, e = .returned v ∧ w'.ownsRow w.heap.size 5 1 v 40 (u8s (hdrL h)) ∧ Below w.heap.size w w' := by
  obtain ⟨⟨a0, a1⟩, ⟨b0, b1⟩, ⟨c0, c1⟩, ⟨d0, d1⟩, e0, e1⟩ := okH_yes ho
  have HR0 := hid (Row.new w 35 h.cs)
  have B0 := hid (balloc (Below.refl w.heap.size w) (.cells h.cs 35))
  have q1 := or28 h.c a0 a1
  have q2 := or20 h.c h.fl a0 a1 b0 b1
  have HX : Hid (hdrWord h = 1610612736 + h.c * 1048576 + h.fl) := rfl
  have x0 : 0 ≤ hdrWord h := by rw [HX.out]; omega
  have x1 : hdrWord h < 4294967296 := by rw [HX.out]; omega
  rw [← HX.out] at q2
  have HL : Hid (hdrL h = (bytesOf 4 [hdrWord h] ++ bytesOf 2 [h.ln] ++ bytesOf 1 [h.nx, h.hp]) ++ (h.f ++ h.t)) := rfl
  generalize hdrL h = HH at *
  generalize hdrWord h = X at *
  clear HX ho
  go_enter Tryz.func90, Tryz.ntmps90
  go_upto_region 1 with fail
  generalize (w.alloc (.cells h.cs 35)) = w1 at *
  have p0 := (HR0.out.cell 0).trans h.at0
  have p1 := (HR0.out.cell 1).trans h.at1
  go_wp2_with fail
  have L1 := hid (lies_new .i64 w1 #[.int .i64 X] 3 [X] rfl (by simp))
  have R1 := hid (HR0.out.alloc (.cells #[.int .i64 X] 3))
  have B1 := hid (balloc B0.out (.cells #[.int .i64 X] 3))
  generalize w1.alloc (.cells #[.int .i64 X] 3) = w2 at *
  refine (put_ok none _ 0 0 1 1 4 [] [X] _ (Lies.nil _ _) L1.out (hdrFits4 x0 x1) (by simp)).mono ?_
  rintro e w3 ⟨v3, rfl, hown, hb⟩
  rw [List.nil_append] at hown
  have n3 : (bytesOf 4 [X]).length = 4 := bytesOf_length 4 _ rfl
  obtain ⟨A, hA⟩ : ∃ A, A = bytesOf 4 [X] := ⟨_, rfl⟩
  rw [← hA] at hown n3
  have HA := hid hA
  obtain ⟨a3, cap3, rfl, hl3, _⟩ := owns_lies hown
  rw [n3] at hl3 ⊢
  have R3 := hid (R1.out.below hb)
  have B3 := hid (bthen B1.out hb)
  have L3 := hid hl3
  have m2 := (R3.out.cell 2).trans h.at2
  clear hown hb hl3 hA p0 p1 q1 q2 L1 R1 B1 HR0 B0
  go_wp2_with fail
  have I3 := hid (lies_new .i64 w3 #[.int .i64 h.ln] 3 [h.ln] rfl (by simp))
  have R4 := hid (R3.out.alloc (.cells #[.int .i64 h.ln] 3))
  have B4 := hid (balloc B3.out (.cells #[.int .i64 h.ln] 3))
  have L4 := hid (L3.out.below (balloc (Below.refl _ _) (.cells #[.int .i64 h.ln] 3)))
  clear m2 R3 B3 L3
  generalize w3.alloc (.cells #[.int .i64 h.ln] 3) = w4 at *
  refine (put_ok _ _ _ _ 1 1 2 A [h.ln] _ L4.out I3.out (hdrFits2' c0 c1) (by decide)).mono ?_
  rintro e w5 ⟨v5, rfl, hown, hb⟩
  have n5 : (A ++ bytesOf 2 [h.ln]).length = 6 := by rw [List.length_append, n3, bytesOf_length 2 _ rfl]; rfl
  obtain ⟨A2, hA2⟩ : ∃ A2, A2 = A ++ bytesOf 2 [h.ln] := ⟨_, rfl⟩
  rw [← hA2] at hown n5
  have HA2 := hid hA2
  obtain ⟨a5, cap5, rfl, hl5, _⟩ := owns_lies hown
  rw [n5] at hl5 ⊢
  have R5 := hid (R4.out.below hb)
  have B5 := hid (bthen B4.out hb)
  have L5 := hid hl5
  have m3 := (R5.out.cell 3).trans h.at3
  have m4 := (R5.out.cell 4).trans h.at4
  clear hown hb hl5 hA2 I3 R4 B4 L4
  go_wp2_with fail
  have I5 := hid (lies_new .i64 w5 #[.int .i64 h.nx, .int .i64 h.hp] 3 [h.nx, h.hp] rfl (by simp))
  have R6 := hid (R5.out.alloc (.cells #[.int .i64 h.nx, .int .i64 h.hp] 3))
  have B6 := hid (balloc B5.out (.cells #[.int .i64 h.nx, .int .i64 h.hp] 3))
  have L6 := hid (L5.out.below (balloc (Below.refl _ _) (.cells #[.int .i64 h.nx, .int .i64 h.hp] 3)))
  clear m3 m4 R5 B5 L5
  generalize w5.alloc (.cells #[.int .i64 h.nx, .int .i64 h.hp] 3) = w6 at *
  refine (put_ok _ _ _ _ 2 2 1 A2 [h.nx, h.hp] _ L6.out I5.out (hdrFits1' ⟨d0, d1⟩ ⟨e0, e1⟩) (by decide)).mono ?_
  rintro e w7 ⟨v7, rfl, hown, hb⟩
  have n7 : (A2 ++ bytesOf 1 [h.nx, h.hp]).length = 8 := by rw [List.length_append, n5, bytesOf_length 1 _ rfl]; rfl
  obtain ⟨A3, hA3⟩ : ∃ A3, A3 = A2 ++ bytesOf 1 [h.nx, h.hp] := ⟨_, rfl⟩
  rw [← hA3] at hown n7
  have HA3 := hid hA3
  obtain ⟨a7, cap7, rfl, hl7, _⟩ := owns_lies hown
  rw [n7] at hl7 ⊢
  have R7 := hid (R6.out.below hb)
  have B7 := hid (bthen B6.out hb)
  have L7 := hid hl7
  clear hown hb hl7 hA3 I5 R6 B6 L6
  obtain ⟨i0, hi, hz0, hz1, hz2⟩ := info_parts info5
  go_wp2_with (at_make; refine wpList_make_full _ rfl _ _ 30 rfl w.heap.size 5 i0 (.int .u8 0) 1 Tryz.underlying30 hi hz0 hz1 .i64 .i64 _ _ 40 rfl rfl rfl rfl ?b1 ?b2 ?b3 ?_)
  case b1 => rw [hz2]; omega
  case b2 => unfold maxLen; omega
  case b3 => exact B7.out.size
  intro w8 hown8 hg8
  obtain ⟨cur, hcz, hrow⟩ : ∃ cur : List Value, cur.length = 40 ∧ Row w8 w7.heap.size 5 cur.toArray := by
    rcases hown8.2 with ⟨h1, h2⟩ | ⟨g, cap, cur, h1, h2, h3, h4, h5, h6, h7⟩
    · omega
    · simp at h1
      obtain ⟨h1, rfl⟩ := h1
      subst h1
      exact ⟨cur.toList, by simpa using h6, by simpa [Row] using h3⟩
  have b8 : Below w7.heap.size w7 w8 := Below.grown (Below.refl _ _) hg8 (Nat.le_refl _) (fun k hk => by cases hk)
  have hlt : w.heap.size < w7.heap.size := R7.out.lt
  have N8 := hid hrow
  have L8 := hid (L7.out.below b8)
  clear hown8 hg8 hrow
  obtain ⟨Y, hY⟩ : ∃ Y, Y = u8s A3 := ⟨_, rfl⟩
  have HY := hid hY
  have NY : Hid (Y.length = 8) := by rw [Hid, hY]; simp [u8s, n7]
  have HC := hid hcz
  clear hY hcz
  go_wp2_with (refine wpList_copy_splice rfl _ _ 30 30 rfl 5 Tryz.underlying30 (by kernel_rfl) _ _ _ _ _ _ rfl rfl w7.heap.size 0 cur 5 N8.out Y ?k1 ?k2 ?k3 ?k4 w7.heap.size w7 b8 (Nat.le_refl _) ?_)
  case k1 => rw [NY.out]; rfl
  case k2 =>
    intro _
    obtain ⟨b, off, e, _⟩ := L8.out.2.2.2.2 0 (by omega)
    exact ⟨_, e, by rw [HY.out]; exact L8.out.cells _ e⟩
  case k3 => rw [NY.out, HC.out]; omega
  case k4 => rw [HY.out]; exact ints_oneCell8 _ _
  intro w9 N9 b9
  have B9 := hid b9
  have N9l : Hid ((splice cur 0 Y).length = 40) := by rw [Hid, length_splice _ _ _ (by rw [NY.out, HC.out]; omega)]; exact HC.out
  have R9 := hid (R7.out.below b9)
  have F9 := hid (R9.out.partF k)
  obtain ⟨F, hF⟩ : ∃ F, F = u8s h.f := ⟨_, rfl⟩
  have HF := hid hF
  have NF : Hid (F.length = 16) := by rw [Hid, hF]; simp [u8s, k.1.1]
  obtain ⟨T, hT⟩ : ∃ T, T = u8s h.t := ⟨_, rfl⟩
  have HT := hid hT
  have NT : Hid (T.length = 16) := by rw [Hid, hT]; simp [u8s, k.2.1]
  clear N8 L8 b8 b9 hF hT
  go_wp2_with fail
  go_region_law (refine step_copy_splice rfl _ _ 30 30 rfl 5 Tryz.underlying30 (by kernel_rfl) _ _ _ _ _ _ rfl rfl w7.heap.size 8 (splice cur 0 Y) 5 N9.out F (by rw [NF.out]; rfl) (fun _ => ⟨rfl, _, rfl, by rw [HF.out]; exact (part_lies k.1 F9.out).cells _ rfl⟩) (by rw [NF.out, N9l.out]; omega) (by rw [HF.out]; exact ints_oneCell8 _ _) w7.heap.size w7 (bdrew B9.out 1) (Nat.le_refl _) ?_; intro w10 N10 b10)
  have B10 := hid b10
  have N10l : Hid ((splice (splice cur 0 Y) 8 F).length = 40) := by rw [Hid, length_splice _ _ _ (by rw [NF.out, N9l.out]; omega)]; exact N9l.out
  have R10 := hid (R7.out.below b10)
  have T10 := hid (R10.out.partT k)
  clear b10 N9 B9 R9 F9
  go_wp2_with fail
  go_region_law (refine step_copy_splice rfl _ _ 30 30 rfl 5 Tryz.underlying30 (by kernel_rfl) _ _ _ _ _ _ rfl rfl w7.heap.size 24 (splice (splice cur 0 Y) 8 F) 5 N10.out T (by rw [NT.out]; rfl) (fun _ => ⟨rfl, _, rfl, by rw [HT.out]; exact (part_lies k.2 T10.out).cells _ rfl⟩) (by rw [NT.out, N10l.out]; omega) (by rw [HT.out]; exact ints_oneCell8 _ _) w7.heap.size w7 (bdrew B10.out 1) (Nat.le_refl _) ?_; intro w11 N11 b11)
  have B11 := hid b11
  clear b11 N10 B10 R10 T10
  go_wp2_with fail
  go_ret
  refine ⟨_, rfl, ?_, bthen B7.out B11.out⟩
  have e := splice_splice_splice cur Y F T 8 16 NY.out NF.out (by rw [NT.out, HC.out])
  have hn : (u8s HH).length = 40 := by
    rw [HL.out, ← HA.out, ← HA2.out, ← HA3.out]; simp [u8s, n7, k.1.1, k.2.1]
  have e2 : splice (splice (splice cur 0 Y) 8 F) (8 + 16) T = u8s HH := by
    rw [e, HY.out, HF.out, HT.out, HL.out, ← HA.out, ← HA2.out, ← HA3.out]; simp [u8s]
  refine ⟨by omega, .inr ⟨w7.heap.size, 40, _, rfl, B7.out.size, N11.out, Nat.le_refl _, by decide, ?_, ?_⟩⟩
  · rw [e2]; simpa using hn
  · rw [e2]; simp; exact List.take_of_length_le (by omega)
end Go.Proofs.YtbklpelikaapoaaGreatDoor

namespace Go.Proofs.YtbklpelikaapoaaGreatDoor
open Go.ChangeShapes Go.WideShapes Go.ChangeAt Go.RowKit
set_option linter.unusedVariables false
set_option linter.unusedSimpArgs false

end Go.Proofs.YtbklpelikaapoaaGreatDoor

namespace Go.Proofs.YtbklpelikaapoaaGreatDoor
open Go.ChangeShapes Go.WideShapes Go.ChangeAt Go.RowKit
set_option linter.unusedVariables false
set_option linter.unusedSimpArgs false

end Go.Proofs.YtbklpelikaapoaaGreatDoor

namespace Go.Proofs.YtbklpelikaapoaaGreatDoor
open Go.ChangeShapes Go.WideShapes Go.ChangeAt Go.RowKit
set_option linter.unusedVariables false
set_option linter.unusedSimpArgs false

def ref8 (h : Hd) : List Int := [96 + h.c / 16, h.c % 16 * 16 + h.fl / 65536, h.fl / 256 % 256, h.fl % 256, h.ln / 256, h.ln % 256, h.nx, h.hp]
theorem hd8_ref {h : Hd} (k : okH h = true) : hd8 h = ref8 h := by
  obtain ⟨⟨a0, a1⟩, ⟨b0, b1⟩, ⟨c0, c1⟩, ⟨d0, d1⟩, e0, e1⟩ := okH_yes k
  simp [hd8, ref8, bytesOf, digs, hdrWord]
  omega
end Go.Proofs.YtbklpelikaapoaaGreatDoor

namespace Go.Proofs.YtbklpelikaapoaaGreatDoor
open Go.ChangeShapes Go.WideShapes Go.ChangeAt Go.RowKit
set_option linter.unusedVariables false
set_option linter.unusedSimpArgs false

/-- What is wrong with a header and bytes behind it. -/
def withE (h : Hd) (B : List Int) : Int := if okH (h.setLn 0) = true then (if 1240 < B.length then 2 else 0) else 1
/-- The datagram. -/
def withL (h : Hd) (B : List Int) : List Int := if withE h B = 0 then hdrL (h.setLn B.length) ++ B else []
theorem okH_ln {h : Hd} (k : okH (h.setLn 0) = true) {x : Int} (h0 : 0 ≤ x) (h1 : x ≤ 65535) : okH (h.setLn x) = true := by
  obtain ⟨a, b, _, d, e⟩ := okH_yes k
  exact decide_eq_true ⟨a, b, ⟨h0, h1⟩, d, e⟩
theorem setLn_setLn (h : Hd) (x y : Int) : (h.setLn x).setLn y = h.setLn y := rfl
set_option maxHeartbeats 1600000 in
theorem hdrWith_any (h : Hd) (k : h.ok) (a : Option Addr) (n cap : Nat) (L : List Txt) (w : World) (hL : Texts w a n cap L) :
    Calls Tryz.prog 54 #[.agg h.cs, .slice a n cap] w fun e w' => ∃ v, e = .returned (.tuple #[v, .int .i64 (withE h (bytes L))]) ∧ w'.ownsRow w.heap.size 5 1 v (withL h (bytes L)).length (u8s (withL h (bytes L))) ∧ Below w.heap.size w w' := by
  have HL := hid hL
  have hcm : n ≤ maxLen := Nat.le_trans hL.2.1 hL.2.2.1
  unfold maxLen at hcm
  have R0 := Row.new w 35 h.cs
  have HR0 := hid R0
  have B0 := hid (balloc (Below.refl w.heap.size w) (.cells h.cs 35))
  have cl := (R0.cell 2).trans h.at2
  have fr := R0.frozen 2
  have k0 := Hd.setLn_ok k 0
  have R1 : Hid (Row ((w.alloc (.cells h.cs 35)).setCell ⟨w.heap.size, 2, none⟩ (.int .i64 0)) w.heap.size 35 (h.setLn 0).cs) := by rw [Hid, ← Hd.set2]; exact R0.set 2 _
  have B1 := hid (Below.setCell B0.out (p := ⟨w.heap.size, 2, none⟩) (Nat.le_refl _) (.int .i64 0))
  clear R0 hL
  cases ho : okH (h.setLn 0)
  · have hE : withE h (bytes L) = 1 := by simp [withE, ho]
    have hW : withL h (bytes L) = [] := by simp [withL, hE]
    have hV : chkV (h.setLn 0) = 1 := by simp [chkV, ho]
    have HV := hid hV
    rw [hE, hW]
    clear hE hW hV ho
    generalize h.setLn 0 = h0 at *
    go_enter Tryz.func54, Tryz.ntmps54
    go_upto_region 1 with fail
    generalize w.alloc (.cells h.cs 35) = w1 at *
    go_upto_region 2 with fail
    generalize w1.setCell ⟨w.heap.size, 2, none⟩ (.int .i64 0) = w2 at *
    clear cl fr
    go_wp2_with (refine ldHd _ rfl rfl w.heap.size rfl h0 k0 35 R1.out ?_)
    refine (hdrCheck_any h0 k0 _).mono ?_
    rintro e w3 ⟨rfl, hb3⟩
    rw [HV.out]
    go_wp2_with fail
    go_ret2
    exact ⟨_, rfl, World.ownsRow_nil _ _ _ _, bthen B1.out hb3⟩
  · have HO := hid ho
    have hV : chkV (h.setLn 0) = 0 := by simp [chkV, ho]
    have HV := hid hV
    have HE2 : Hid (1240 < (bytes L).length → withE h (bytes L) = 2 ∧ withL h (bytes L) = []) := by
      intro h1
      have : withE h (bytes L) = 2 := by simp [withE, ho, h1]
      exact ⟨this, by simp [withL, this]⟩
    have HE0 : Hid ((bytes L).length ≤ 1240 → withE h (bytes L) = 0 ∧ withL h (bytes L) = hdrL (h.setLn (bytes L).length) ++ bytes L) := by
      intro h1
      have : withE h (bytes L) = 0 := by simp [withE, ho]; omega
      exact ⟨this, by simp [withL, this]⟩
    generalize withE h (bytes L) = E at *
    generalize withL h (bytes L) = WL at *
    clear hV ho
    obtain ⟨i0, hi, hz0, hz1, hz2⟩ := info_parts info5
    obtain ⟨h0, hh0⟩ : ∃ h0, h0 = h.setLn 0 := ⟨_, rfl⟩
    rw [← hh0] at k0 R1 HV
    have HH0 := hid hh0
    clear hh0
    go_enter Tryz.func54, Tryz.ntmps54
    go_upto_region 1 with fail
    generalize w.alloc (.cells h.cs 35) = w1 at *
    go_upto_region 2 with fail
    generalize w1.setCell ⟨w.heap.size, 2, none⟩ (.int .i64 0) = w2 at *
    clear cl fr HR0 B0
    go_wp2_with (refine ldHd _ rfl rfl w.heap.size rfl h0 k0 35 R1.out ?_)
    refine (hdrCheck_any h0 k0 _).mono ?_
    rintro e w3 ⟨rfl, hb3⟩
    rw [HV.out]
    have R3 := hid (R1.out.below hb3)
    have B3 := hid (bthen B1.out hb3)
    clear hb3 R1 B1
    go_wp2_with fail
    go_loopw [20] (fun i wr => ∃ j : Nat, j ≤ n ∧ i = .int .i64 j ∧ (bytes (L.take j)).length ≤ 1240 ∧ Hid (Row wr w.heap.size 35 (h.setLn ((bytes (L.take j)).length : Nat)).cs) ∧ Hid (Below w.heap.size w wr)) (fun i _ => n - (intOf i).toNat)
    case atStart => exact ⟨0, Nat.zero_le _, rfl, by simp [bytes], by rw [Hid]; have := R3.out; rw [HH0.out] at this; simpa [bytes] using this, B3⟩
    case round =>
      obtain ⟨j, hj, rfl, hm, hR, hB⟩ := hrel
      by_cases hlt : j < n
      · obtain ⟨b, off, rfl, hcell⟩ := (HL.out.below hB.out).2.2.2.1 j hlt
        have hkl : j < L.length := by rw [HL.out.1]; exact hlt
        have hok := HL.out.2.2.2.2 (L.getD j Txt.none) (by simp [hkl])
        have HB : Hid ((bytes (L.take (j + 1))).length = (bytes (L.take j)).length + (L.getD j Txt.none).n) := by rw [Hid, bytes_snoc L j hkl, List.length_append, hok.1.1]
        have hm1 := bytes_take_le L (j + 1)
        have htc := hok.1.2.1
        have htm := hok.1.2.2.1
        unfold maxLen at htm
        have HM1 := hid hm1
        clear hok hkl hm1
        generalize L.getD j Txt.none = t at *
        obtain ⟨ta, tn, tc, tl⟩ := t
        simp only [Txt.v] at hcell HB htc htm
        generalize hmm : (bytes (L.take j)).length = m at *
        have q2 := (hR.out.cell 2).trans (Hd.at2 _)
        have f2 := hR.out.frozen 2
        have q2' : wr.cell? ⟨w.heap.size, 2, none⟩ = some (.int .i64 m) := q2
        clear q2 hmm
        by_cases hbig : 1240 - (m : Int) < tn
        · obtain ⟨e1, e2⟩ := HE2.out (by have := HM1.out; rw [HB.out] at this; omega)
          have H1 := hid e1
          have H2 := hid e2
          clear e1 e2
          go_wp2_with fail
          go_ret2
          exact ⟨_, by rw [H1.out]; rfl, by rw [H2.out]; exact World.ownsRow_nil _ _ _ _, hB.out⟩
        · have hbig' : decide (1240 - (m : Int) < tn) = false := by simp; omega
          have R4 : Hid (Row (wr.setCell ⟨w.heap.size, 2, none⟩ (.int .i64 ((m : Int) + tn))) w.heap.size 35 (h.setLn ((m : Int) + tn)).cs) := by
            rw [Hid, ← setLn_setLn h (m : Nat) ((m : Int) + tn), ← Hd.set2]; exact hR.out.set 2 _
          have B4 := hid (Below.setCell hB.out (p := ⟨w.heap.size, 2, none⟩) (Nat.le_refl _) (.int .i64 ((m : Int) + tn)))
          go_wp2_with fail
          go_roundw
          case rel => exact ⟨j + 1, by omega, by go_num, by rw [HB.out]; omega, by rw [Hid, HB.out, Int.natCast_add]; exact R4.out, B4⟩
          case measure => simp [intOf]; omega
      · obtain rfl : j = n := by omega
        have hd : decide ((j : Int) < (j : Int)) = false := by simp
        have hT : L.take j = L := List.take_of_length_le (by rw [HL.out.1]; exact Nat.le_refl _)
        rw [hT] at hm hR
        obtain ⟨e1, e2⟩ := HE0.out hm
        have H1 := hid e1
        have H2 := hid e2
        have HM : Hid (∀ i, (bytes (L.take i)).length ≤ 1240) := fun i => Nat.le_trans (bytes_take_le L i) hm
        have ho' := hid (okH_ln HO.out (x := ((bytes L).length : Nat)) (by omega) (by omega))
        have k5 := Hd.setLn_ok k ((bytes L).length : Nat)
        have n5 := hid (hdrL_len k5)
        have hwr := hid (fun w' => hdrWritten_any (h.setLn ((bytes L).length : Nat)) k5 ho'.out w')
        generalize hdrL (h.setLn ((bytes L).length : Nat)) = HH at *
        generalize h.setLn ((bytes L).length : Nat) = h5 at *
        clear e1 e2 hT HE2 HE0 R3 B3
        go_wp2_with (refine ldHd _ rfl rfl w.heap.size rfl h5 k5 35 hR.out ?_)
        refine (hwr.out _).mono ?_
        rintro e w5 ⟨v5, rfl, hown, hb5⟩
        have O5 := hid (own_mono hown hB.out.size)
        have B5 := hid (bthen hB.out hb5)
        clear hown hb5 hwr
        go_wp2_with fail
        go_loopw [9, 41] (fun v i wr => ∃ i' : Nat, i' ≤ j ∧ i = .int .i64 i' ∧ Hid (wr.ownsRow w.heap.size 5 1 v (HH ++ bytes (L.take i')).length (u8s (HH ++ bytes (L.take i')))) ∧ Hid (Below w.heap.size w wr)) (fun _ i _ => j - (intOf i).toNat)
        case atStart => exact ⟨0, Nat.zero_le _, rfl, by rw [Hid]; simpa [bytes, n5.out] using O5.out, B5⟩
        case round =>
          obtain ⟨i, hi', rfl, hO, hB6⟩ := hrel
          by_cases hlt : i < j
          · obtain ⟨b, off, rfl, hcell⟩ := (HL.out.below hB6.out).2.2.2.1 i hlt
            have hkl : i < L.length := by rw [HL.out.1]; exact hlt
            have hok := HL.out.2.2.2.2 (L.getD i Txt.none) (by simp [hkl])
            have HJ := hid (bytes_snoc L i hkl)
            have hm1 := HM.out (i + 1)
            rw [HJ.out, List.length_append, hok.1.1] at hm1
            clear hkl
            generalize L.getD i Txt.none = t at *
            obtain ⟨ta, tn, tc, tl⟩ := t
            have HT := hid hok.1
            simp only [Txt.v] at hcell HJ hm1 HT
            clear hok
            have hn6 := n5.out
            generalize bytes (L.take i) = M at *
            have hMn : (HH ++ M).length = 40 + M.length := by rw [List.length_append, hn6]
            generalize hX : HH ++ M = X at *
            have HX := hid hX
            generalize hXn : X.length = xn at *
            have HXn := hid hXn
            clear hX hXn hn6
            go_wp2_with (at_builtin; refine wpList_append_own_any _ rfl _ _ 30 rfl w.heap.size 5 i0 (.int .u8 0) 1 1 Tryz.underlying30 hi hz0 hz1 hz2 rfl (by decide) _ _ _ rfl hO.out ta tn tc (u8s tl) rfl ?c1 ?c2 ?c3 (ints_oneCell8 _ _) ?c4 ?c5 ?c6 ?_)
            case c1 => simp [u8s]; exact HT.out.1
            case c2 => exact HT.out.isNil
            case c3 => exact (HT.out.below hB6.out).cells
            case c4 => unfold maxLen; omega
            case c5 => omega
            case c6 => exact hB6.out.size
            intro v7 w7 hown7 hb7
            have O7 := hid hown7
            have B7 := hid (hB6.out.trans hb7)
            clear hown7 hb7
            go_wp2_with fail
            go_roundw
            case rel => exact ⟨i + 1, by omega, by go_num, by rw [Hid, HJ.out, ← List.append_assoc, HX.out]; exact ownsRow_u8 O7.out (by rw [List.length_append, HXn.out, HT.out.1]; omega) (by simp [u8s]), B7.out⟩
            case measure => simp [intOf]; omega
          · obtain rfl : i = j := by omega
            have O8 := hO.out
            rw [List.take_of_length_le (by rw [HL.out.1]; exact Nat.le_refl _)] at O8
            have HO8 := hid O8
            clear O8
            go_wp2_with fail
            go_ret2
            exact ⟨_, by rw [H1.out]; rfl, by rw [H2.out]; exact HO8.out, hB6.out⟩
end Go.Proofs.YtbklpelikaapoaaGreatDoor

namespace Go.Proofs.YtbklpelikaapoaaGreatDoor
open Go.ChangeShapes Go.WideShapes Go.ChangeAt Go.RowKit
set_option linter.unusedVariables false
set_option linter.unusedSimpArgs false

/-- A datagram of a header and bytes is decoded as it was. -/
theorem hdr_get {h : Hd} (k : h.ok) (hy : okH h = true) (B : List Int) (hB : Oct B) : decH (hdrL h ++ B) = h ∧ (hdrL h ++ B).getD 0 0 / 16 = 6 := by
  have ho : Oct (hdrL h ++ B) := (hdrL_oct k).app hB
  have hl : 40 ≤ (hdrL h ++ B).length := by rw [List.length_append, hdrL_len k]; omega
  obtain ⟨⟨a0, a1⟩, ⟨b0, b1⟩, ⟨c0, c1⟩, ⟨d0, d1⟩, e0, e1⟩ := okH_yes hy
  have hf : h.f.length = 16 := k.1.1
  have ht : h.t.length = 16 := k.2.1
  have e : hdrL h ++ B = ref8 h ++ (h.f ++ (h.t ++ B)) := by rw [hdrL, hd8_ref hy]; simp
  have g : ∀ i x, (ref8 h)[i]? = some x → (hdrL h ++ B).getD i 0 = x := by
    intro i x hx
    have hi : i < (ref8 h).length := (List.getElem?_eq_some_iff.1 hx).1
    rw [e, List.getD_eq_getElem?_getD, List.getElem?_append_left hi, hx]; rfl
  have g0 := g 0 _ rfl
  have g1 := g 1 _ rfl
  have g2 := g 2 _ rfl
  have g3 := g 3 _ rfl
  have g4 := g 4 _ rfl
  have g5 := g 5 _ rfl
  have g6 := g 6 _ rfl
  have g7 := g 7 _ rfl
  have d8 : (hdrL h ++ B).drop 8 = h.f ++ (h.t ++ B) := by rw [e]; exact List.drop_left' rfl
  have d24 : (hdrL h ++ B).drop 24 = h.t ++ B := by
    have : (hdrL h ++ B).drop 24 = ((hdrL h ++ B).drop 8).drop 16 := by rw [List.drop_drop]
    rw [this, d8]; exact List.drop_left' hf
  have x8 : ((hdrL h ++ B).drop 8).take 16 = h.f := by rw [d8]; exact List.take_left' hf
  have x24 : ((hdrL h ++ B).drop 24).take 16 = h.t := by rw [d24]; exact List.take_left' ht
  refine ⟨?_, by rw [g0]; omega⟩
  rw [decH_eq ho hl, g0, g1, g2, g3, g4, g5, g6, g7, x8, x24]
  obtain ⟨c, fl, ln, nx, hp, f, t⟩ := h
  simp only [Hd.mk.injEq, and_true, true_and] at *
  omega
theorem dec_with {h : Hd} (k : h.ok) (hy : okH h = true) (B : List Int) (hB : Oct B) (hl : h.ln = (B.length : Nat)) (hs : B.length ≤ 1240) :
    decE (hdrL h ++ B) = 0 ∧ decV (hdrL h ++ B) = h ∧ decR (hdrL h ++ B) = B := by
  obtain ⟨h1, h2⟩ := hdr_get k hy B hB
  have hn : (hdrL h ++ B).length = 40 + B.length := by rw [List.length_append, hdrL_len k]
  have hE : decE (hdrL h ++ B) = 0 := by
    unfold decE
    rw [if_neg (by omega), if_neg (by simpa using h2), if_neg (by omega), h1, hl, hn, if_neg (by omega), if_neg (by omega)]
  refine ⟨hE, by rw [decV, if_pos hE, h1], ?_⟩
  rw [decR, if_pos hE]
  have : 40 = (hdrL h).length := (hdrL_len k).symm
  rw [this, List.drop_left]
end Go.Proofs.YtbklpelikaapoaaGreatDoor

namespace Go.Proofs.YtbklpelikaapoaaGreatDoor
open Go.ChangeShapes Go.WideShapes Go.ChangeAt Go.RowKit
set_option linter.unusedVariables false
set_option linter.unusedSimpArgs false

set_option maxHeartbeats 400000 in
theorem hopTo_any (h : Ho) (w : World) :
    Calls Tryz.prog 21 #[.agg h.cs] w fun e w' => e = .returned (.agg h.cs) ∧ Below w.heap.size w w' := by
  have hz := zho
  have R0 : Row ((w.alloc (.cells h.cs 29)).alloc (.cells Ho.zero.cs 39)) w.heap.size 29 h.cs := (Row.new w 29 _).alloc _
  have R1 : Row ((w.alloc (.cells h.cs 29)).alloc (.cells Ho.zero.cs 39)) (w.heap.size + 1) 39 Ho.zero.cs := by simpa using Row.new (w.alloc (.cells h.cs 29)) 39 Ho.zero.cs
  have B1 := hid (balloc (balloc (Below.refl w.heap.size w) (.cells h.cs 29)) (.cells Ho.zero.cs 39))
  have c0 := (R0.cell 0).trans h.at0
  have c1 := (R0.cell 1).trans h.at1
  have c2 := (R0.cell 2).trans h.at2
  have c3 := (R0.cell 3).trans h.at3
  have c4 := (R0.cell 4).trans h.at4
  have HR1 := hid R1
  clear R0 R1
  go_enter Tryz.func21, Tryz.ntmps21
  go_upto_region 1 with fail
  clear hz
  generalize (w.alloc (.cells h.cs 29)).alloc (.cells Ho.zero.cs 39) = w1 at *
  go_wp2_with (first
    | (refine bdO oh _ _ _ _ _ rfl rfl h rfl rfl rfl rfl rfl ?_)
    | (refine stO oh _ _ rfl rfl (w.heap.size + 1) h rfl rfl 39 Ho.zero HR1.out ?_))
  exact bodyPost_ret (resO oh rfl _ _ (w.heap.size + 1) 39 h rfl (HR1.out.setRow _)) rfl ⟨rfl, below_setRow' B1.out (by omega) _⟩
set_option maxHeartbeats 400000 in
theorem hopOf_any (h : Ho) (w : World) :
    Calls Tryz.prog 23 #[.agg h.cs] w fun e w' => e = .returned (.agg h.cs) ∧ Below w.heap.size w w' := by
  have hz := zho
  have R0 : Row ((w.alloc (.cells h.cs 39)).alloc (.cells Ho.zero.cs 29)) w.heap.size 39 h.cs := (Row.new w 39 _).alloc _
  have R1 : Row ((w.alloc (.cells h.cs 39)).alloc (.cells Ho.zero.cs 29)) (w.heap.size + 1) 29 Ho.zero.cs := by simpa using Row.new (w.alloc (.cells h.cs 39)) 29 Ho.zero.cs
  have B1 := hid (balloc (balloc (Below.refl w.heap.size w) (.cells h.cs 39)) (.cells Ho.zero.cs 29))
  have c0 := (R0.cell 0).trans h.at0
  have c1 := (R0.cell 1).trans h.at1
  have c2 := (R0.cell 2).trans h.at2
  have c3 := (R0.cell 3).trans h.at3
  have c4 := (R0.cell 4).trans h.at4
  have HR1 := hid R1
  clear R0 R1
  go_enter Tryz.func23, Tryz.ntmps23
  go_upto_region 1 with fail
  clear hz
  generalize (w.alloc (.cells h.cs 39)).alloc (.cells Ho.zero.cs 29) = w1 at *
  go_wp2_with (first
    | (refine bdO or_ _ _ _ _ _ rfl rfl h rfl rfl rfl rfl rfl ?_)
    | (refine stO or_ _ _ rfl rfl (w.heap.size + 1) h rfl rfl 29 Ho.zero HR1.out ?_))
  exact bodyPost_ret (resO or_ rfl _ _ (w.heap.size + 1) 29 h rfl (HR1.out.setRow _)) rfl ⟨rfl, below_setRow' B1.out (by omega) _⟩

/-- Is a number a rank? -/
def rkB (n : Int) : Bool := decide (0 ≤ n ∧ n ≤ 65535)
def byB (n : Int) : Bool := decide (0 ≤ n ∧ n ≤ 255)
theorem fits_rk (a : Int) : fitsB 2 [a] = rkB a := by
  rw [Bool.eq_iff_iff]; simp [fitsB, okB, top, sizeB, rkB]; omega
theorem fits_by (a : Int) : fitsB 1 [a] = byB a := by
  rw [Bool.eq_iff_iff]; simp [fitsB, okB, top, sizeB, byB]; omega
/-- Are the numbers of an option as they must be? -/
def okO (o : Ho) : Bool := byB o.i && rkB o.r
def chkO (o : Ho) : Int := if okO o = true then 0 else 1
theorem okO_yes {o : Ho} (k : okO o = true) : (0 ≤ o.i ∧ o.i ≤ 255) ∧ (0 ≤ o.r ∧ o.r ≤ 65535) := by simpa [okO, byB, rkB] using k
set_option maxHeartbeats 400000 in
theorem isRank_any (n : Int) (w : World) :
    Calls Tryz.prog 116 #[.int .i64 n] w fun e w' => e = .returned (.bool (rkB n)) ∧ Below w.heap.size w w' := by
  have L1 := hid (lies_new .i64 w #[.int .i64 n] 3 [n] rfl (by simp))
  have B1 := hid (balloc (Below.refl w.heap.size w) (.cells #[.int .i64 n] 3))
  go_enter Tryz.func116, Tryz.ntmps116
  go_wp2_with fail
  generalize w.alloc (.cells #[.int .i64 n] 3) = w2 at *
  refine (fits_any 2 _ 1 1 [n] _ L1.out).mono ?_
  rintro e w2 ⟨rfl, rfl⟩
  rw [fits_rk]
  go_wp2_with fail
  go_ret
  exact ⟨rfl, B1.out⟩
set_option maxHeartbeats 800000 in
theorem hopCheck_any (h : Ho) (w : World) :
    Calls Tryz.prog 86 #[.agg h.cs] w fun e w' => e = .returned (.int .i64 (chkO h)) ∧ Below w.heap.size w w' := by
  have HR0 := hid (Row.new w 39 h.cs)
  have B0 := hid (balloc (Below.refl w.heap.size w) (.cells h.cs 39))
  have HV : Hid (chkO h = if (byB h.i && rkB h.r) = true then 0 else 1) := rfl
  generalize chkO h = cv at *
  go_enter Tryz.func86, Tryz.ntmps86
  go_upto_region 1 with fail
  generalize hw1 : w.alloc (.cells h.cs 39) = w1 at *
  have c3 := (HR0.out.cell 3).trans h.at3
  clear hw1
  have L1 := hid (lies_new .i64 w1 #[.int .i64 h.i] 3 [h.i] rfl (by simp))
  have HR1 := hid (HR0.out.alloc (.cells #[.int .i64 h.i] 3))
  have B1 := hid (balloc B0.out (.cells #[.int .i64 h.i] 3))
  go_wp2_with fail
  generalize w1.alloc (.cells #[.int .i64 h.i] 3) = w2 at *
  refine (fits_any 1 _ 1 1 [h.i] _ L1.out).mono ?_
  rintro e w2 ⟨rfl, rfl⟩
  rw [fits_by]
  generalize byB h.i = b1 at *
  have d4 := (HR1.out.cell 4).trans h.at4
  clear c3
  cases b1
  · go_wp2_with fail
    go_ret
    exact ⟨ret_int (by rw [HV.out]; rfl), B1.out⟩
  · go_wp2_with fail
    refine (isRank_any h.r _).mono ?_
    rintro e w3 ⟨rfl, hb⟩
    have B2 := hid (bthen B1.out hb)
    clear hb
    generalize rkB h.r = b2 at *
    cases b2
    · go_wp2_with fail
      go_ret
      exact ⟨ret_int (by rw [HV.out]; rfl), B2.out⟩
    · go_wp2_with fail
      go_ret
      exact ⟨ret_int (by rw [HV.out]; rfl), B2.out⟩
end Go.Proofs.YtbklpelikaapoaaGreatDoor

namespace Go.Proofs.YtbklpelikaapoaaGreatDoor
open Go.ChangeShapes Go.WideShapes Go.ChangeAt Go.RowKit
set_option linter.unusedVariables false
set_option linter.unusedSimpArgs false

end Go.Proofs.YtbklpelikaapoaaGreatDoor

namespace Go.Proofs.YtbklpelikaapoaaGreatDoor
open Go.ChangeShapes Go.WideShapes Go.ChangeAt Go.RowKit
set_option linter.unusedVariables false
set_option linter.unusedSimpArgs false

/-- An option is laid into a block that was just made. -/
theorem layO_new (w : World) (t : TypeId) (h : Ho) : Row ((w.alloc (.cells Ho.zero.cs t)).setRow w.heap.size h.cs) w.heap.size t h.cs := (Row.new w t _).setRow _
theorem layO_below (w : World) (t : TypeId) (h : Ho) : Below w.heap.size w ((w.alloc (.cells Ho.zero.cs t)).setRow w.heap.size h.cs) := below_setRow' (balloc (Below.refl _ _) _) (Nat.le_refl _) _
end Go.Proofs.YtbklpelikaapoaaGreatDoor

namespace Go.Proofs.YtbklpelikaapoaaGreatDoor
open Go.ChangeShapes Go.WideShapes Go.ChangeAt Go.RowKit
set_option linter.unusedVariables false
set_option linter.unusedSimpArgs false

/-- A flag's bit beside others. -/
def orF (n bit : Int) (was : Bool) : Int := if was = true then bits .or .i64 n bit else n
set_option maxHeartbeats 400000 in
theorem bits1_any (n bit : Int) (was : Bool) (g : Nat) (w : World) (h : Row w g 3 #[.int .i64 n]) :
    Calls Tryz.prog 118 #[.int .i64 bit, .bool was, .pointer (some ⟨g, 0, none⟩)] w fun e w' => e = .returned (.bool was) ∧ Row w' g 3 #[.int .i64 (orF n bit was)] ∧ w.grownBy w' (some g) ∧ w'.heap.size = w.heap.size := by
  have c0 : w.cell? ⟨g, 0, none⟩ = some (.int .i64 n) := (h.cell 0).trans rfl
  have f0 := h.frozen 0
  have R0 := hid h
  have R1 : Hid (∀ x, Row (w.setCell ⟨g, 0, none⟩ (.int .i64 x)) g 3 #[.int .i64 x]) := fun x => h.set 0 _
  clear h
  go_enter Tryz.func118, Tryz.ntmps118
  cases was
  · go_wp2_with fail
    go_ret
    exact ⟨rfl, R0.out, World.grownBy.refl _ _, rfl⟩
  · go_wp2_with fail
    go_ret
    exact ⟨rfl, R1.out _, grownBy_setCell _ _ _ _, by simp⟩
/-- Is a bit set? -/
def anF (n bit : Int) : Bool := bits .and .i64 n bit != 0
set_option maxHeartbeats 400000 in
theorem flagged1_any (n bit : Int) (was : Bool) (g : Nat) (w : World) (h : Row w g 3 #[.int .i64 n]) :
    Calls Tryz.prog 149 #[.int .i64 bit, .bool was, .pointer (some ⟨g, 0, none⟩)] w fun e w' => e = .returned (.bool (anF n bit)) ∧ w' = w := by
  have c0 : w.cell? ⟨g, 0, none⟩ = some (.int .i64 n) := (h.cell 0).trans rfl
  clear h
  go_enter Tryz.func149, Tryz.ntmps149
  go_wp2_with fail
  go_ret
  exact ⟨rfl, rfl⟩
/-- What was there stays, but for one block. -/
def Since (g : Nat) (w w' : World) : Prop := w.grownBy w' (some g)
theorem grown_then' {w w1 w2 : World} {g : Nat} (h : Since g w w1) (k : w1.grownBy w2 (some g)) : Since g w w2 :=
  ⟨k.os.trans h.os, k.tape.trans h.tape, k.output.trans h.output, Nat.le_trans h.size k.size, fun j hj hne => (k.block j (Nat.lt_of_lt_of_le hj h.size) hne).trans (h.block j hj hne)⟩
theorem grown_set {w w1 : World} {c g : Nat} (h : Since c w w1) (j : Nat) (v : Value) (hg : w.heap.size ≤ g) : Since c w (w1.setCell ⟨g, j, none⟩ v) :=
  ⟨h.os, h.tape, h.output, by simpa using h.size, fun k hk hne => (Go.heap_setCell_other w1 ⟨g, j, none⟩ k v (by simp; omega)).trans (h.block k hk hne)⟩
theorem since_below {w w1 : World} {c : Nat} (h : Below w.heap.size w w1) : Since c w w1 := ⟨h.os, h.tape, h.output, h.size, fun k hk _ => h.block k hk⟩
theorem since_row {w w1 : World} {c g : Nat} (h : Since c w w1) (cs : Array Value) (hg : w.heap.size ≤ g) : Since c w (w1.setRow g cs) :=
  ⟨h.os, h.tape, h.output, by rw [setRow_size]; exact h.size, fun k hk hne => (setRow_other w1 g k cs (by omega)).trans (h.block k hk hne)⟩
/-- The byte of the flags of an option. -/
def bitsV (h : Ho) : Int := orF (orF (orF 0 128 h.d) 64 h.w) 32 h.f
theorem setFlags (h : Ho) : ((h.setD h.d).setW h.w).setF h.f = h := rfl
set_option maxHeartbeats 1600000 in
theorem eachBits_any (h : Ho) (n : Int) (g : Nat) (w : World) (hr : Row w g 3 #[.int .i64 n]) :
    Calls Tryz.prog 117 #[.agg h.cs, .func (.func 118) #[] #[.pointer (some ⟨g, 0, none⟩)]] w fun e w' => e = .returned (.agg h.cs) ∧ Row w' g 3 #[.int .i64 (orF (orF (orF n 128 h.d) 64 h.w) 32 h.f)] ∧ Since g w w' := by
  have hz := zho
  have hlt : g < w.heap.size := hr.lt
  have C1 := hid ((hr.alloc (.cells h.cs 39)).alloc (.cells Ho.zero.cs 39))
  have R1 := hid ((Row.new w 39 h.cs).alloc (.cells Ho.zero.cs 39))
  have Z1 : Hid (Row ((w.alloc (.cells h.cs 39)).alloc (.cells Ho.zero.cs 39)) (w.heap.size + 1) 39 Ho.zero.cs) := by simpa [Hid] using Row.new (w.alloc (.cells h.cs 39)) 39 Ho.zero.cs
  have B1 := hid (since_below (c := g) (balloc (balloc (Below.refl w.heap.size w) (.cells h.cs 39)) (.cells Ho.zero.cs 39)))
  go_enter Tryz.func117, Tryz.ntmps117
  go_upto_region 1 with fail
  generalize (w.alloc (.cells h.cs 39)).alloc (.cells Ho.zero.cs 39) = w1 at *
  have hG1 : w.heap.size < w.heap.size + 1 := by omega
  generalize w.heap.size + 1 = g1 at *
  have x0 := (R1.out.cell 0).trans h.at0
  go_wp2_with fail
  refine (bits1_any n 128 h.d g _ C1.out).mono ?_
  rintro e w2 ⟨rfl, hc, hg, hs⟩
  have C2 := hid hc
  have R2 := hid (R1.out.kept hg (by simp; omega))
  have Z2 := hid (Z1.out.kept hg (by simp; omega))
  have B2 := hid (grown_then' B1.out hg)
  clear hc hg hs C1 R1 Z1 B1 x0
  have y0 := R2.out.frozen 0
  have z0 := (R2.out.cell 0).trans h.at0
  have R3 : Hid (Row (w2.setCell ⟨w.heap.size, 0, none⟩ (.bool h.d)) w.heap.size 39 (h.setD h.d).cs) := by rw [Hid, ← Ho.set0]; exact R2.out.set 0 _
  have Z3 := hid (Z2.out.other ⟨w.heap.size, 0, none⟩ (.bool h.d) (by simp; omega))
  have C3 := hid (C2.out.other ⟨w.heap.size, 0, none⟩ (.bool h.d) (by simp; omega))
  have B3 := hid (grown_set B2.out (g := w.heap.size) 0 (.bool h.d) (Nat.le_refl _))
  clear C2 R2 Z2 B2
  go_upto_region 2 with fail
  generalize w2.setCell ⟨w.heap.size, 0, none⟩ (.bool h.d) = w3 at *
  clear y0 z0
  have x1 := (R3.out.cell 1).trans (h.setD h.d).at1
  go_wp2_with fail
  refine (bits1_any (orF n 128 h.d) 64 h.w g _ C3.out).mono ?_
  rintro e w4 ⟨rfl, hc, hg, hs⟩
  have C4 := hid hc
  have R4 := hid (R3.out.kept hg (by simp; omega))
  have Z4 := hid (Z3.out.kept hg (by simp; omega))
  have B4 := hid (grown_then' B3.out hg)
  clear hc hg hs C3 R3 Z3 B3 x1
  have y1 := R4.out.frozen 1
  have z1 := (R4.out.cell 1).trans (h.setD h.d).at1
  have R5 : Hid (Row (w4.setCell ⟨w.heap.size, 1, none⟩ (.bool h.w)) w.heap.size 39 ((h.setD h.d).setW h.w).cs) := by rw [Hid, ← Ho.set1]; exact R4.out.set 1 _
  have Z5 := hid (Z4.out.other ⟨w.heap.size, 1, none⟩ (.bool h.w) (by simp; omega))
  have C5 := hid (C4.out.other ⟨w.heap.size, 1, none⟩ (.bool h.w) (by simp; omega))
  have B5 := hid (grown_set B4.out (g := w.heap.size) 1 (.bool h.w) (Nat.le_refl _))
  clear C4 R4 Z4 B4
  go_upto_region 3 with fail
  generalize w4.setCell ⟨w.heap.size, 1, none⟩ (.bool h.w) = w5 at *
  clear y1 z1
  have x2 := (R5.out.cell 2).trans ((h.setD h.d).setW h.w).at2
  go_wp2_with fail
  refine (bits1_any (orF (orF n 128 h.d) 64 h.w) 32 h.f g _ C5.out).mono ?_
  rintro e w6 ⟨rfl, hc, hg, hs⟩
  have C6 := hid hc
  have R6 := hid (R5.out.kept hg (by simp; omega))
  have Z6 := hid (Z5.out.kept hg (by simp; omega))
  have B6 := hid (grown_then' B5.out hg)
  clear hc hg hs C5 R5 Z5 B5 x2
  have y2 := R6.out.frozen 2
  have z2 := (R6.out.cell 2).trans ((h.setD h.d).setW h.w).at2
  have R7 : Hid (Row (w6.setCell ⟨w.heap.size, 2, none⟩ (.bool h.f)) w.heap.size 39 (((h.setD h.d).setW h.w).setF h.f).cs) := by rw [Hid, ← Ho.set2]; exact R6.out.set 2 _
  have Z7 := hid (Z6.out.other ⟨w.heap.size, 2, none⟩ (.bool h.f) (by simp; omega))
  have C7 := hid (C6.out.other ⟨w.heap.size, 2, none⟩ (.bool h.f) (by simp; omega))
  have B7 := hid (grown_set B6.out (g := w.heap.size) 2 (.bool h.f) (Nat.le_refl _))
  clear C6 R6 Z6 B6
  go_upto_region 4 with fail
  generalize w6.setCell ⟨w.heap.size, 2, none⟩ (.bool h.f) = w7 at *
  clear y2 z2
  rw [setFlags] at R7
  go_wp2_with (first
    | (refine ldO oh _ rfl rfl w.heap.size rfl h 39 R7.out ?_)
    | (refine stO oh _ _ rfl rfl g1 h rfl rfl 39 Ho.zero Z7.out ?_))
  exact bodyPost_ret (resO oh rfl _ _ g1 39 h rfl (Z7.out.setRow _)) rfl ⟨rfl, C7.out.rowOther _ _ (by omega), since_row B7.out _ (by omega)⟩
/-- An option with the flags of a number. -/
def flgO (h : Ho) (n : Int) : Ho := ⟨anF n 128, anF n 64, anF n 32, h.i, h.r⟩
set_option maxHeartbeats 1600000 in
theorem eachFlagged_any (h : Ho) (n : Int) (g : Nat) (w : World) (hr : Row w g 3 #[.int .i64 n]) :
    Calls Tryz.prog 117 #[.agg h.cs, .func (.func 149) #[] #[.pointer (some ⟨g, 0, none⟩)]] w fun e w' => e = .returned (.agg (flgO h n).cs) ∧ Below w.heap.size w w' := by
  have hz := zho
  have hlt : g < w.heap.size := hr.lt
  have C1 := hid ((hr.alloc (.cells h.cs 39)).alloc (.cells Ho.zero.cs 39))
  have R1 := hid ((Row.new w 39 h.cs).alloc (.cells Ho.zero.cs 39))
  have Z1 : Hid (Row ((w.alloc (.cells h.cs 39)).alloc (.cells Ho.zero.cs 39)) (w.heap.size + 1) 39 Ho.zero.cs) := by simpa [Hid] using Row.new (w.alloc (.cells h.cs 39)) 39 Ho.zero.cs
  have B1 := hid (balloc (balloc (Below.refl w.heap.size w) (.cells h.cs 39)) (.cells Ho.zero.cs 39))
  go_enter Tryz.func117, Tryz.ntmps117
  go_upto_region 1 with fail
  generalize (w.alloc (.cells h.cs 39)).alloc (.cells Ho.zero.cs 39) = w1 at *
  have hG1 : w.heap.size < w.heap.size + 1 := by omega
  generalize w.heap.size + 1 = g1 at *
  have x0 := (R1.out.cell 0).trans h.at0
  go_wp2_with fail
  refine (flagged1_any n 128 _ g _ C1.out).mono ?_
  rintro e w1 ⟨rfl, rfl⟩
  have C2 := C1
  have R2 := R1
  have Z2 := Z1
  have B2 := B1
  clear C1 R1 Z1 B1 x0
  have y0 := R2.out.frozen 0
  have z0 := (R2.out.cell 0).trans h.at0
  have R3 : Hid (Row (w1.setCell ⟨w.heap.size, 0, none⟩ (.bool (anF n 128))) w.heap.size 39 (h.setD (anF n 128)).cs) := by rw [Hid, ← Ho.set0]; exact R2.out.set 0 _
  have Z3 := hid (Z2.out.other ⟨w.heap.size, 0, none⟩ (.bool (anF n 128)) (by simp; omega))
  have C3 := hid (C2.out.other ⟨w.heap.size, 0, none⟩ (.bool (anF n 128)) (by simp; omega))
  have B3 := hid (bset 0 (.bool (anF n 128)) B2.out (g := w.heap.size) (Nat.le_refl _))
  clear C2 R2 Z2 B2
  go_upto_region 2 with fail
  generalize w1.setCell ⟨w.heap.size, 0, none⟩ (.bool (anF n 128)) = w3 at *
  clear y0 z0
  have x1 := (R3.out.cell 1).trans (h.setD (anF n 128)).at1
  go_wp2_with fail
  refine (flagged1_any n 64 _ g _ C3.out).mono ?_
  rintro e w3 ⟨rfl, rfl⟩
  have C4 := C3
  have R4 := R3
  have Z4 := Z3
  have B4 := B3
  clear C3 R3 Z3 B3 x1
  have y1 := R4.out.frozen 1
  have z1 := (R4.out.cell 1).trans (h.setD (anF n 128)).at1
  have R5 : Hid (Row (w3.setCell ⟨w.heap.size, 1, none⟩ (.bool (anF n 64))) w.heap.size 39 ((h.setD (anF n 128)).setW (anF n 64)).cs) := by rw [Hid, ← Ho.set1]; exact R4.out.set 1 _
  have Z5 := hid (Z4.out.other ⟨w.heap.size, 1, none⟩ (.bool (anF n 64)) (by simp; omega))
  have C5 := hid (C4.out.other ⟨w.heap.size, 1, none⟩ (.bool (anF n 64)) (by simp; omega))
  have B5 := hid (bset 1 (.bool (anF n 64)) B4.out (g := w.heap.size) (Nat.le_refl _))
  clear C4 R4 Z4 B4
  go_upto_region 3 with fail
  generalize w3.setCell ⟨w.heap.size, 1, none⟩ (.bool (anF n 64)) = w5 at *
  clear y1 z1
  have x2 := (R5.out.cell 2).trans ((h.setD (anF n 128)).setW (anF n 64)).at2
  go_wp2_with fail
  refine (flagged1_any n 32 _ g _ C5.out).mono ?_
  rintro e w5 ⟨rfl, rfl⟩
  have C6 := C5
  have R6 := R5
  have Z6 := Z5
  have B6 := B5
  clear C5 R5 Z5 B5 x2
  have y2 := R6.out.frozen 2
  have z2 := (R6.out.cell 2).trans ((h.setD (anF n 128)).setW (anF n 64)).at2
  have R7 : Hid (Row (w5.setCell ⟨w.heap.size, 2, none⟩ (.bool (anF n 32))) w.heap.size 39 (((h.setD (anF n 128)).setW (anF n 64)).setF (anF n 32)).cs) := by rw [Hid, ← Ho.set2]; exact R6.out.set 2 _
  have Z7 := hid (Z6.out.other ⟨w.heap.size, 2, none⟩ (.bool (anF n 32)) (by simp; omega))
  have C7 := hid (C6.out.other ⟨w.heap.size, 2, none⟩ (.bool (anF n 32)) (by simp; omega))
  have B7 := hid (bset 2 (.bool (anF n 32)) B6.out (g := w.heap.size) (Nat.le_refl _))
  clear C6 R6 Z6 B6
  go_upto_region 4 with fail
  generalize w5.setCell ⟨w.heap.size, 2, none⟩ (.bool (anF n 32)) = w7 at *
  clear y2 z2
  have hP : (((h.setD (anF n 128)).setW (anF n 64)).setF (anF n 32)) = flgO h n := rfl
  rw [hP] at R7
  clear hP
  generalize hQ : flgO h n = P at *
  have HQ := hid hQ
  clear hQ
  go_wp2_with (first
    | (refine ldO oh _ rfl rfl w.heap.size rfl P 39 R7.out ?_)
    | (refine stO oh _ _ rfl rfl g1 P rfl rfl 39 Ho.zero Z7.out ?_))
  exact bodyPost_ret (resO oh rfl _ _ g1 39 P rfl (Z7.out.setRow _)) rfl ⟨by rw [HQ.out], below_setRow' B7.out (by omega) _⟩
set_option maxHeartbeats 800000 in
theorem bitsOf_any (h : Ho) (w : World) :
    Calls Tryz.prog 87 #[.agg h.cs] w fun e w' => e = .returned (.int .i64 (bitsV h)) ∧ Below w.heap.size w w' := by
  have hmf : ∀ (fn : Fn) (first cap : Array Value) (w : World), (Instr.makeFunc fn first cap).run Tryz.prog w = .ok (.func fn first cap) w := fun _ _ _ _ => rfl
  have R1 := hid (Row.new w 39 h.cs)
  have B1 := hid (balloc (Below.refl w.heap.size w) (.cells h.cs 39))
  go_enter Tryz.func87, Tryz.ntmps87
  go_upto_region 1 with fail
  have hs1 : (w.alloc (.cells h.cs 39)).heap.size = w.heap.size + 1 := by simp
  generalize w.alloc (.cells h.cs 39) = w1 at *
  have C2 : Hid (Row (w1.alloc (.cells #[.int .i64 0] 3)) (w.heap.size + 1) 3 #[.int .i64 0]) := by rw [Hid, ← hs1]; exact Row.new w1 3 #[.int .i64 0]
  have R2 := hid (R1.out.alloc (.cells #[.int .i64 0] 3))
  have B2 := hid (balloc B1.out (.cells #[.int .i64 0] 3))
  have f0 := (Row.new w1 3 #[.int .i64 0]).frozen 0
  have c0 := ((Row.new w1 3 #[.int .i64 0]).cell 0).trans rfl
  clear R1 B1
  go_upto_region 2 with fail
  generalize w1.alloc (.cells #[.int .i64 0] 3) = w2 at *
  clear hs1 f0 c0
  have hG1 : w.heap.size < w.heap.size + 1 := by omega
  generalize w.heap.size + 1 = g1 at *
  go_wp2_with (refine ldO oh _ rfl rfl w.heap.size rfl h 39 R2.out ?_)
  refine (eachBits_any h 0 g1 _ C2.out).mono ?_
  rintro e w3 ⟨rfl, hc, hs⟩
  have c0 := (hc.cell 0).trans rfl
  have B3 := hid (bgrown B2.out hs (by omega))
  clear hc hs C2 R2 B2
  have HV : Hid (orF (orF (orF 0 128 h.d) 64 h.w) 32 h.f = bitsV h) := rfl
  rw [HV.out] at c0
  go_wp2_with fail
  go_ret
  exact ⟨rfl, B3.out⟩
set_option maxHeartbeats 800000 in
theorem flaggedOf_any (n : Int) (w : World) :
    Calls Tryz.prog 136 #[.int .i64 n] w fun e w' => e = .returned (.agg (flgO Ho.zero n).cs) ∧ Below w.heap.size w w' := by
  have hz := zho
  have hmf : ∀ (fn : Fn) (first cap : Array Value) (w : World), (Instr.makeFunc fn first cap).run Tryz.prog w = .ok (.func fn first cap) w := fun _ _ _ _ => rfl
  have C1 := hid ((Row.new w 3 #[.int .i64 n]).alloc (.cells Ho.zero.cs 39))
  have Z1 : Hid (Row ((w.alloc (.cells #[.int .i64 n] 3)).alloc (.cells Ho.zero.cs 39)) (w.heap.size + 1) 39 Ho.zero.cs) := by simpa [Hid] using Row.new (w.alloc (.cells #[.int .i64 n] 3)) 39 Ho.zero.cs
  have B1 := hid (balloc (balloc (Below.refl w.heap.size w) (.cells #[.int .i64 n] 3)) (.cells Ho.zero.cs 39))
  go_enter Tryz.func136, Tryz.ntmps136
  go_upto_region 1 with fail
  generalize (w.alloc (.cells #[.int .i64 n] 3)).alloc (.cells Ho.zero.cs 39) = w1 at *
  have hG1 : w.heap.size < w.heap.size + 1 := by omega
  generalize w.heap.size + 1 = g1 at *
  go_wp2_with (refine bdOz oh rfl rfl ?_)
  refine (eachFlagged_any Ho.zero n w.heap.size _ C1.out).mono ?_
  rintro e w2 ⟨rfl, hb2⟩
  have Z2 := hid (Z1.out.below hb2)
  have B2 := hid (bthen B1.out hb2)
  clear hb2 C1 Z1 B1
  go_wp2_with (refine stO oh _ _ rfl rfl g1 (flgO Ho.zero n) rfl rfl 39 Ho.zero Z2.out ?_)
  exact bodyPost_ret (resO oh rfl _ _ g1 39 (flgO Ho.zero n) rfl (Z2.out.setRow _)) rfl ⟨rfl, below_setRow' B2.out (by omega) _⟩
end Go.Proofs.YtbklpelikaapoaaGreatDoor
