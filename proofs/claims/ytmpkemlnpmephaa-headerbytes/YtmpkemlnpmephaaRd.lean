/- What header's read answers: a contract. -/
import Derived.Test.YtmpkemlnpmephaaCu2
namespace Go.Proofs.Ytmpkemlnpmephaa
open Go.ChangeShapes Go.WideShapes Go.ChangeAt Go.RowKit
set_option linter.unusedVariables false
set_option linter.unusedSimpArgs false

theorem num_bd (l : List Int) (h : Oct l) (n : Nat) (b : Int) (hn : l.length = n) (hb : (256 : Int) ^ n = b) : 0 ≤ numOf l ∧ numOf l < b := by
  have := numOf_bd l h l.length (Nat.le_refl _)
  rw [List.take_of_length_le (Nat.le_refl _), hn, hb] at this
  exact this
theorem u8s_len (l : List Int) : (u8s l).length = l.length := by simp [u8s]
theorem Hd.lenL {h : Hd} (k : h.ok) : h.cs.toList.length = 37 := by rw [Array.length_toList, Hd.size k]
theorem bset {w w1 : World} {B g : Nat} (j : Nat) (v : Value) (h : Below B w w1) (hg : B ≤ g) : Below B w (w1.setCell ⟨g, j, none⟩ v) := Below.setCell h (p := ⟨g, j, none⟩) hg v

set_option maxHeartbeats 1600000 in
theorem hread_any (w : World) (c : Nat) (a : Option Addr) (len cap : Nat) (l : List Int) (hC : CurAt w c a len cap l 0 0) (h40 : 40 ≤ len) :
    Calls Try.prog 21 #[.pointer (some ⟨c, 0, none⟩)] w fun e w' => e = .returned (.agg (decH l).cs) ∧ CurAt w' c a len cap l 40 0 ∧ w.grownBy w' (some c) := by
  have hlen : 40 ≤ l.length := by rw [hC.lies.1]; exact h40
  have hoct := hC.oct
  have hcw : c < w.heap.size := hC.lt
  have HC0 := hid hC
  have hz := zhd
  obtain ⟨X, hX⟩ : ∃ X, X = numOf (l.take 4) := ⟨_, rfl⟩
  have hXb : 0 ≤ X ∧ X < 4294967296 := by rw [hX]; exact num_bd _ (fun x hx => hoct x (List.mem_of_mem_take hx)) 4 _ (by simp; omega) (by decide)
  have q1 := and8 X hXb.1 hXb.2
  have q2 := and20 X hXb.1 hXb.2
  obtain ⟨hX0, hX1⟩ := hXb
  obtain ⟨x2, hx2⟩ : ∃ x, x = numOf ((l.drop 4).take 2) := ⟨_, rfl⟩
  obtain ⟨x3, hx3⟩ : ∃ x, x = numOf ((l.drop 6).take 1) := ⟨_, rfl⟩
  obtain ⟨x4, hx4⟩ : ∃ x, x = numOf ((l.drop 7).take 1) := ⟨_, rfl⟩
  obtain ⟨F, hF⟩ : ∃ x, x = (l.drop 8).take 16 := ⟨_, rfl⟩
  obtain ⟨T, hT⟩ : ∃ x, x = (l.drop 24).take 16 := ⟨_, rfl⟩
  have NF : Hid (F.length = 16) := by rw [Hid, hF]; simp; omega
  have NT : Hid (T.length = 16) := by rw [Hid, hT]; simp; omega
  have aF : Adr F := ⟨NF.out, by rw [hF]; exact hoct.cut 8 16⟩
  have aT : Adr T := ⟨NT.out, by rw [hT]; exact hoct.cut 24 16⟩
  have HF := hid hF
  have HT := hid hT
  have HX := hid hX
  have HX2 := hid hx2
  have HX3 := hid hx3
  have HX4 := hid hx4
  obtain ⟨H0, hH0⟩ : ∃ H, H = (⟨X / 1048576 % 256, X % 1048576, 0, 0, 0, zeros, zeros⟩ : Hd) := ⟨_, rfl⟩
  have k0 : H0.ok := by rw [hH0]; exact ⟨adr_zeros, adr_zeros⟩
  obtain ⟨H1, hH1⟩ : ∃ H, H = H0.setLn x2 := ⟨_, rfl⟩
  have k1 : H1.ok := by rw [hH1]; exact k0
  obtain ⟨H2, hH2⟩ : ∃ H, H = H1.setNx x3 := ⟨_, rfl⟩
  have k2 : H2.ok := by rw [hH2]; exact k1
  obtain ⟨H3, hH3⟩ : ∃ H, H = H2.setHp x4 := ⟨_, rfl⟩
  have k3 : H3.ok := by rw [hH3]; exact k2
  have k4 : (H3.setF F).ok := Hd.setF_ok k3 aF
  have k5 : ((H3.setF F).setT T).ok := Hd.setT_ok k4 aT
  have HE : Hid ((H3.setF F).setT T = decH l) := by rw [Hid, hH3, hH2, hH1, hH0, hX, hx2, hx3, hx4, hF, hT]; rfl
  rw [← HE.out]
  have E0 := hid hH0
  have E1 := hid hH1
  have E2 := hid hH2
  have E3 := hid hH3
  have Z1 := hid (Row.new w 28 Hd.zero.cs)
  have b1 : Below w.heap.size w (w.alloc (.cells Hd.zero.cs 28)) := balloc (Below.refl _ _) _
  have C1 := hid (hC.below b1)
  have G1 := hid (grown_then (World.grownBy.refl w (some c)) b1)
  have hs1 : (w.alloc (.cells Hd.zero.cs 28)).heap.size = w.heap.size + 1 := by simp
  have S1 := hid hs1
  clear hC b1 hs1 hX hx2 hx3 hx4 hF hT hH0 hH1 hH2 hH3 hoct
  go_enter Try.func21, Try.ntmps21
  go_upto_region 1 with fail
  generalize w.alloc (.cells Hd.zero.cs 28) = w1 at *
  go_wp2_with fail
  refine (take_ok _ c a len cap 0 l 4 4 C1.out rfl (by decide) (by omega)).mono ?_
  rintro e w2 ⟨rfl, hc, hg, hz2⟩
  rw [List.drop_zero, ← HX.out]
  have C2 := hid hc
  have G2 := hid (G1.out.trans hg)
  have Z2 := hid (Z1.out.kept hg (by intro e; cases e; omega))
  rw [S1.out] at hz2
  obtain ⟨g4, hg4⟩ : ∃ g4, g4 = w2.heap.size := ⟨_, rfl⟩
  have hgw : w.heap.size < g4 := by omega
  have hcg : c < g4 := by omega
  have R3 : Hid (Row ((w2.alloc (.cells Hd.zero.cs 28)).setRow w2.heap.size H0.cs) g4 28 H0.cs) := by rw [hg4]; exact (Row.new w2 28 _).setRow _
  have b3 : Below w2.heap.size w2 ((w2.alloc (.cells Hd.zero.cs 28)).setRow w2.heap.size H0.cs) := below_setRow' (balloc (Below.refl _ _) _) (Nat.le_refl _) _
  have Z3 := hid (Z2.out.below b3)
  have C3 := hid (C2.out.below b3)
  have G3 := hid (grownBy_below G2.out b3)
  have HG4 := hid hg4
  clear hc hg hz2 b3 Z1 C1 G1 C2 G2 Z2 hg4
  have EH : Hid (Hd.cs ⟨X / 1048576 % 256, X % 1048576, 0, 0, 0, zeros, zeros⟩ = H0.cs) := by rw [Hid, E0.out]
  go_wp2_with (first
    | (refine bd28b _ _ rfl rfl (X / 1048576 % 256) (X % 1048576) rfl rfl ?_; rw [EH.out])
    | (refine st28 _ _ rfl rfl w2.heap.size H0 k0 rfl rfl 28 Hd.zero Hd.zero_ok (Row.new w2 28 _) ?_; rw [← HG4.out]; rw [← HG4.out] at R3 Z3 C3 G3; generalize (w2.alloc (.cells Hd.zero.cs 28)).setRow g4 H0.cs = w3 at *))
  refine (take_ok _ c a len cap 4 l 2 2 C3.out rfl (by decide) (by omega)).mono ?_
  rintro e w4 ⟨rfl, hc, hg, hz4⟩
  rw [← HX2.out]
  have G4 := hid (G3.out.trans hg)
  have Z4 := hid (Z3.out.kept hg (by intro e; cases e; omega))
  have R4 := hid (R3.out.kept hg (by intro e; cases e; omega))
  have cl := (R4.out.cell 2).trans H0.at2
  have fr := R4.out.frozen 2
  have b5 : Below w.heap.size w4 (w4.setCell ⟨g4, 2, none⟩ (.int .i64 x2)) := bset 2 _ (Below.refl _ _) (by omega)
  have C5 := hid (CurAt.own HC0.out hc G4.out b5)
  have G5 := hid (grown_then G4.out b5)
  have Z5 := hid (Z4.out.other ⟨g4, 2, none⟩ (.int .i64 x2) (by simp; omega))
  have R5 : Hid (Row (w4.setCell ⟨g4, 2, none⟩ (.int .i64 x2)) g4 28 H1.cs) := by rw [Hid, E1.out, ← Hd.set2]; exact R4.out.set 2 _
  clear hc hg hz4 b5 C3 G3 Z3 R3 G4 Z4 R4
  go_wp2_with fail
  clear cl fr
  generalize w4.setCell ⟨g4, 2, none⟩ (.int .i64 x2) = w5 at *
  refine (take_ok _ c a len cap 6 l 1 1 C5.out rfl (by decide) (by omega)).mono ?_
  rintro e w6 ⟨rfl, hc, hg, hz6⟩
  rw [← HX3.out]
  have G6 := hid (G5.out.trans hg)
  have Z6 := hid (Z5.out.kept hg (by intro e; cases e; omega))
  have R6 := hid (R5.out.kept hg (by intro e; cases e; omega))
  have cl := (R6.out.cell 3).trans H1.at3
  have fr := R6.out.frozen 3
  have b7 : Below w.heap.size w6 (w6.setCell ⟨g4, 3, none⟩ (.int .i64 x3)) := bset 3 _ (Below.refl _ _) (by omega)
  have C7 := hid (CurAt.own HC0.out hc G6.out b7)
  have G7 := hid (grown_then G6.out b7)
  have Z7 := hid (Z6.out.other ⟨g4, 3, none⟩ (.int .i64 x3) (by simp; omega))
  have R7 : Hid (Row (w6.setCell ⟨g4, 3, none⟩ (.int .i64 x3)) g4 28 H2.cs) := by rw [Hid, E2.out, ← Hd.set3]; exact R6.out.set 3 _
  clear hc hg hz6 b7 C5 G5 Z5 R5 G6 Z6 R6
  go_wp2_with fail
  clear cl fr
  generalize w6.setCell ⟨g4, 3, none⟩ (.int .i64 x3) = w7 at *
  refine (take_ok _ c a len cap 7 l 1 1 C7.out rfl (by decide) (by omega)).mono ?_
  rintro e w8 ⟨rfl, hc, hg, hz8⟩
  rw [← HX4.out]
  have G8 := hid (G7.out.trans hg)
  have Z8 := hid (Z7.out.kept hg (by intro e; cases e; omega))
  have R8 := hid (R7.out.kept hg (by intro e; cases e; omega))
  have cl := (R8.out.cell 4).trans H2.at4
  have fr := R8.out.frozen 4
  have b9 : Below w.heap.size w8 (w8.setCell ⟨g4, 4, none⟩ (.int .i64 x4)) := bset 4 _ (Below.refl _ _) (by omega)
  have C9 := hid (CurAt.own HC0.out hc G8.out b9)
  have G9 := hid (grown_then G8.out b9)
  have Z9 := hid (Z8.out.other ⟨g4, 4, none⟩ (.int .i64 x4) (by simp; omega))
  have R9 : Hid (Row (w8.setCell ⟨g4, 4, none⟩ (.int .i64 x4)) g4 28 H3.cs) := by rw [Hid, E3.out, ← Hd.set4]; exact R8.out.set 4 _
  clear hc hg hz8 b9 C7 G7 Z7 R7 G8 Z8 R8
  go_wp2_with fail
  clear cl fr
  generalize w8.setCell ⟨g4, 4, none⟩ (.int .i64 x4) = w9 at *
  refine wp_region_held_drew (S := fun _ => True) (by kernel_rfl) ?_ (fun hHeld => ?_)
  · trivial
  refine wpAnyH_take (i := 0) (oi := _) (v := ?vp0) rfl (by kernel_rfl) (by kernel_rfl) (by kernel_rfl) (fun _ _ _ h => h) (Or.inl ⟨by rfl, ?hyp0⟩) (by assumption) ?restp0
  case hyp0 => (intro w hSw; (try dsimp only at hSw); go_split_ands; go_simp; try (with_reducible rfl))
  try simp only [List.getElem_toArray, List.getElem_cons_zero, List.getElem_cons_succ, Act.put, List.setIfInBounds_toArray, List.set_cons_zero, List.set_cons_succ]
  refine wpAnyH_take (i := 1) (oi := _) (v := ?vp1) rfl (by kernel_rfl) (by kernel_rfl) (by kernel_rfl) (fun _ _ _ h => h) (Or.inl ⟨by rfl, ?hyp1⟩) (by assumption) ?restp1
  case hyp1 => (intro w hSw; (try dsimp only at hSw); go_split_ands; go_simp; try (with_reducible rfl))
  try simp only [List.getElem_toArray, List.getElem_cons_zero, List.getElem_cons_succ, Act.put, List.setIfInBounds_toArray, List.set_cons_zero, List.set_cons_succ]
  refine wpAnyH_take (i := 2) (oi := _) (v := ?vp2) rfl (by kernel_rfl) (by kernel_rfl) (by kernel_rfl) (fun _ _ _ h => h) (Or.inl ⟨by rfl, ?hyp2⟩) (by assumption) ?restp2
  case hyp2 => (intro w hSw; (try dsimp only at hSw); go_split_ands; go_simp; try (with_reducible rfl))
  try simp only [List.getElem_toArray, List.getElem_cons_zero, List.getElem_cons_succ, Act.put, List.setIfInBounds_toArray, List.set_cons_zero, List.set_cons_succ]
  refine wpAnyH_ready (rs := [3]) (by kernel_rfl) (by simp) ?_
  refine AllReadyH.cons (o := _) rfl (fun K hK => ?_) AllReadyH.nil
  go_simp
  refine (bytes_ok _ c a len cap 8 l 16 16 (C9.out.drewN 1) rfl (by omega)).mono ?_
  rintro e w10 ⟨v10, rfl, ho, hc, hg⟩
  have hg' : w9.grownBy w10 (some c) := (grownBy_drewN w9 1 _).trans hg
  have C10 := hid hc
  have G10 := hid (G9.out.trans hg')
  have R10 := hid (R9.out.kept hg' (by intro e; cases e; omega))
  have Z10 := hid (Z9.out.kept hg' (by intro e; cases e; omega))
  rw [← HF.out] at ho
  have ho' : w10.ownsRow w9.drew.heap.size 5 1 v10 F.length (u8s F) := by rw [NF.out]; exact ho
  obtain ⟨a10, cap10, rfl, hl10, _⟩ := owns_lies ho'
  rw [NF.out] at hl10 ⊢
  have L10 := hid hl10
  clear ho ho' hc hg hg' hl10 C9 G9 R9 Z9
  go_wp2_with fail
  refine hK.out _ _ trivial (fun hHeld => ?_)
  clear hK K
  try simp only [List.getElem_toArray, List.getElem_cons_zero, List.getElem_cons_succ, Act.put, List.setIfInBounds_toArray, List.set_cons_zero, List.set_cons_succ]
  refine wpAnyH_ready (rs := [4]) (by kernel_rfl) (by simp) ?_
  refine AllReadyH.cons (o := _) rfl (fun K hK => ?_) AllReadyH.nil
  refine step_copy_splice rfl _ _ 30 30 rfl 5 Try.underlying30 (by kernel_rfl) _ _ _ _ _ _ rfl rfl g4 5 H3.cs.toList 28 (by simpa [Row] using R10.out) (u8s F) (by rw [u8s_len, NF.out]; rfl) (fun _ => ⟨rfl, (by obtain ⟨b, off, e, _⟩ := L10.out.2.2.2.2 0 (by omega); exact ⟨_, e, L10.out.cells _ e⟩)⟩) (by rw [u8s_len, NF.out, Hd.lenL k3]; omega) (ints_oneCell8 _ _) (w.heap.size + 1) w10 (Below.refl _ _) (by omega) ?_
  intro w11 N11 b11
  have R11 : Hid (Row w11 g4 28 (H3.setF F).cs) := by have := N11.out; rw [splice_F k3 NF.out] at this; simpa [Row, Hid] using this
  have Z11 : Hid (Row w11 w.heap.size 28 Hd.zero.cs) := (b11.block _ (by omega)).trans Z10.out
  have C11 := hid (CurAt.own HC0.out C10.out G10.out (b11.mono (by omega)))
  have G11 := hid (grown_then G10.out (b11.mono (by omega)))
  clear N11 b11 R10 C10 G10 L10 Z10
  refine hK.out _ _ trivial (fun hHeld => ?_)
  clear hK K
  try simp only [List.getElem_toArray, List.getElem_cons_zero, List.getElem_cons_succ, Act.put, List.setIfInBounds_toArray, List.set_cons_zero, List.set_cons_succ]
  refine wpAnyH_done (by kernel_rfl) ?_ _
  go_wp2_with fail
  refine wp_region_held_drew (S := fun _ => True) (by kernel_rfl) ?_ (fun hHeld => ?_)
  · trivial
  refine wpAnyH_take (i := 0) (oi := _) (v := ?vq0) rfl (by kernel_rfl) (by kernel_rfl) (by kernel_rfl) (fun _ _ _ h => h) (Or.inl ⟨by rfl, ?hyq0⟩) (by assumption) ?restq0
  case hyq0 => (intro w hSw; (try dsimp only at hSw); go_split_ands; go_simp; try (with_reducible rfl))
  try simp only [List.getElem_toArray, List.getElem_cons_zero, List.getElem_cons_succ, Act.put, List.setIfInBounds_toArray, List.set_cons_zero, List.set_cons_succ]
  refine wpAnyH_take (i := 1) (oi := _) (v := ?vq1) rfl (by kernel_rfl) (by kernel_rfl) (by kernel_rfl) (fun _ _ _ h => h) (Or.inl ⟨by rfl, ?hyq1⟩) (by assumption) ?restq1
  case hyq1 => (intro w hSw; (try dsimp only at hSw); go_split_ands; go_simp; try (with_reducible rfl))
  try simp only [List.getElem_toArray, List.getElem_cons_zero, List.getElem_cons_succ, Act.put, List.setIfInBounds_toArray, List.set_cons_zero, List.set_cons_succ]
  refine wpAnyH_take (i := 2) (oi := _) (v := ?vq2) rfl (by kernel_rfl) (by kernel_rfl) (by kernel_rfl) (fun _ _ _ h => h) (Or.inl ⟨by rfl, ?hyq2⟩) (by assumption) ?restq2
  case hyq2 => (intro w hSw; (try dsimp only at hSw); go_split_ands; go_simp; try (with_reducible rfl))
  try simp only [List.getElem_toArray, List.getElem_cons_zero, List.getElem_cons_succ, Act.put, List.setIfInBounds_toArray, List.set_cons_zero, List.set_cons_succ]
  refine wpAnyH_ready (rs := [3]) (by kernel_rfl) (by simp) ?_
  refine AllReadyH.cons (o := _) rfl (fun K hK => ?_) AllReadyH.nil
  go_simp
  refine (bytes_ok _ c a len cap 24 l 16 16 (C11.out.drewN 1) rfl (by omega)).mono ?_
  rintro e w12 ⟨v12, rfl, ho, hc, hg⟩
  have hg' : w11.grownBy w12 (some c) := (grownBy_drewN w11 1 _).trans hg
  have C12 := hid hc
  have G12 := hid (G11.out.trans hg')
  have R12 := hid (R11.out.kept hg' (by intro e; cases e; omega))
  have Z12 := hid (Z11.out.kept hg' (by intro e; cases e; omega))
  rw [← HT.out] at ho
  have ho' : w12.ownsRow w11.drew.heap.size 5 1 v12 T.length (u8s T) := by rw [NT.out]; exact ho
  obtain ⟨a12, cap12, rfl, hl12, _⟩ := owns_lies ho'
  rw [NT.out] at hl12 ⊢
  have L12 := hid hl12
  clear ho ho' hc hg hg' hl12 C11 G11 R11 Z11
  go_wp2_with fail
  refine hK.out _ _ trivial (fun hHeld => ?_)
  clear hK K
  try simp only [List.getElem_toArray, List.getElem_cons_zero, List.getElem_cons_succ, Act.put, List.setIfInBounds_toArray, List.set_cons_zero, List.set_cons_succ]
  refine wpAnyH_ready (rs := [4]) (by kernel_rfl) (by simp) ?_
  refine AllReadyH.cons (o := _) rfl (fun K hK => ?_) AllReadyH.nil
  refine step_copy_splice rfl _ _ 30 30 rfl 5 Try.underlying30 (by kernel_rfl) _ _ _ _ _ _ rfl rfl g4 21 (H3.setF F).cs.toList 28 (by simpa [Row] using R12.out) (u8s T) (by rw [u8s_len, NT.out]; rfl) (fun _ => ⟨rfl, (by obtain ⟨b, off, e, _⟩ := L12.out.2.2.2.2 0 (by omega); exact ⟨_, e, L12.out.cells _ e⟩)⟩) (by rw [u8s_len, NT.out, Hd.lenL k4]; omega) (ints_oneCell8 _ _) (w.heap.size + 1) w12 (Below.refl _ _) (by omega) ?_
  intro w13 N13 b13
  have R13 : Hid (Row w13 g4 28 ((H3.setF F).setT T).cs) := by have := N13.out; rw [splice_T k4 NT.out] at this; simpa [Row, Hid] using this
  have Z13 : Hid (Row w13 w.heap.size 28 Hd.zero.cs) := (b13.block _ (by omega)).trans Z12.out
  have C13 := hid (CurAt.own HC0.out C12.out G12.out (b13.mono (by omega)))
  have G13 := hid (grown_then G12.out (b13.mono (by omega)))
  clear N13 b13 R12 C12 G12 L12 Z12
  refine hK.out _ _ trivial (fun hHeld => ?_)
  clear hK K
  try simp only [List.getElem_toArray, List.getElem_cons_zero, List.getElem_cons_succ, Act.put, List.setIfInBounds_toArray, List.set_cons_zero, List.set_cons_succ]
  refine wpAnyH_done (by kernel_rfl) ?_ _
  clear HE
  generalize hH5 : (H3.setF F).setT T = H5 at *
  have HH5 := hid hH5
  have R14 := hid (Z13.out.setRow H5.cs)
  have b14 : Below w.heap.size w13 (w13.setRow w.heap.size H5.cs) := below_setRow' (Below.refl _ _) (Nat.le_refl _) _
  have C14 := hid (CurAt.own HC0.out C13.out G13.out b14)
  have G14 := hid (grown_then G13.out b14)
  clear b14 hH5
  go_wp2_with (first
    | (refine ld28 _ rfl rfl g4 rfl H5 k5 28 R13.out ?_)
    | (refine st28 _ _ rfl rfl w.heap.size H5 k5 rfl rfl 28 Hd.zero Hd.zero_ok Z13.out ?_))
  exact bodyPost_ret (res28 rfl _ _ w.heap.size 28 H5 k5 rfl R14.out) rfl ⟨by rw [HH5.out], C14.out, G14.out⟩
end Go.Proofs.Ytmpkemlnpmephaa
