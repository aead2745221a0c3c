/- Are lists of options the same? The document's answer. · OptionBytes' walk. · A world that meets the rows' lists. -/
import Derived.Test.YtbgogeojdibmkaaDoorM17
import Derived.Test.YtbgogeojdibmkaaDoorM9
import Derived.Test.YtbgogeojdibmkaaDoorM16
import Derived.Test.YtbgogeojdibmkaaDoorM6
namespace Go.Proofs.YtbgogeojdibmkaaDoor
open Go.ChangeShapes Go.WideShapes Go.ChangeAt Go.RowKit Go.Deep
set_option linter.unusedVariables false
set_option linter.unusedSimpArgs false

set_option maxRecDepth 100000 in
set_option maxHeartbeats 1600000 in
theorem refAll_any (a b : Option Addr) (n ca m cb : Nat) (L M : List Ov) (w : World) (hL : Opts w a n ca L) (hM : Opts w b m cb M) :
    Calls Tryd.prog 20 #[.slice a n ca, .slice b m cb] w fun e w' => e = .returned (.bool (allB (pos L) (pos M))) ∧ Below w.heap.size w w' := by
  have k1 := Nat.le_trans hL.le hL.max
  have k2 := Nat.le_trans hM.le hM.max
  unfold maxLen at k1 k2
  have HL := hid hL
  have HM := hid hM
  have HF : Hid (allB (pos L) (pos M) = ((n == m) && allTo (pos L) (pos M) n)) := by rw [Hid, allB, pos_len, pos_len, hL.len, hM.len]
  have ll := hid hL.len
  have lm := hid hM.len
  clear hL hM
  generalize allB (pos L) (pos M) = fb at *
  by_cases hnm : n = m
  · subst hnm
    have HF : Hid (fb = allTo (pos L) (pos M) n) := by rw [Hid, HF.out]; simp
    go_enter Tryd.func20, Tryd.ntmps20
    go_wp2_with fail
    go_loopw [5] (fun i wr => ∃ j : Nat, j ≤ n ∧ i = .int .i64 j ∧ Hid (allTo (pos L) (pos M) j = true) ∧ Hid (Below w.heap.size w wr)) (fun i _ => n - (intOf i).toNat)
    case atStart => exact ⟨0, Nat.zero_le _, rfl, rfl, Below.refl _ _⟩
    case round =>
      obtain ⟨j, hj, rfl, hall, hb⟩ := hrel
      by_cases hlt : j < n
      · have hlt' : (j : Int) < (n : Int) := by omega
        obtain ⟨b1, off1, rfl, hp1⟩ := (HL.out.below hb.out).cell j hlt
        obtain ⟨b2, off2, rfl, hp2⟩ := (HM.out.below hb.out).cell j hlt
        have ok1 := (HL.out.below hb.out).at j hlt
        have ok2 := (HM.out.below hb.out).at j hlt
        have HS := hid (allTo_succ (pos L) (pos M) j)
        have HN := hid (allTo_no (pos L) (pos M) j n hlt)
        rw [pos_at L j (by rw [ll.out]; exact hlt), pos_at M j (by rw [lm.out]; exact hlt)] at HS HN
        generalize L.getD j Ov.zero = o at *
        generalize M.getD j Ov.zero = p at *
        have P1 := hid hp1
        have P2 := hid hp2
        have O1 := hid ok1
        have O2 := hid ok2
        have A1 := hid ok1.ad
        have A2 := hid ok2.ad
        clear hp1 hp2 ok1 ok2
        go_wp2_with fail
        refine wp_region_held_drew (S := fun w' => Hid (Part w' b1 (off1 + j * 19) o.cs) ∧ Hid (Part w' b2 (off2 + j * 19) p.cs)) (by kernel_rfl) ?_ (fun hHeld => ?_)
        · exact ⟨P1.out, P2.out⟩
        refine wpAnyH_take (i := 0) (oi := _) (v := ?va0) rfl (by kernel_rfl) (by kernel_rfl) (by kernel_rfl) (fun _ _ _ h => h) (Or.inl ⟨by rfl, ?hya0⟩) (by assumption) ?resta0
        case hya0 => (intro w hSw; (try dsimp only at hSw); go_split_ands; go_simp; try (with_reducible rfl))
        try simp only [List.getElem_toArray, List.getElem_cons_zero, List.getElem_cons_succ, Act.put, List.setIfInBounds_toArray, List.set_cons_zero, List.set_cons_succ]
        refine wpAnyH_take (i := 1) (oi := _) (v := ?va1) rfl (by kernel_rfl) (by kernel_rfl) (by kernel_rfl) (fun _ _ _ h => h) (Or.inl ⟨by rfl, ?hya1⟩) (by assumption) ?resta1
        case hya1 => (intro w hSw; (try dsimp only at hSw); go_split_ands; go_simp; try (with_reducible rfl))
        try simp only [List.getElem_toArray, List.getElem_cons_zero, List.getElem_cons_succ, Act.put, List.setIfInBounds_toArray, List.set_cons_zero, List.set_cons_succ]
        refine wpAnyH_take (i := 2) (oi := _) (v := ?va2) rfl (by kernel_rfl) (by kernel_rfl) (by kernel_rfl) (fun _ _ _ h => h) (Or.inl ⟨by rfl, ?hya2⟩) (by assumption) ?resta2
        case hya2 => (intro w hSw; (try dsimp only at hSw); go_split_ands; go_simp; try (with_reducible rfl))
        try simp only [List.getElem_toArray, List.getElem_cons_zero, List.getElem_cons_succ, Act.put, List.setIfInBounds_toArray, List.set_cons_zero, List.set_cons_succ]
        refine wpAnyH_take (i := 3) (oi := _) (v := .agg o.cs) rfl (by kernel_rfl) (by kernel_rfl) (by kernel_rfl) (fun _ _ _ h => h) (yldO o38 (by rfl) _ rfl b1 (off1 + j * 19) rfl o A1.out (fun w h => h.1.out)) (by assumption) ?_
        try simp only [List.getElem_toArray, List.getElem_cons_zero, List.getElem_cons_succ, Act.put, List.setIfInBounds_toArray, List.set_cons_zero, List.set_cons_succ]
        refine wpAnyH_take (i := 4) (oi := _) (v := ?va4) rfl (by kernel_rfl) (by kernel_rfl) (by kernel_rfl) (fun _ _ _ h => h) (Or.inl ⟨by rfl, ?hya4⟩) (by assumption) ?resta4
        case hya4 => (intro w hSw; (try dsimp only at hSw); go_split_ands; go_simp; try (with_reducible rfl))
        try simp only [List.getElem_toArray, List.getElem_cons_zero, List.getElem_cons_succ, Act.put, List.setIfInBounds_toArray, List.set_cons_zero, List.set_cons_succ]
        refine wpAnyH_take (i := 5) (oi := _) (v := ?va5) rfl (by kernel_rfl) (by kernel_rfl) (by kernel_rfl) (fun _ _ _ h => h) (Or.inl ⟨by rfl, ?hya5⟩) (by assumption) ?resta5
        case hya5 => (intro w hSw; (try dsimp only at hSw); go_split_ands; go_simp; try (with_reducible rfl))
        try simp only [List.getElem_toArray, List.getElem_cons_zero, List.getElem_cons_succ, Act.put, List.setIfInBounds_toArray, List.set_cons_zero, List.set_cons_succ]
        refine wpAnyH_take (i := 6) (oi := _) (v := ?va6) rfl (by kernel_rfl) (by kernel_rfl) (by kernel_rfl) (fun _ _ _ h => h) (Or.inl ⟨by rfl, ?hya6⟩) (by assumption) ?resta6
        case hya6 => (intro w hSw; (try dsimp only at hSw); go_split_ands; go_simp; try (with_reducible rfl))
        try simp only [List.getElem_toArray, List.getElem_cons_zero, List.getElem_cons_succ, Act.put, List.setIfInBounds_toArray, List.set_cons_zero, List.set_cons_succ]
        refine wpAnyH_take (i := 7) (oi := _) (v := .agg p.cs) rfl (by kernel_rfl) (by kernel_rfl) (by kernel_rfl) (fun _ _ _ h => h) (yldO o38 (by rfl) _ rfl b2 (off2 + j * 19) rfl p A2.out (fun w h => h.2.out)) (by assumption) ?_
        try simp only [List.getElem_toArray, List.getElem_cons_zero, List.getElem_cons_succ, Act.put, List.setIfInBounds_toArray, List.set_cons_zero, List.set_cons_succ]
        refine wpAnyH_ready (rs := [8]) (by kernel_rfl) (by simp) ?_
        refine AllReadyH.cons (o := _) rfl (fun K hK => ?_) AllReadyH.nil
        go_simp
        refine (refSame_any o p _ (by exact O1.out.drewN 1) (by exact O2.out.drewN 1)).mono ?_
        rintro e w4 ⟨rfl, hb4⟩
        have hb4 : Below wr.heap.size wr.drew w4 := hb4
        have hb5 : Below wr.heap.size wr w4 := (bdrew (Below.refl wr.heap.size wr) 1).trans hb4
        have B5 := hid (bthen hb.out hb5)
        have P3 := hid (Part.below P1.out hb5)
        have P4 := hid (Part.below P2.out hb5)
        clear hb4 hb5
        go_wp2_with fail
        refine hK.out _ _ ⟨P3.out, P4.out⟩ (fun hHeld => ?_)
        clear hK K
        try simp only [List.getElem_toArray, List.getElem_cons_zero, List.getElem_cons_succ, Act.put, List.setIfInBounds_toArray, List.set_cons_zero, List.set_cons_succ]
        refine wpAnyH_take (i := 9) (oi := _) (v := ?va9) rfl (by kernel_rfl) (by kernel_rfl) (by kernel_rfl) (fun _ _ _ h => h) (Or.inl ⟨by rfl, ?hya9⟩) (by assumption) ?resta9
        case hya9 => (intro w hSw; (try dsimp only at hSw); go_split_ands; go_simp; try (with_reducible rfl))
        try simp only [List.getElem_toArray, List.getElem_cons_zero, List.getElem_cons_succ, Act.put, List.setIfInBounds_toArray, List.set_cons_zero, List.set_cons_succ]
        refine wpAnyH_done (by kernel_rfl) ?_ _
        cases hc : o.p.eqB p.p
        · rw [hc] at HN
          go_wp2_with fail
          go_ret
          exact ⟨ret_bool (by rw [HF.out]; exact (HN.out (by simp)).symm), B5.out⟩
        · rw [hc] at HS
          go_wp2_with fail
          go_roundw
          case rel => exact ⟨j + 1, by omega, by go_num, by rw [Hid, HS.out, hall.out]; rfl, B5.out⟩
          case measure => simp [intOf]; omega
      · obtain rfl : j = n := by omega
        go_wp2_with fail
        go_ret
        exact ⟨ret_bool (by rw [HF.out]; exact hall.out.symm), hb.out⟩
  · have hne : ((n : Int) != (m : Int)) = true := by rw [bne_iff_ne]; omega
    have HF : Hid (fb = false) := by rw [Hid, HF.out]; simp [hnm]
    clear hnm
    go_enter Tryd.func20, Tryd.ntmps20
    go_wp2_with fail
    go_ret
    exact ⟨ret_bool HF.out.symm, Below.refl _ _⟩
end Go.Proofs.YtbgogeojdibmkaaDoor

namespace Go.Proofs.YtbgogeojdibmkaaDoor
open Go.ChangeShapes Go.WideShapes Go.ChangeAt Go.RowKit Go.Deep
set_option linter.unusedVariables false
set_option linter.unusedSimpArgs false

theorem of_law (a : Option Addr) (n cap : Nat) (L : List Ov) (w : World) (hL : Opts w a n cap L) (hn : n ≤ 1000) :
    Calls Tryd.prog 8 #[.slice a n cap] w fun e w' => (∃ a' cap', e = .returned (.slice a' n cap') ∧ Hid (Opts w' a' n cap' L)) ∧ Below w.heap.size w w' := by
  refine (of_any a n cap L w hL hn).mono ?_
  rintro e w' ⟨a', cap', rfl, hO, hb⟩
  exact ⟨⟨a', cap', rfl, hO⟩, hb⟩
theorem encE_bd (L : List Po) (h : L.length ≤ 1000) (hA : ∀ o ∈ L, o.ad.length = 16) : (encL L).length ≤ 1280 := by
  unfold encL
  split
  · rename_i h2; exact (encE_0 h2).2.2
  · simp
theorem partsB_oct (P : List (Int × Int)) (ad : List Int) (h : Oct ad) : ∀ n, Oct (partsB P n ad) := by
  induction P with
  | nil => intro n x hx; cases hx
  | cons q P ih =>
    intro n x hx
    rw [partsB] at hx
    split at hx
    · rcases List.mem_append.1 hx with e | e
      · exact h x e
      · exact ih _ x e
    · rcases List.mem_append.1 hx with e | e
      · exact digs_oct _ _ x e
      · exact ih _ x e
theorem encP_oct {o : Po} (h : chkP o = 0) (ha : Adr o.ad) (ht : Oct o.t) : Oct (encP o) := by
  obtain ⟨k, hk, hk10⟩ := knd_nat (chk0 h).1
  have hl := conP_le hk10 hk h ha.1
  have hc : Oct (conP k o) := by
    unfold conP
    split
    · intro x hx; have := (List.mem_replicate.1 hx).2; omega
    · intro x hx
      rcases List.mem_append.1 hx with e | e
      · exact partsB_oct _ _ ha.2 _ x e
      · exact ht x e
  unfold encP
  split
  · intro x hx; simp at hx; omega
  · rw [hk, Int.toNat_natCast]
    intro x hx
    rcases List.mem_cons.1 hx with e | e
    · omega
    · rcases List.mem_cons.1 e with e | e
      · omega
      · exact hc x e
theorem encL_oct {L : List Ov} (h : ∀ o ∈ L, Adr o.ad ∧ Oct o.t.l) : Oct (encL (pos L)) := by
  unfold encL
  split
  · rename_i h0
    have h1 := (encE_0 h0).2.1
    intro x hx
    obtain ⟨p, hp, hx⟩ := List.mem_flatMap.1 hx
    obtain ⟨o, ho, rfl⟩ := List.mem_map.1 hp
    exact encP_oct (h1 _ hp) (h o ho).1 (h o ho).2 x hx
  · intro x hx; cases hx
theorem decode_law {B : Nat} (a : Option Addr) (len cap : Nat) (X : List Ov) (w : World) (h : Lies .u8 w a len cap (encL (pos X))) (ho : Oct (encL (pos X))) (hl : len ≤ 100000) (hV : Vars B w) (hE : encE (pos X) = 0) (hA : ∀ o ∈ X, Adr o.ad) :
    Calls Tryd.prog 19 #[.slice a len cap] w fun e w' => (∃ a' m cap' L', e = .returned (.tuple #[.slice a' m cap', .int .i64 0]) ∧ m ≤ 16 ∧ Hid (Opts w' a' m cap' L') ∧ Hid (pos L' = pos X)) ∧ Below w.heap.size w w' := by
  have hd := dec_of hE (fun p hp => by obtain ⟨o, ho, rfl⟩ := List.mem_map.1 hp; exact (hA o ho).1)
  refine (decode_any a len cap (encL (pos X)) w h ho hl hV).mono ?_
  rintro e w' ⟨v, L, rfl, hb, hown, hO, hp, h16⟩
  obtain ⟨a', cap', rfl, hOp⟩ := owns_opts hown (fun o ho => (hO o ho).ok)
  rw [hd] at hp ⊢
  exact ⟨⟨a', L.length, cap', L, rfl, h16, hOp, hid (by simpa using hp)⟩, hb⟩
set_option maxRecDepth 1000000 in
set_option maxHeartbeats 6400000 in
theorem bytes_walk (a1 : Option Addr) (n1 c1 : Nat) (L1 : List Ov) (kind : Int) (w : World) (h1 : OptsW w a1 n1 c1 L1) (hkd : (Lit.int .i64 kind).wf = true) (hV : Vars w.heap.size w) :
    Calls Tryd.prog 3 #[.slice a1 n1 c1, .int .i64 kind] w fun e w' => e = .returned (.bool true) ∧ Below w.heap.size w w' := by
  have I1 := hid h1
  have HV := hid hV
  clear h1 hV hkd
  go_enter Tryd.func3, Tryd.ntmps3
  go_wp2_with fail
  refine (to_w a1 n1 c1 L1 _ I1.out).mono ?_
  rintro e w1 ⟨⟨xa, xn, xc, X, rfl, hx20, hX, hW⟩, hb1⟩
  have X1 := hid hX.out
  have XW := hid hW.out
  have XA : Hid (∀ o ∈ X, Adr o.ad) := fun o ho => (hX.out.ok o ho).ad
  have B1 := hid hb1
  have V1 := hid (HV.out.below hb1)
  clear hX hW hb1 I1 HV
  go_wp2_with fail
  refine (of_law xa xn xc X _ X1.out (by omega)).mono ?_
  rintro e w2 ⟨⟨ya, yc, rfl, hY⟩, hb2⟩
  have Y2 := hid hY.out
  have X2 := hid (X1.out.below hb2)
  have V2 := hid (V1.out.below hb2)
  have B2 := hid (bthen B1.out hb2)
  clear hY hb2 X1 V1 B1
  go_wp2_with fail
  refine (encode_any xa xn xc X _ X2.out V2.out (by omega)).mono ?_
  rintro e w3 ⟨v3, rfl, hown3, hb3⟩
  have HXL : Hid ((pos X).length ≤ 1000) := by rw [Hid, pos_len, X2.out.len]; omega
  have hl3 := encE_bd (pos X) HXL.out (fun p hp => by obtain ⟨o, ho, rfl⟩ := List.mem_map.1 hp; exact (XA.out o ho).1)
  obtain ⟨ba, bc, rfl, hb8, ho8⟩ := owns_lies hown3
  have Y3 := hid (Y2.out.below hb3)
  have X3 := hid (X2.out.below hb3)
  have V3 := hid (V2.out.below hb3)
  have B3 := hid (bthen B2.out hb3)
  have LB3 := hid hb8
  clear hown3 hb3 X2 Y2 V2 B2 hb8
  go_wp2_with fail
  refine (refEncodeAll_any ya xn yc X _ Y3.out XW.out (by omega)).mono ?_
  rintro e w4 ⟨v4, rfl, hown4, hb4⟩
  obtain ⟨ca, cc, rfl, hc8, _⟩ := owns_lies hown4
  have Y4 := hid (Y3.out.below hb4)
  have X4 := hid (X3.out.below hb4)
  have V4 := hid (V3.out.below hb4)
  have B4 := hid (bthen B3.out hb4)
  have LB4 := hid (LB3.out.below hb4)
  have LC4 := hid hc8
  have OO := hid ho8
  clear hown4 hb4 X3 Y3 V3 B3 hc8 LB3 ho8
  generalize hbl : (encL (pos X)).length = bl at *
  have HBL := hid hbl
  clear hbl
  generalize hee : encE (pos X) = ee at *
  have HEE := hid hee
  clear hee
  go_wp2_with fail
  refine (same_any ba ca bl bc bl cc _ _ _ LB4.out LC4.out).mono ?_
  rintro e w5 ⟨rfl, q, rfl⟩
  have hsm : (encL (pos X) == encL (pos X)) = true := by simp
  rw [hsm]
  have Y5 := hid (Y4.out.below (bdrew (Below.refl _ _) q))
  have X5 := hid (X4.out.below (bdrew (Below.refl _ _) q))
  have V5 := hid (V4.out.below (bdrew (Below.refl _ _) q))
  have LB5 := hid (LB4.out.below (bdrew (Below.refl _ _) q))
  have B5 := hid (bdrew B4.out q)
  generalize w4.drewN q = wq at *
  clear LB4 LC4 X4 Y4 V4 B4 hsm
  go_wp2_with fail
  refine (word_any kind _ V5.out).mono ?_
  rintro e w6 ⟨rfl, rfl⟩
  go_wp2_with fail
  refine (refWord_any kind _).mono ?_
  rintro e w7 ⟨rfl, hb7⟩
  have Y7 := hid (Y5.out.below hb7)
  have X7 := hid (X5.out.below hb7)
  have V7 := hid (V5.out.below hb7)
  have LB7 := hid (LB5.out.below hb7)
  have B7 := hid (bthen B5.out hb7)
  clear hb7 X5 Y5 V5 LB5 B5
  generalize wordOf kind = wk at *
  go_wp2_with fail
  go_loopw [11] (fun i wr => ∃ j : Nat, j ≤ xn ∧ i = .int .i64 j ∧ Hid (Below w7.heap.size w7 wr)) (fun i _ => xn - (intOf i).toNat)
  case atStart => exact ⟨0, Nat.zero_le _, rfl, Below.refl _ _⟩
  case round =>
    obtain ⟨j, hj, rfl, hbo⟩ := hrel
    by_cases hlt : j < xn
    · have hlt' : (j : Int) < (xn : Int) := by omega
      have hX1 := X7.out.below hbo.out
      have hY1 := Y7.out.below hbo.out
      have V1 := hid (V7.out.below hbo.out)
      obtain ⟨xb, xoff, rfl, hxp⟩ := hX1.cell j hlt
      obtain ⟨yb, yoff, rfl, hyp⟩ := hY1.cell j hlt
      have hjl : j < X.length := by rw [X7.out.len]; exact hlt
      have hok := hX1.at j hlt
      have hmem : X.getD j Ov.zero ∈ X := by simp [hjl]
      have HW1 := hid (XW.out _ hmem)
      generalize hoo : X.getD j Ov.zero = o at *
      have PX1 := hid hxp
      have PY1 := hid hyp
      have OK1 := hid hok
      have HA := hid hok.ad
      have B1 := hbo
      clear hX1 hY1 hxp hyp hok hoo hmem hjl
      go_wp2_with (with_reducible refine wpl_id ?_; refine ldO o38 _ rfl rfl _ _ rfl o HA.out PY1.out ?_)
      refine (refCheck_any o _ OK1.out HW1.out).mono ?_
      rintro e w2 ⟨rfl, hb2⟩
      have PX2 := hid (PX1.out.below hb2)
      have PY2 := hid (PY1.out.below hb2)
      have OK2 := hid (OK1.out.below hb2)
      have V2 := hid (V1.out.below hb2)
      have B2 := hid (bthen B1.out hb2)
      clear hb2 PX1 PY1 OK1 V1 B1
      by_cases hc : chkP o.p = 0
      · have HC := hid hc
        have HSz : Hid (sizP o.p = ((encP o.p).length : Int)) := by rw [Hid, sizP, if_pos hc]
        rw [hc]
        clear hc
        go_wp2_with (with_reducible refine wpl_id ?_; refine ldO o38 _ rfl rfl _ _ rfl o HA.out PY2.out ?_)
        refine (refEncode_any o _ OK2.out HC.out).mono ?_
        rintro e w3 ⟨v3, rfl, hown3, hb3⟩
        obtain ⟨a3, c3, rfl⟩ := owns_len hown3
        have PX4 := hid (PX2.out.below hb3)
        have OK4 := hid (OK2.out.below hb3)
        have V4 := hid (V2.out.below hb3)
        have B4 := hid (bthen B2.out hb3)
        clear hb3 hown3 PX2 PY2 OK2 V2 B2
        generalize (encP o.p).length = el at *
        go_wp2_with (with_reducible refine wpl_id ?_; refine ldO o43 _ rfl rfl _ _ rfl o HA.out PX4.out ?_)
        refine (check_any o _ OK4.out V4.out).mono ?_
        rintro e w5 ⟨rfl, hb5⟩
        have PX5 := hid (PX4.out.below hb5)
        have OK5 := hid (OK4.out.below hb5)
        have V5 := hid (V4.out.below hb5)
        have B5 := hid (bthen B4.out hb5)
        clear hb5 PX4 OK4 V4 B4
        rw [HC.out]
        go_wp2_with (with_reducible refine wpl_id ?_; refine ldO o43 _ rfl rfl _ _ rfl o HA.out PX5.out ?_)
        refine (size_any o _ OK5.out V5.out).mono ?_
        rintro e w6 ⟨rfl, hb6⟩
        rw [HSz.out]
        have B6 := hid (bthen B5.out hb6)
        clear hb6 PX5 OK5 V5 B5
        go_wp2_with fail
        go_roundw
        case rel => exact ⟨j + 1, by omega, by go_num, B6.out⟩
        case measure => simp [intOf]; omega
      · generalize hck : chkP o.p = ck at *
        have hc1 : (ck == 0) = false := by simp [hc]
        have HSz : Hid (sizP o.p = 0) := by rw [Hid, sizP, if_neg (by rw [hck]; exact hc)]
        have HCK := hid hck
        clear hck hc
        have PX4 := PX2
        have OK4 := OK2
        have V4 := V2
        have B4 := B2
        clear PX2 PY2 OK2 V2 B2
        go_wp2_with (with_reducible refine wpl_id ?_; refine ldO o43 _ rfl rfl _ _ rfl o HA.out PX4.out ?_)
        refine (check_any o _ OK4.out V4.out).mono ?_
        rintro e w5 ⟨rfl, hb5⟩
        have PX5 := hid (PX4.out.below hb5)
        have OK5 := hid (OK4.out.below hb5)
        have V5 := hid (V4.out.below hb5)
        have B5 := hid (bthen B4.out hb5)
        clear hb5 PX4 OK4 V4 B4
        rw [HCK.out]
        go_wp2_with (with_reducible refine wpl_id ?_; refine ldO o43 _ rfl rfl _ _ rfl o HA.out PX5.out ?_)
        refine (size_any o _ OK5.out V5.out).mono ?_
        rintro e w6 ⟨rfl, hb6⟩
        rw [HSz.out]
        have B6 := hid (bthen B5.out hb6)
        clear hb6 PX5 OK5 V5 B5
        go_wp2_with fail
        go_roundw
        case rel => exact ⟨j + 1, by omega, by go_num, B6.out⟩
        case measure => simp [intOf]; omega
    · obtain rfl : j = xn := by omega
      have X8 := hid (X7.out.below hbo.out)
      have Y8 := hid (Y7.out.below hbo.out)
      have V8 := hid (V7.out.below hbo.out)
      have LB8 := hid (LB7.out.below hbo.out)
      have B8 := hid (bthen B7.out hbo.out)
      clear X7 Y7 V7 LB7 B7 hbo
      by_cases he : ee = 0
      · subst he
        go_wp2_with fail
        refine (decode_law ba bl bc X _ LB8.out (encL_oct (fun o ho => ⟨XA.out o ho, (X8.out.ok o ho).oct⟩)) (by omega) V8.out HEE.out XA.out).mono ?_
        rintro e w9 ⟨⟨za, zn, zc, Z, rfl, hz16, hZ, hZp⟩, hb9⟩
        have X9 := hid (X8.out.below hb9)
        have Y9 := hid (Y8.out.below hb9)
        have V9 := hid (V8.out.below hb9)
        have B9 := hid (bthen B8.out hb9)
        have Z9 := hid hZ.out
        have HZP := hid hZp.out
        clear hb9 hZ hZp X8 Y8 V8 B8 LB8
        go_wp2_with fail
        refine (known_any _ V9.out).mono ?_
        rintro e w10 ⟨rfl, hb10⟩
        have X10 := hid (X9.out.below hb10)
        have Y10 := hid (Y9.out.below hb10)
        have Z10 := hid (Z9.out.below hb10)
        have B10 := hid (bthen B9.out hb10)
        clear hb10 X9 Y9 V9 B9 Z9
        go_wp2_with fail
        refine (of_law za zn zc Z _ Z10.out (by omega)).mono ?_
        rintro e w11 ⟨⟨oa, oc, rfl, hO⟩, hb11⟩
        have X11 := hid (X10.out.below hb11)
        have Y11 := hid (Y10.out.below hb11)
        have Z11 := hid (Z10.out.below hb11)
        have B11 := hid (bthen B10.out hb11)
        have O11 := hid hO.out
        clear hb11 X10 Y10 B10 Z10 hO
        go_wp2_with fail
        refine (refAll_any oa ya zn oc j yc Z X _ O11.out Y11.out).mono ?_
        rintro e w12 ⟨rfl, hb12⟩
        have X12 := hid (X11.out.below hb12)
        have Z12 := hid (Z11.out.below hb12)
        have B12 := hid (bthen B11.out hb12)
        clear hb12 X11 Y11 B11 Z11 O11
        rw [HZP.out, allB_self]
        go_wp2_with fail
        refine (oSame_any za xa zn zc j xc Z X _ Z12.out X12.out).mono ?_
        rintro e w13 ⟨rfl, hb13⟩
        have B13 := hid (bthen B12.out hb13)
        clear hb13 X12 B12 Z12
        rw [HZP.out, allB_self]
        go_wp2_with fail
        go_ret
        exact ⟨rfl, B13.out⟩
      · have he1 : (ee != 0) = true := by rw [bne_iff_ne]; exact he
        go_wp2_with fail
        refine (known_any _ V8.out).mono ?_
        rintro e w10 ⟨rfl, hb10⟩
        have B10 := hid (bthen B8.out hb10)
        clear hb10
        go_wp2_with fail
        go_ret
        exact ⟨rfl, B10.out⟩
end Go.Proofs.YtbgogeojdibmkaaDoor

namespace Go.Proofs.YtbgogeojdibmkaaDoor
open Go.ChangeShapes Go.WideShapes Go.ChangeAt Go.RowKit Go.Deep
set_option linter.unusedVariables false
set_option linter.unusedSimpArgs false
set_option maxRecDepth 100000

theorem own : ownKnob Tryd.prog.godebug = none := by kernel_rfl
theorem laidOut : laidOutB Tryd.prog = true := by kernel_rfl
noncomputable def lowW : Nat := (World.holding Tryd.prog default ⟨#[], #[], []⟩).heap.size
def put (c : Array Value) : Obj → Obj
  | .cells _ t frozen => .cells c t frozen
  | o => o
def pblk (k : Nat) : Obj := .cells (pcs (prt k)).toArray 87
noncomputable def shc (k : Nat) (j : Nat) : List Value := [.string (wrd k), .slice (some ⟨lowW + j, 0, none⟩) (prt k).length (prt k).length, .bool (zer k), .bool (txb k)]
def shn (k : Nat) : List Value := [.string (wrd k), .slice none 0 0, .bool (zer k), .bool (txb k)]
noncomputable def shAll : Array Value := (shn 0 ++ (shc 1 0 ++ (shn 2 ++ (shc 3 1 ++ (shc 4 2 ++ (shc 5 3 ++ (shc 6 4 ++ (shc 7 5 ++ (shc 8 6 ++ shc 9 7))))))))).toArray
noncomputable def laidWorld (os : Os) : World :=
  let w0 := World.holding Tryd.prog os ⟨#[pblk 1, pblk 3, pblk 4, pblk 5, pblk 6, pblk 7, pblk 8, pblk 9], #[], []⟩
  { w0 with heap := w0.heap.modify 0 (put shAll) }
set_option maxRecDepth 100000 in
theorem laid_met (os : Os) (args : Array Value) : laidMet Tryd.prog Rows.optionJoinsRow.laid ((laidWorld os).forCall (fun _ _ => 0) ⟨#[], args, []⟩).memory :=
  laidMet_of_run' 8 (by kernel_rfl) (by kernel_rfl)
end Go.Proofs.YtbgogeojdibmkaaDoor
