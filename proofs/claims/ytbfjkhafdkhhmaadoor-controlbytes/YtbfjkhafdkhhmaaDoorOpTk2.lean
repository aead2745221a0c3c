/- Reading: takeParts. -/
import Derived.Test.YtbfjkhafdkhhmaaDoorM18
namespace Go.Proofs.YtbfjkhafdkhhmaaDoor
open Go.ChangeShapes Go.WideShapes Go.ChangeAt Go.RowKit Go.Deep
set_option linter.unusedVariables false
set_option linter.unusedSimpArgs false

/-- Where takeParts stands. -/
def TkAt (base : Nat) (w wr : World) (p c g : Nat) (gv : Value) (a : Option Addr) (len cap : Nat) (l : List Int) (k : Int) (s : Nat × List Int × List Int) : Prop :=
  ∃ o : Ov, RdAt base w wr p c g gv a len cap l s.1 0 o ∧ o.p = ⟨k, s.2.1, s.2.2, []⟩
theorem prt_all : ∀ k, k < 10 → (∀ p ∈ prt k, (p.1 == 16) = true ∨ sizeB p.1 = true) ∧ (∀ i, i ≤ (prt k).length → sumP ((prt k).take i) ≤ sumP (prt k)) := by decide
theorem stps_n (l : List Int) (P : List (Int × Int)) (j : Nat) (hj : j ≤ P.length) : (stps l (P.take j)).2.1.length ≤ j := by
  induction j with
  | zero => simp [stps]
  | succ j ih =>
    have := ih (by omega)
    rw [stps_succ l P j (by omega), stp]
    split
    · simp; omega
    · simp; omega
/-- A number is appended, and the list laid in. -/
theorem RdAt.push {base : Nat} {w wr w' : World} {p c g : Nat} {gv : Value} {a : Option Addr} {len cap : Nat} {l : List Int} {at_ : Nat} {er : Int} {o : Ov} (h : RdAt base w wr p c g gv a len cap l at_ er o) (hg : wr.grownBy w' o.n.v.ownBlock) (na : Option Addr) (nc : Nat) (L : List Int) (m : Nat) (hm : L.length = m) (hn : w'.ownsRow base 3 1 (.slice na m nc) m (i64s L)) :
    RdAt base w (w'.setCell ⟨g, 1, none⟩ (.slice na m nc)) p c g gv a len cap l at_ er (o.setN ⟨na, m, nc, L⟩) := by
  subst hm
  obtain ⟨h1, h2, h3, h4, h5, h6⟩ := h.grow hg
  have hs := grownBy_setCell w' g 1 (.slice na L.length nc)
  refine ⟨h1.other _ _ (h1.ne h4 (by decide)), h2.other (fun e => h2.row.ne h4 (by decide) (Option.some.inj e)) (fun ad e => by have := own_row h3 h4 (by decide); rw [e] at this; exact this) hs, h3.kept hs (.inr (own_row h3 h4 (by decide))), ?_, ⟨hn.kept hs (.inr (own_row hn h4 (by decide))), rfl, h.own.ad, h5.kept hs (.inr (own_row h5 h4 (by decide))), h.own.tn, h.own.oct⟩,
    Below.grown h6 hs (Nat.le_of_lt (Nat.lt_of_le_of_lt h.hg h4.lt)) (fun k hk => by cases hk; exact h.hg), h.hc, h.hg⟩
  rw [← Ov.set1]
  exact h4.set 1 _
set_option maxRecDepth 100000 in
set_option maxHeartbeats 1600000 in
theorem takeParts_any {B base : Nat} (k : Nat) (hk : k < 10) (w w0 : World) (p c g : Nat) (gv : Value) (a : Option Addr) (len cap : Nat) (l : List Int) (o : Ov) (h : RdAt base w w0 p c g gv a len cap l 0 0 o) (hop : o.p = ⟨k, [], zeros, []⟩) (hV : Vars B w0) (hB : B ≤ base) (hsum : sumP (prt k) = len) :
    Calls Tryd.prog 110 #[.pointer (some ⟨p, 0, none⟩), .pointer (some ⟨g, 0, none⟩)] w0 fun e w' => e = .returned (.tuple #[]) ∧ Hid (TkAt base w w' p c g gv a len cap l k (stps l (prt k))) := by
  obtain ⟨pa, n, pc, c1, hP⟩ := hV.parts k hk
  have hsm := (prt_small k hk).1
  have hn10 : n ≤ 10 := by rw [← hP.len]; exact hsm
  have HS := hid (prt_all k hk)
  have HV := hid hV
  have HP := hid hP
  have H := hid h
  have HO := hid hop
  have HSum := hid hsum
  have c0 : w0.cell? ⟨g, 0, none⟩ = some (.int .i64 k) := by rw [(h.row.cell 0).trans o.at0, show o.k = k from congrArg Po.k hop]
  have HLen : Hid ((l.length : Int) = len) := by rw [Hid, h.cur.lies.1]
  generalize prt k = P at *
  clear hV hP hsm h hop hsum
  go_enter Tryd.func110, Tryd.ntmps110
  go_wp2_with fail
  go_loopw [14] (fun i wr => ∃ j : Nat, j ≤ n ∧ i = .int .i64 j ∧ Hid (TkAt base w wr p c g gv a len cap l k (stps l (P.take j)))) (fun i _ => n - (intOf i).toNat)
  case atStart => exact ⟨0, Nat.zero_le _, rfl, o, H.out, HO.out⟩
  case round =>
    obtain ⟨j, hj, rfl, ht⟩ := hrel
    by_cases hlt : j < n
    · obtain ⟨o1, h1, hp1⟩ := ht.out
      have hjP : j < P.length := by rw [HP.out.len]; exact hlt
      obtain ⟨b, off, rfl, hbB, hc0, hc1⟩ := (HP.out.same (fun b o hb => (h1.below.cell (p := ⟨b, o, none⟩) (Nat.lt_of_lt_of_le hb hB)).trans (H.out.below.cell (p := ⟨b, o, none⟩) (Nat.lt_of_lt_of_le hb hB)).symm)).cell j hlt
      have a1 := stps_at l P HS.out.1 j (by omega)
      have a2 := sumP_succ P j hjP
      have a3 := HS.out.2 (j + 1) hjP
      have HNx := hid (stps_succ l P j hjP)
      have HD := hid (stps_adr l P HS.out.1 h1.cur.oct (HSum.out.trans HLen.out.symm) (j + 1) hjP HS.out.2)
      have hs2 := stps_n l P j (by omega)
      have hcase := HS.out.1 _ (show P.getD j (0, 0) ∈ P by simp [hjP])
      rw [HSum.out, a2, ← a1] at a3
      rw [HNx.out] at HD
      clear a1 a2 ht hjP
      generalize P.getD j (0, 0) = q at *
      generalize stps l (P.take j) = s at *
      obtain ⟨x, y⟩ := q
      obtain ⟨s1, s2, s3⟩ := s
      simp only at hc0 hc1 a3 hcase h1 hp1 hs2
      have hle1 : (s1 : Int) + x ≤ len := a3
      have HLs : Hid (s2.length = o1.n.n) := by rw [Hid, h1.own.nn, show o1.n.l = s2 from congrArg Po.n hp1]
      have HN1 : Hid (o1.n.l = s2) := congrArg Po.n hp1
      have HO1 : Hid (o1.n.a = o1.n.a ∧ o1.n.n = o1.n.n ∧ o1.n.cap = o1.n.cap) := ⟨rfl, rfl, rfl⟩
      have hn1 : o1.n.n ≤ 10 := by rw [← HLs.out]; omega
      generalize hna1 : o1.n.a = na1 at *
      generalize hnn1 : o1.n.n = n1 at *
      generalize hnc1 : o1.n.cap = nc1 at *
      replace HO1 : Hid (o1.n.a = na1 ∧ o1.n.n = n1 ∧ o1.n.cap = nc1) := ⟨hna1, hnn1, hnc1⟩
      have HP1 : Hid (o1.k = k ∧ o1.n.l = s2 ∧ o1.ad = s3 ∧ o1.t.l = []) := ⟨congrArg Po.k hp1, congrArg Po.n hp1, congrArg Po.ad hp1, congrArg Po.t hp1⟩
      have R0 := hid (Row.new wr 160 #[.int .i64 x, .int .i64 y])
      have H2 := hid (h1.on (balloc (Below.refl wr.heap.size wr) (.cells #[.int .i64 x, .int .i64 y] 160)))
      clear hna1 hnn1 hnc1 h1 hp1 a3
      cases h16 : (x == 16)
      · have hz : sizeB x = true := by rcases hcase with e | e; · exact absurd e (by rw [h16]; simp)
                                       · exact e
        clear hcase
        go_wp2_with fail
        refine (isAddress_any _ _ _).mono ?_
        rintro e w1 ⟨rfl, hb1⟩
        have H3 := hid (H2.out.on hb1)
        have R1 := hid (R0.out.below hb1)
        clear hb1 H2 R0
        rw [h16]
        generalize wr.heap.size = t at *
        go_wp2_with fail
        refine wp_region_held_drew (S := fun w' => w'.cell? ⟨p, 0, none⟩ = some (.pointer (some ⟨c, 0, none⟩)) ∧ w'.cell? ⟨t, 0, none⟩ = some (.int .i64 x)) (by kernel_rfl) ?_ (fun hHeld => ?_)
        · exact ⟨H3.out.r.cell 0, (R1.out.cell 0)⟩
        refine wpAnyH_take (i := 0) (oi := _) (v := ?va0) rfl (by kernel_rfl) (by kernel_rfl) (by kernel_rfl) (fun _ _ _ h => h) (Or.inl ⟨by rfl, ?hya0⟩) (by assumption) ?resta0
        case hya0 => (intro w hSw; (try dsimp only at hSw); go_split_ands; go_simp; try (with_reducible rfl))
        try simp only [List.getElem_toArray, List.getElem_cons_zero, List.getElem_cons_succ, Act.put, List.setIfInBounds_toArray, List.set_cons_zero, List.set_cons_succ]
        refine wpAnyH_take (i := 1) (oi := _) (v := ?va1) rfl (by kernel_rfl) (by kernel_rfl) (by kernel_rfl) (fun _ _ _ h => h) (Or.inl ⟨by rfl, ?hya1⟩) (by assumption) ?resta1
        case hya1 => (intro w hSw; (try dsimp only at hSw); go_split_ands; go_simp; try (with_reducible rfl))
        try simp only [List.getElem_toArray, List.getElem_cons_zero, List.getElem_cons_succ, Act.put, List.setIfInBounds_toArray, List.set_cons_zero, List.set_cons_succ]
        refine wpAnyH_take (i := 2) (oi := _) (v := ?va2) rfl (by kernel_rfl) (by kernel_rfl) (by kernel_rfl) (fun _ _ _ h => h) (Or.inl ⟨by rfl, ?hya2⟩) (by assumption) ?resta2
        case hya2 => (intro w hSw; (try dsimp only at hSw); go_split_ands; go_simp; try (with_reducible rfl))
        try simp only [List.getElem_toArray, List.getElem_cons_zero, List.getElem_cons_succ, Act.put, List.setIfInBounds_toArray, List.set_cons_zero, List.set_cons_succ]
        refine wpAnyH_take (i := 3) (oi := _) (v := ?va3) rfl (by kernel_rfl) (by kernel_rfl) (by kernel_rfl) (fun _ _ _ h => h) (Or.inl ⟨by rfl, ?hya3⟩) (by assumption) ?resta3
        case hya3 => (intro w hSw; (try dsimp only at hSw); go_split_ands; go_simp; try (with_reducible rfl))
        try simp only [List.getElem_toArray, List.getElem_cons_zero, List.getElem_cons_succ, Act.put, List.setIfInBounds_toArray, List.set_cons_zero, List.set_cons_succ]
        refine wpAnyH_take (i := 5) (oi := _) (v := ?va5) rfl (by kernel_rfl) (by kernel_rfl) (by kernel_rfl) (fun _ _ _ h => h) (Or.inl ⟨by rfl, ?hya5⟩) (by assumption) ?resta5
        case hya5 => (intro w hSw; (try dsimp only at hSw); go_split_ands; go_simp; try (with_reducible rfl))
        try simp only [List.getElem_toArray, List.getElem_cons_zero, List.getElem_cons_succ, Act.put, List.setIfInBounds_toArray, List.set_cons_zero, List.set_cons_succ]
        refine wpAnyH_take (i := 6) (oi := _) (v := ?va6) rfl (by kernel_rfl) (by kernel_rfl) (by kernel_rfl) (fun _ _ _ h => h) (Or.inl ⟨by rfl, ?hya6⟩) (by assumption) ?resta6
        case hya6 => (intro w hSw; (try dsimp only at hSw); go_split_ands; go_simp; try (with_reducible rfl))
        try simp only [List.getElem_toArray, List.getElem_cons_zero, List.getElem_cons_succ, Act.put, List.setIfInBounds_toArray, List.set_cons_zero, List.set_cons_succ]
        refine wpAnyH_take (i := 7) (oi := _) (v := ?va7) rfl (by kernel_rfl) (by kernel_rfl) (by kernel_rfl) (fun _ _ _ h => h) (Or.inl ⟨by rfl, ?hya7⟩) (by assumption) ?resta7
        case hya7 => (intro w hSw; (try dsimp only at hSw); go_split_ands; go_simp; try (with_reducible rfl))
        try simp only [List.getElem_toArray, List.getElem_cons_zero, List.getElem_cons_succ, Act.put, List.setIfInBounds_toArray, List.set_cons_zero, List.set_cons_succ]
        refine wpAnyH_take (i := 8) (oi := _) (v := ?va8) rfl (by kernel_rfl) (by kernel_rfl) (by kernel_rfl) (fun _ _ _ h => h) (Or.inl ⟨by rfl, ?hya8⟩) (by assumption) ?resta8
        case hya8 => (intro w hSw; (try dsimp only at hSw); go_split_ands; go_simp; try (with_reducible rfl))
        try simp only [List.getElem_toArray, List.getElem_cons_zero, List.getElem_cons_succ, Act.put, List.setIfInBounds_toArray, List.set_cons_zero, List.set_cons_succ]
        refine wpAnyH_take (i := 9) (oi := _) (v := ?va9) rfl (by kernel_rfl) (by kernel_rfl) (by kernel_rfl) (fun _ _ _ h => h) (Or.inl ⟨by rfl, ?hya9⟩) (by assumption) ?resta9
        case hya9 => (intro w hSw; (try dsimp only at hSw); go_split_ands; go_simp; try (with_reducible rfl))
        try simp only [List.getElem_toArray, List.getElem_cons_zero, List.getElem_cons_succ, Act.put, List.setIfInBounds_toArray, List.set_cons_zero, List.set_cons_succ]
        refine wpAnyH_take (i := 10) (oi := _) (v := ?va10) rfl (by kernel_rfl) (by kernel_rfl) (by kernel_rfl) (fun _ _ _ h => h) (Or.inl ⟨by rfl, ?hya10⟩) (by assumption) ?resta10
        case hya10 => (intro w hSw; (try dsimp only at hSw); go_split_ands; go_simp; try (with_reducible rfl))
        try simp only [List.getElem_toArray, List.getElem_cons_zero, List.getElem_cons_succ, Act.put, List.setIfInBounds_toArray, List.set_cons_zero, List.set_cons_succ]
        refine wpAnyH_ready (rs := [4, 11]) (by kernel_rfl) (by simp) ?_
        refine AllReadyH.cons (o := _) rfl (fun K hK => ?_) (AllReadyH.cons (o := _) rfl (fun K hK => ?_) AllReadyH.nil)
        · have cn : w1.drew.cell? ⟨g, 1, none⟩ = some (.slice na1 n1 nc1) := (H3.out.row.cell 1).trans (by rw [o1.at1, HO1.out.1, HO1.out.2.1, HO1.out.2.2])
          go_simp
          go_wp2_with fail
          refine hK.out _ _ ⟨H3.out.r.cell 0, (R1.out.cell 0)⟩ (fun hHeld => ?_)
          clear hK K
          try simp only [List.getElem_toArray, List.getElem_cons_zero, List.getElem_cons_succ, Act.put, List.setIfInBounds_toArray, List.set_cons_zero, List.set_cons_succ]
          clear cn
          refine wpAnyH_ready (rs := [11]) (by kernel_rfl) (by simp) ?_
          refine AllReadyH.cons (o := _) rfl (fun K hK => ?_) AllReadyH.nil
          go_simp
          refine (take_n _ c a len cap s1 l x (H3.out.cur.drewN _) hz hle1).mono ?_
          rintro e w2 ⟨rfl, hc, hg, hs⟩
          have H4 := hid ((H3.out.drewN _).read hc hg)
          have R2 := hid (Row.kept (R1.out.drewN _) hg (fun e => R1.out.ne H3.out.cur.row (by decide) (Option.some.inj e)))
          clear hc hg hs H3 R1
          generalize hv : numOf ((l.drop s1).take x.toNat) = v at *
          have HVV := hid hv
          clear hv
          go_wp2_with fail
          refine hK.out _ _ ⟨H4.out.r.cell 0, (R2.out.cell 0)⟩ (fun hHeld => ?_)
          clear hK K
          try simp only [List.getElem_toArray, List.getElem_cons_zero, List.getElem_cons_succ, Act.put, List.setIfInBounds_toArray, List.set_cons_zero, List.set_cons_succ]
          refine wpAnyH_ready (rs := [12]) (by kernel_rfl) (by simp) ?_
          refine AllReadyH.cons (o := _) rfl (fun K hK => ?_) AllReadyH.nil
          go_simp
          have BA := hid (balloc (Below.refl w2.heap.size w2) (.cells #[.int .i64 v] 3))
          have H5 := hid (H4.out.on BA.out)
          have R3 := hid (R2.out.alloc (.cells #[.int .i64 v] 3))
          have LN := hid (lies_new .i64 w2 #[.int .i64 v] 3 [v] rfl (by simp))
          have NN : Hid ((w2.alloc (.cells #[.int .i64 v] 3)).ownsRow base 3 1 (.slice na1 n1 nc1) n1 (i64s s2)) := by
            have := H5.out.own.n
            rw [← H5.out.own.nn, HN1.out, Txt.v, HO1.out.1, HO1.out.2.1, HO1.out.2.2] at this
            exact this
          go_wp2_with fail
          refine hK.out _ _ ⟨H5.out.r.cell 0, (R3.out.cell 0)⟩ (fun hHeld => ?_)
          clear hK K
          try simp only [List.getElem_toArray, List.getElem_cons_zero, List.getElem_cons_succ, Act.put, List.setIfInBounds_toArray, List.set_cons_zero, List.set_cons_succ]
          refine wpAnyH_ready (rs := [13]) (by kernel_rfl) (by simp) ?_
          refine AllReadyH.cons (o := _) rfl (fun K hK => ?_) AllReadyH.nil
          refine step_appI (base := base) (n := n1) (m := 1) (xs := s2) (l := [v]) rfl _ _ rfl rfl rfl (by exact NN.out) (by exact LN.out) (by exact H5.out.size) (by omega) ?_
          intro v4 w4 hown4 hg4
          obtain ⟨na, nc, rfl⟩ := owns_len hown4
          have HG : Hid ((w2.alloc (.cells #[.int .i64 v] 3)).grownBy w4 o1.n.v.ownBlock) := by rw [Hid, Txt.v, HO1.out.1, HO1.out.2.1, HO1.out.2.2]; exact hg4
          have HL4 : (s2 ++ [v]).length = n1 + 1 := by rw [List.length_append, HLs.out]; rfl
          have H6 := hid (RdAt.push H5.out HG.out na nc (s2 ++ [v]) (n1 + 1) HL4 hown4)
          obtain ⟨g1, _, _, g4, _, _⟩ := H5.out.grow HG.out
          have P6 := hid g1
          have O6 := hid g4
          have R4 := hid (R3.out.kept HG.out (fun e => own_row H5.out.own.n R3.out (by decide) e.symm))
          clear hown4 hg4 g1 g4 HG H5 R3 LN NN HL4
          refine hK.out _ _ ⟨P6.out.cell 0, (R4.out.cell 0)⟩ (fun hHeld => ?_)
          clear hK K
          try simp only [List.getElem_toArray, List.getElem_cons_zero, List.getElem_cons_succ, Act.put, List.setIfInBounds_toArray, List.set_cons_zero, List.set_cons_succ]
          have f1 := O6.out.frozen 1
          have cn := (O6.out.cell 1).trans o1.at1
          refine wpAnyH_take (i := 14) (oi := _) (v := ?vc14) rfl (by kernel_rfl) (by kernel_rfl) (by kernel_rfl) (fun _ _ _ h => h) (Or.inl ⟨by rfl, ?hyc14⟩) (by assumption) ?restc14
          case hyc14 => (intro w hSw; (try dsimp only at hSw); go_split_ands; go_simp; try (with_reducible rfl))
          try simp only [List.getElem_toArray, List.getElem_cons_zero, List.getElem_cons_succ, Act.put, List.setIfInBounds_toArray, List.set_cons_zero, List.set_cons_succ]
          refine wpAnyH_take (i := 15) (oi := _) (v := ?vc15) rfl (by kernel_rfl) (by kernel_rfl) (by kernel_rfl) (fun _ _ _ h => h) (Or.inl ⟨by rfl, ?hyc15⟩) (by assumption) ?restc15
          case hyc15 => (intro w hSw; (try dsimp only at hSw); go_split_ands; go_simp; try (with_reducible rfl))
          try simp only [List.getElem_toArray, List.getElem_cons_zero, List.getElem_cons_succ, Act.put, List.setIfInBounds_toArray, List.set_cons_zero, List.set_cons_succ]
          refine wpAnyH_ready (rs := [16]) (by kernel_rfl) (by simp) ?_
          refine AllReadyH.cons (o := _) rfl (fun K hK => ?_) AllReadyH.nil
          go_simp
          go_wp2_with fail
          refine hK.out _ _ ⟨(P6.out.other _ _ (P6.out.ne O6.out (by decide))).cell 0, (R4.out.other _ _ (R4.out.ne O6.out (by decide))).cell 0⟩ (fun hHeld => ?_)
          clear hK K
          try simp only [List.getElem_toArray, List.getElem_cons_zero, List.getElem_cons_succ, Act.put, List.setIfInBounds_toArray, List.set_cons_zero, List.set_cons_succ]
          refine wpAnyH_done (by kernel_rfl) ?_ _
          go_wp2_with fail
          go_roundw
          case rel =>
            refine ⟨j + 1, by omega, by go_num, ?_⟩
            rw [Hid, HNx.out, stp, if_neg (by simp [h16])]
            exact ⟨_, H6.out, by rw [← HP1.out.2.2.1, ← HP1.out.1]; simp only [Ov.p, Ov.setN, HP1.out.2.2.2, HVV.out]⟩
          case measure => simp [intOf]; omega

        · go_simp
          refine (take_n _ c a len cap s1 l x (H3.out.cur.drewN _) hz hle1).mono ?_
          rintro e w2 ⟨rfl, hc, hg, hs⟩
          have H4 := hid ((H3.out.drewN _).read hc hg)
          have R2 := hid (Row.kept (R1.out.drewN _) hg (fun e => R1.out.ne H3.out.cur.row (by decide) (Option.some.inj e)))
          clear hc hg hs H3 R1
          generalize hv : numOf ((l.drop s1).take x.toNat) = v at *
          have HVV := hid hv
          clear hv
          go_wp2_with fail
          refine hK.out _ _ ⟨H4.out.r.cell 0, (R2.out.cell 0)⟩ (fun hHeld => ?_)
          clear hK K
          try simp only [List.getElem_toArray, List.getElem_cons_zero, List.getElem_cons_succ, Act.put, List.setIfInBounds_toArray, List.set_cons_zero, List.set_cons_succ]
          refine wpAnyH_ready (rs := [4, 12]) (by kernel_rfl) (by simp) ?_
          refine AllReadyH.cons (o := _) rfl (fun K hK => ?_) (AllReadyH.cons (o := _) rfl (fun K hK => ?_) AllReadyH.nil)
          · have cn : w2.cell? ⟨g, 1, none⟩ = some (.slice na1 n1 nc1) := (H4.out.row.cell 1).trans (by rw [o1.at1, HO1.out.1, HO1.out.2.1, HO1.out.2.2])
            go_simp
            go_wp2_with fail
            refine hK.out _ _ ⟨H4.out.r.cell 0, (R2.out.cell 0)⟩ (fun hHeld => ?_)
            clear hK K
            try simp only [List.getElem_toArray, List.getElem_cons_zero, List.getElem_cons_succ, Act.put, List.setIfInBounds_toArray, List.set_cons_zero, List.set_cons_succ]
            clear cn
            refine wpAnyH_ready (rs := [12]) (by kernel_rfl) (by simp) ?_
            refine AllReadyH.cons (o := _) rfl (fun K hK => ?_) AllReadyH.nil
            go_simp
            have BA := hid (balloc (Below.refl w2.heap.size w2) (.cells #[.int .i64 v] 3))
            have H5 := hid (H4.out.on BA.out)
            have R3 := hid (R2.out.alloc (.cells #[.int .i64 v] 3))
            have LN := hid (lies_new .i64 w2 #[.int .i64 v] 3 [v] rfl (by simp))
            have NN : Hid ((w2.alloc (.cells #[.int .i64 v] 3)).ownsRow base 3 1 (.slice na1 n1 nc1) n1 (i64s s2)) := by
              have := H5.out.own.n
              rw [← H5.out.own.nn, HN1.out, Txt.v, HO1.out.1, HO1.out.2.1, HO1.out.2.2] at this
              exact this
            go_wp2_with fail
            refine hK.out _ _ ⟨H5.out.r.cell 0, (R3.out.cell 0)⟩ (fun hHeld => ?_)
            clear hK K
            try simp only [List.getElem_toArray, List.getElem_cons_zero, List.getElem_cons_succ, Act.put, List.setIfInBounds_toArray, List.set_cons_zero, List.set_cons_succ]
            refine wpAnyH_ready (rs := [13]) (by kernel_rfl) (by simp) ?_
            refine AllReadyH.cons (o := _) rfl (fun K hK => ?_) AllReadyH.nil
            refine step_appI (base := base) (n := n1) (m := 1) (xs := s2) (l := [v]) rfl _ _ rfl rfl rfl (by exact NN.out) (by exact LN.out) (by exact H5.out.size) (by omega) ?_
            intro v4 w4 hown4 hg4
            obtain ⟨na, nc, rfl⟩ := owns_len hown4
            have HG : Hid ((w2.alloc (.cells #[.int .i64 v] 3)).grownBy w4 o1.n.v.ownBlock) := by rw [Hid, Txt.v, HO1.out.1, HO1.out.2.1, HO1.out.2.2]; exact hg4
            have HL4 : (s2 ++ [v]).length = n1 + 1 := by rw [List.length_append, HLs.out]; rfl
            have H6 := hid (RdAt.push H5.out HG.out na nc (s2 ++ [v]) (n1 + 1) HL4 hown4)
            obtain ⟨g1, _, _, g4, _, _⟩ := H5.out.grow HG.out
            have P6 := hid g1
            have O6 := hid g4
            have R4 := hid (R3.out.kept HG.out (fun e => own_row H5.out.own.n R3.out (by decide) e.symm))
            clear hown4 hg4 g1 g4 HG H5 R3 LN NN HL4
            refine hK.out _ _ ⟨P6.out.cell 0, (R4.out.cell 0)⟩ (fun hHeld => ?_)
            clear hK K
            try simp only [List.getElem_toArray, List.getElem_cons_zero, List.getElem_cons_succ, Act.put, List.setIfInBounds_toArray, List.set_cons_zero, List.set_cons_succ]
            have f1 := O6.out.frozen 1
            have cn := (O6.out.cell 1).trans o1.at1
            refine wpAnyH_take (i := 14) (oi := _) (v := ?vd14) rfl (by kernel_rfl) (by kernel_rfl) (by kernel_rfl) (fun _ _ _ h => h) (Or.inl ⟨by rfl, ?hyd14⟩) (by assumption) ?restd14
            case hyd14 => (intro w hSw; (try dsimp only at hSw); go_split_ands; go_simp; try (with_reducible rfl))
            try simp only [List.getElem_toArray, List.getElem_cons_zero, List.getElem_cons_succ, Act.put, List.setIfInBounds_toArray, List.set_cons_zero, List.set_cons_succ]
            refine wpAnyH_take (i := 15) (oi := _) (v := ?vd15) rfl (by kernel_rfl) (by kernel_rfl) (by kernel_rfl) (fun _ _ _ h => h) (Or.inl ⟨by rfl, ?hyd15⟩) (by assumption) ?restd15
            case hyd15 => (intro w hSw; (try dsimp only at hSw); go_split_ands; go_simp; try (with_reducible rfl))
            try simp only [List.getElem_toArray, List.getElem_cons_zero, List.getElem_cons_succ, Act.put, List.setIfInBounds_toArray, List.set_cons_zero, List.set_cons_succ]
            refine wpAnyH_ready (rs := [16]) (by kernel_rfl) (by simp) ?_
            refine AllReadyH.cons (o := _) rfl (fun K hK => ?_) AllReadyH.nil
            go_simp
            go_wp2_with fail
            refine hK.out _ _ ⟨(P6.out.other _ _ (P6.out.ne O6.out (by decide))).cell 0, (R4.out.other _ _ (R4.out.ne O6.out (by decide))).cell 0⟩ (fun hHeld => ?_)
            clear hK K
            try simp only [List.getElem_toArray, List.getElem_cons_zero, List.getElem_cons_succ, Act.put, List.setIfInBounds_toArray, List.set_cons_zero, List.set_cons_succ]
            refine wpAnyH_done (by kernel_rfl) ?_ _
            go_wp2_with fail
            go_roundw
            case rel =>
              refine ⟨j + 1, by omega, by go_num, ?_⟩
              rw [Hid, HNx.out, stp, if_neg (by simp [h16])]
              exact ⟨_, H6.out, by rw [← HP1.out.2.2.1, ← HP1.out.1]; simp only [Ov.p, Ov.setN, HP1.out.2.2.2, HVV.out]⟩
            case measure => simp [intOf]; omega

          · go_simp
            have BA := hid (balloc (Below.refl w2.heap.size w2) (.cells #[.int .i64 v] 3))
            have H5 := hid (H4.out.on BA.out)
            have R3 := hid (R2.out.alloc (.cells #[.int .i64 v] 3))
            have LN := hid (lies_new .i64 w2 #[.int .i64 v] 3 [v] rfl (by simp))
            have NN : Hid ((w2.alloc (.cells #[.int .i64 v] 3)).ownsRow base 3 1 (.slice na1 n1 nc1) n1 (i64s s2)) := by
              have := H5.out.own.n
              rw [← H5.out.own.nn, HN1.out, Txt.v, HO1.out.1, HO1.out.2.1, HO1.out.2.2] at this
              exact this
            go_wp2_with fail
            refine hK.out _ _ ⟨H5.out.r.cell 0, (R3.out.cell 0)⟩ (fun hHeld => ?_)
            clear hK K
            try simp only [List.getElem_toArray, List.getElem_cons_zero, List.getElem_cons_succ, Act.put, List.setIfInBounds_toArray, List.set_cons_zero, List.set_cons_succ]
            refine wpAnyH_ready (rs := [4]) (by kernel_rfl) (by simp) ?_
            refine AllReadyH.cons (o := _) rfl (fun K hK => ?_) AllReadyH.nil
            have cn : (w2.alloc (.cells #[.int .i64 v] 3)).cell? ⟨g, 1, none⟩ = some (.slice na1 n1 nc1) := (H5.out.row.cell 1).trans (by rw [o1.at1, HO1.out.1, HO1.out.2.1, HO1.out.2.2])
            go_simp
            go_wp2_with fail
            refine hK.out _ _ ⟨H5.out.r.cell 0, (R3.out.cell 0)⟩ (fun hHeld => ?_)
            clear hK K
            try simp only [List.getElem_toArray, List.getElem_cons_zero, List.getElem_cons_succ, Act.put, List.setIfInBounds_toArray, List.set_cons_zero, List.set_cons_succ]
            clear cn
            refine wpAnyH_ready (rs := [13]) (by kernel_rfl) (by simp) ?_
            refine AllReadyH.cons (o := _) rfl (fun K hK => ?_) AllReadyH.nil
            refine step_appI (base := base) (n := n1) (m := 1) (xs := s2) (l := [v]) rfl _ _ rfl rfl rfl (by exact NN.out) (by exact LN.out) (by exact H5.out.size) (by omega) ?_
            intro v4 w4 hown4 hg4
            obtain ⟨na, nc, rfl⟩ := owns_len hown4
            have HG : Hid ((w2.alloc (.cells #[.int .i64 v] 3)).grownBy w4 o1.n.v.ownBlock) := by rw [Hid, Txt.v, HO1.out.1, HO1.out.2.1, HO1.out.2.2]; exact hg4
            have HL4 : (s2 ++ [v]).length = n1 + 1 := by rw [List.length_append, HLs.out]; rfl
            have H6 := hid (RdAt.push H5.out HG.out na nc (s2 ++ [v]) (n1 + 1) HL4 hown4)
            obtain ⟨g1, _, _, g4, _, _⟩ := H5.out.grow HG.out
            have P6 := hid g1
            have O6 := hid g4
            have R4 := hid (R3.out.kept HG.out (fun e => own_row H5.out.own.n R3.out (by decide) e.symm))
            clear hown4 hg4 g1 g4 HG H5 R3 LN NN HL4
            refine hK.out _ _ ⟨P6.out.cell 0, (R4.out.cell 0)⟩ (fun hHeld => ?_)
            clear hK K
            try simp only [List.getElem_toArray, List.getElem_cons_zero, List.getElem_cons_succ, Act.put, List.setIfInBounds_toArray, List.set_cons_zero, List.set_cons_succ]
            have f1 := O6.out.frozen 1
            have cn := (O6.out.cell 1).trans o1.at1
            refine wpAnyH_take (i := 14) (oi := _) (v := ?ve14) rfl (by kernel_rfl) (by kernel_rfl) (by kernel_rfl) (fun _ _ _ h => h) (Or.inl ⟨by rfl, ?hye14⟩) (by assumption) ?reste14
            case hye14 => (intro w hSw; (try dsimp only at hSw); go_split_ands; go_simp; try (with_reducible rfl))
            try simp only [List.getElem_toArray, List.getElem_cons_zero, List.getElem_cons_succ, Act.put, List.setIfInBounds_toArray, List.set_cons_zero, List.set_cons_succ]
            refine wpAnyH_take (i := 15) (oi := _) (v := ?ve15) rfl (by kernel_rfl) (by kernel_rfl) (by kernel_rfl) (fun _ _ _ h => h) (Or.inl ⟨by rfl, ?hye15⟩) (by assumption) ?reste15
            case hye15 => (intro w hSw; (try dsimp only at hSw); go_split_ands; go_simp; try (with_reducible rfl))
            try simp only [List.getElem_toArray, List.getElem_cons_zero, List.getElem_cons_succ, Act.put, List.setIfInBounds_toArray, List.set_cons_zero, List.set_cons_succ]
            refine wpAnyH_ready (rs := [16]) (by kernel_rfl) (by simp) ?_
            refine AllReadyH.cons (o := _) rfl (fun K hK => ?_) AllReadyH.nil
            go_simp
            go_wp2_with fail
            refine hK.out _ _ ⟨(P6.out.other _ _ (P6.out.ne O6.out (by decide))).cell 0, (R4.out.other _ _ (R4.out.ne O6.out (by decide))).cell 0⟩ (fun hHeld => ?_)
            clear hK K
            try simp only [List.getElem_toArray, List.getElem_cons_zero, List.getElem_cons_succ, Act.put, List.setIfInBounds_toArray, List.set_cons_zero, List.set_cons_succ]
            refine wpAnyH_done (by kernel_rfl) ?_ _
            go_wp2_with fail
            go_roundw
            case rel =>
              refine ⟨j + 1, by omega, by go_num, ?_⟩
              rw [Hid, HNx.out, stp, if_neg (by simp [h16])]
              exact ⟨_, H6.out, by rw [← HP1.out.2.2.1, ← HP1.out.1]; simp only [Ov.p, Ov.setN, HP1.out.2.2.2, HVV.out]⟩
            case measure => simp [intOf]; omega


      · obtain rfl : x = 16 := by simpa using h16
        have hle2 : s1 + 16 ≤ len := by omega
        have HDA : Hid (Adr ((l.drop s1).take 16)) := HD.out
        clear HD hcase
        go_wp2_with fail
        refine (isAddress_any _ _ _).mono ?_
        rintro e w1 ⟨rfl, hb1⟩
        have H3 := hid (H2.out.on hb1)
        clear hb1 H2 R0
        rw [h16]
        generalize wr.heap.size = t at *
        go_wp2_with fail
        refine wp_region_held_drew (S := fun w' => w'.cell? ⟨p, 0, none⟩ = some (.pointer (some ⟨c, 0, none⟩))) (by kernel_rfl) ?_ (fun hHeld => ?_)
        · exact H3.out.r.cell 0
        refine wpAnyH_take (i := 0) (oi := _) (v := ?vb0) rfl (by kernel_rfl) (by kernel_rfl) (by kernel_rfl) (fun _ _ _ h => h) (Or.inl ⟨by rfl, ?hyb0⟩) (by assumption) ?restb0
        case hyb0 => (intro w hSw; (try dsimp only at hSw); go_split_ands; go_simp; try (with_reducible rfl))
        try simp only [List.getElem_toArray, List.getElem_cons_zero, List.getElem_cons_succ, Act.put, List.setIfInBounds_toArray, List.set_cons_zero, List.set_cons_succ]
        refine wpAnyH_take (i := 1) (oi := _) (v := ?vb1) rfl (by kernel_rfl) (by kernel_rfl) (by kernel_rfl) (fun _ _ _ h => h) (Or.inl ⟨by rfl, ?hyb1⟩) (by assumption) ?restb1
        case hyb1 => (intro w hSw; (try dsimp only at hSw); go_split_ands; go_simp; try (with_reducible rfl))
        try simp only [List.getElem_toArray, List.getElem_cons_zero, List.getElem_cons_succ, Act.put, List.setIfInBounds_toArray, List.set_cons_zero, List.set_cons_succ]
        refine wpAnyH_take (i := 2) (oi := _) (v := ?vb2) rfl (by kernel_rfl) (by kernel_rfl) (by kernel_rfl) (fun _ _ _ h => h) (Or.inl ⟨by rfl, ?hyb2⟩) (by assumption) ?restb2
        case hyb2 => (intro w hSw; (try dsimp only at hSw); go_split_ands; go_simp; try (with_reducible rfl))
        try simp only [List.getElem_toArray, List.getElem_cons_zero, List.getElem_cons_succ, Act.put, List.setIfInBounds_toArray, List.set_cons_zero, List.set_cons_succ]
        refine wpAnyH_take (i := 3) (oi := _) (v := ?vb3) rfl (by kernel_rfl) (by kernel_rfl) (by kernel_rfl) (fun _ _ _ h => h) (Or.inl ⟨by rfl, ?hyb3⟩) (by assumption) ?restb3
        case hyb3 => (intro w hSw; (try dsimp only at hSw); go_split_ands; go_simp; try (with_reducible rfl))
        try simp only [List.getElem_toArray, List.getElem_cons_zero, List.getElem_cons_succ, Act.put, List.setIfInBounds_toArray, List.set_cons_zero, List.set_cons_succ]
        refine wpAnyH_take (i := 4) (oi := _) (v := ?vb4) rfl (by kernel_rfl) (by kernel_rfl) (by kernel_rfl) (fun _ _ _ h => h) (Or.inl ⟨by rfl, ?hyb4⟩) (by assumption) ?restb4
        case hyb4 => (intro w hSw; (try dsimp only at hSw); go_split_ands; go_simp; try (with_reducible rfl))
        try simp only [List.getElem_toArray, List.getElem_cons_zero, List.getElem_cons_succ, Act.put, List.setIfInBounds_toArray, List.set_cons_zero, List.set_cons_succ]
        refine wpAnyH_take (i := 5) (oi := _) (v := ?vb5) rfl (by kernel_rfl) (by kernel_rfl) (by kernel_rfl) (fun _ _ _ h => h) (Or.inl ⟨by rfl, ?hyb5⟩) (by assumption) ?restb5
        case hyb5 => (intro w hSw; (try dsimp only at hSw); go_split_ands; go_simp; try (with_reducible rfl))
        try simp only [List.getElem_toArray, List.getElem_cons_zero, List.getElem_cons_succ, Act.put, List.setIfInBounds_toArray, List.set_cons_zero, List.set_cons_succ]
        refine wpAnyH_take (i := 6) (oi := _) (v := ?vb6) rfl (by kernel_rfl) (by kernel_rfl) (by kernel_rfl) (fun _ _ _ h => h) (Or.inl ⟨by rfl, ?hyb6⟩) (by assumption) ?restb6
        case hyb6 => (intro w hSw; (try dsimp only at hSw); go_split_ands; go_simp; try (with_reducible rfl))
        try simp only [List.getElem_toArray, List.getElem_cons_zero, List.getElem_cons_succ, Act.put, List.setIfInBounds_toArray, List.set_cons_zero, List.set_cons_succ]
        refine wpAnyH_take (i := 7) (oi := _) (v := ?vb7) rfl (by kernel_rfl) (by kernel_rfl) (by kernel_rfl) (fun _ _ _ h => h) (Or.inl ⟨by rfl, ?hyb7⟩) (by assumption) ?restb7
        case hyb7 => (intro w hSw; (try dsimp only at hSw); go_split_ands; go_simp; try (with_reducible rfl))
        try simp only [List.getElem_toArray, List.getElem_cons_zero, List.getElem_cons_succ, Act.put, List.setIfInBounds_toArray, List.set_cons_zero, List.set_cons_succ]
        refine wpAnyH_ready (rs := [8]) (by kernel_rfl) (by simp) ?_
        refine AllReadyH.cons (o := _) rfl (fun K hK => ?_) AllReadyH.nil
        go_simp
        refine (bytes_n _ c a len cap s1 l 16 (H3.out.cur.drewN _) hle2).mono ?_
        rintro e w2 ⟨fb, fc, rfl, hl, hc, hg⟩
        have H4 := hid ((H3.out.drewN _).read hc hg)
        have L4 := hid hl
        clear hc hg hl H3
        generalize hF : (l.drop s1).take 16 = F at *
        have HF := hid hF
        clear hF
        go_wp2_with fail
        refine hK.out _ _ (H4.out.r.cell 0) (fun hHeld => ?_)
        clear hK K
        try simp only [List.getElem_toArray, List.getElem_cons_zero, List.getElem_cons_succ, Act.put, List.setIfInBounds_toArray, List.set_cons_zero, List.set_cons_succ]
        refine wpAnyH_ready (rs := [9]) (by kernel_rfl) (by simp) ?_
        refine AllReadyH.cons (o := _) rfl (fun K hK => ?_) AllReadyH.nil
        refine step_copyA rfl _ _ rfl g 16 _ _ rfl rfl o1 H4.out.own.ad H4.out.row F L4.out ?_
        have H5 := hid (H4.out.setA F HDA.out)
        refine hK.out _ _ (H5.out.r.cell 0) (fun hHeld => ?_)
        clear hK K
        try simp only [List.getElem_toArray, List.getElem_cons_zero, List.getElem_cons_succ, Act.put, List.setIfInBounds_toArray, List.set_cons_zero, List.set_cons_succ]
        refine wpAnyH_done (by kernel_rfl) ?_ _
        go_wp2_with fail
        go_roundw
        case rel =>
          refine ⟨j + 1, by omega, by go_num, ?_⟩
          rw [Hid, HNx.out, stp, if_pos (by simp)]
          exact ⟨_, H5.out, by rw [← HP1.out.2.1, ← HP1.out.1]; simp only [Ov.p, Ov.setA, HP1.out.2.2.2, HF.out]⟩
        case measure => simp [intOf]; omega

    · obtain rfl : j = n := by omega
      go_wp2_with fail
      go_returns
      refine ⟨rfl, ?_⟩
      have := ht.out
      rwa [List.take_of_length_le (by rw [HP.out.len]; omega)] at this
end Go.Proofs.YtbfjkhafdkhhmaaDoor
