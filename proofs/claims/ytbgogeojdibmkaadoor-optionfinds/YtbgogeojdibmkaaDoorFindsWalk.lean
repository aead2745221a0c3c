/- OptionFinds' walk. -/
import Derived.Test.YtbgogeojdibmkaaDoorFnb
namespace Go.Proofs.YtbgogeojdibmkaaDoor
open Go.ChangeShapes Go.WideShapes Go.ChangeAt Go.RowKit Go.Deep
set_option linter.unusedVariables false
set_option linter.unusedSimpArgs false

theorem find_law (a : Option Addr) (n cap : Nat) (L : List Ov) (ka : Option Addr) (kn kc : Nat) (ks : List Int) (w : World) (hL : Opts w a n cap L) (hk : Lies .i64 w ka kn kc ks) (hsm : ∀ o ∈ L, o.n.n ≤ 12 ∧ o.t.n ≤ 100) :
    Calls Tryd.prog 23 #[.slice a n cap, .slice ka kn kc] w fun e w' => (∃ (b : Bool) (o' : Ov), e = .returned (.tuple #[.agg o'.cs, .bool b]) ∧ Hid (o'.ok w') ∧ Hid ((b = false ∧ fstTo ks L n = -1) ∨ (b = true ∧ ∃ i : Nat, i < n ∧ fstTo ks L n = i ∧ o'.p = (L.getD i Ov.zero).p))) ∧ Below w.heap.size w w' := by
  refine (find_any a n cap L ka kn kc ks w hL hk (fun o ho => by have := hsm o ho; omega)).mono ?_
  rintro e w' ⟨h | ⟨i, o', hi, he, hy, hn, hp, hok⟩, hb⟩
  · refine ⟨⟨false, Ov.zero, h.1, Ov.zero_ok _, .inl ⟨rfl, fstTo_none ks L n (fun j hj => h.2 _ ?_)⟩⟩, hb⟩
    have : j < L.length := by rw [hL.len]; exact hj
    simp [this]
  · exact ⟨⟨true, o', he, hok, .inr ⟨rfl, i, by rw [← hL.len]; exact hi, fstTo_some ks L i n (by rw [← hL.len]; exact hi) hy hn, hp⟩⟩, hb⟩
theorem without_law (a : Option Addr) (n cap : Nat) (L : List Ov) (ka : Option Addr) (kn kc : Nat) (ks : List Int) (w : World) (hL : Opts w a n cap L) (hk : Lies .i64 w ka kn kc ks) (hsm : ∀ o ∈ L, o.n.n ≤ 12 ∧ o.t.n ≤ 100) (hn : n ≤ 20) :
    Calls Tryd.prog 24 #[.slice a n cap, .slice ka kn kc] w fun e w' => (∃ a' m cap' L', e = .returned (.slice a' m cap') ∧ m ≤ 20 ∧ Hid (Opts w' a' m cap' L') ∧ Hid (pos L' = lft ks (pos L))) ∧ Below w.heap.size w w' := by
  refine (without_any a n cap L ka kn kc ks w hL hk (fun o ho => by have := hsm o ho; omega) (by omega)).mono ?_
  rintro e w' ⟨a', m, cap', L', rfl, hO, hp, hb⟩
  refine ⟨⟨a', m, cap', L', rfl, ?_, hO, hp⟩, hb⟩
  have h1 := congrArg List.length hp
  have h2 := List.length_filter_le (fun p => !hitB ks p.k) (pos L)
  rw [pos_len, hO.len] at h1
  rw [pos_len, hL.len] at h2
  unfold lft at h1
  omega
set_option maxRecDepth 1000000 in
set_option maxHeartbeats 6400000 in
theorem finds_walk (a1 : Option Addr) (n1 c1 : Nat) (L1 : List Ov) (a2 : Option Addr) (n2 c2 : Nat) (L2 : List Ov) (a3 : Option Addr) (n3 c3 : Nat) (z3 : List Int) (w : World) (h1 : Opts w a1 n1 c1 L1) (h2 : Opts w a2 n2 c2 L2) (h3 : IsRow .i64 w a3 n3 c3 z3) (hV : Vars w.heap.size w) :
    Calls Tryd.prog 5 #[.slice a1 n1 c1, .slice a2 n2 c2, .slice a3 n3 c3] w fun e w' => e = .returned (.bool true) ∧ Below w.heap.size w w' := by
  have hz := zov
  obtain ⟨q3, hq3⟩ : ∃ q3, min n3 10 = q3 := ⟨_, rfl⟩
  have hmin3 : (if (10 : Int) < (n3 : Int) then (10 : Int) else (n3 : Int)) = (q3 : Int) := by split <;> omega
  have k3 := h3.lies.2.1
  have k4 := h3.lies.2.2.1
  unfold maxLen at k4
  have j3 : (q3 : Int) ≤ (c3 : Int) := by omega
  have hq10 : q3 ≤ 10 := by omega
  have KL := hid (h3.lies.pre q3 (by omega))
  generalize (z3.take n3).take q3 = ks at *
  have I1 := hid h1
  have I2 := hid h2
  have HV := hid hV
  clear h1 h2 h3 hV hq3
  go_enter Tryd.func5, Tryd.ntmps5
  go_wp2_with fail
  refine (to_law a1 n1 c1 L1 _ I1.out).mono ?_
  rintro e w1 ⟨⟨xa, xn, xc, X, rfl, hx20, hX, hXs⟩, hb1⟩
  have X1 := hid hX.out
  have XS := hid hXs.out
  have B1 := hid hb1
  clear hX hXs hb1
  go_wp2_with fail
  refine (to_law a2 n2 c2 L2 _ (I2.out.below B1.out)).mono ?_
  rintro e w2 ⟨⟨ya, yn, yc, Y, rfl, hy20, hY, hYs⟩, hb2⟩
  have Y2 := hid hY.out
  have X2 := hid (X1.out.below hb2)
  have B2 := hid (bthen B1.out hb2)
  have K2 := hid (KL.out.below B2.out)
  clear hY hYs hb2 X1 B1 I1 I2 KL
  go_wp2_with fail
  refine (find_law xa xn xc X a3 q3 c3 ks _ X2.out K2.out XS.out).mono ?_
  rintro e w3 ⟨⟨fb, fo, rfl, hfo, hff⟩, hb3⟩
  have F3 := hid hfo.out
  have HF := hid hff.out
  have HFA := hid hfo.out.ad
  have X3 := hid (X2.out.below hb3)
  have Y3 := hid (Y2.out.below hb3)
  have K3 := hid (K2.out.below hb3)
  have B3 := hid (bthen B2.out hb3)
  clear hfo hff hb3 X2 Y2 K2 B2
  have R4 := hid (layO_new w3 43 fo)
  have BL := hid (layO_below w3 43 fo)
  go_upto_region 4 with (refine stO o43 _ _ rfl rfl w3.heap.size fo HFA.out rfl rfl 43 Ov.zero adr_zeros (Row.new w3 43 _) ?_)
  generalize hw4 : (w3.alloc (.cells Ov.zero.cs 43)).setRow w3.heap.size fo.cs = w4 at *
  have F4 := hid (F3.out.below BL.out)
  have X4 := hid (X3.out.below BL.out)
  have Y4 := hid (Y3.out.below BL.out)
  have K4 := hid (K3.out.below BL.out)
  have B4 := hid (bthen B3.out BL.out)
  generalize w3.heap.size = g9 at *
  clear hw4 F3 X3 Y3 K3 B3 hz BL
  go_wp2_with fail
  refine (without_law xa xn xc X a3 q3 c3 ks _ X4.out K4.out XS.out hx20).mono ?_
  rintro e w5 ⟨⟨ra, rn, rc, T, rfl, hr20, hT, hTp⟩, hb5⟩
  have T5 := hid hT.out
  have HTP := hid hTp.out
  have R5 := hid (R4.out.below hb5)
  have F5 := hid (F4.out.below hb5)
  have X5 := hid (X4.out.below hb5)
  have Y5 := hid (Y4.out.below hb5)
  have K5 := hid (K4.out.below hb5)
  have B5 := hid (bthen B4.out hb5)
  have HTL : Hid ((lft ks (pos X)).length = rn) := by rw [Hid, ← HTP.out, pos_len]; exact T5.out.len
  have xl := hid X5.out.len
  have tl := hid T5.out.len
  have xcm := Nat.le_trans X5.out.le X5.out.max
  have k5 := X5.out.le
  have k6 := X5.out.max
  have k7 := T5.out.le
  have k8 := T5.out.max
  unfold maxLen at k6 k8
  clear hT hTp hb5 R4 F4 X4 Y4 K4 B4 xcm
  go_wp2_with fail
  go_loopw [12, 13, 14] (fun av nv iv wr => ∃ (k : Nat) (at' : Int) (nn : Nat), k ≤ xn ∧ iv = .int .i64 k ∧ av = .int .i64 at' ∧ nv = .int .i64 nn ∧ Hid (at' = fstTo ks X k) ∧ Hid (nn = (lft ks ((pos X).take k)).length) ∧ Hid (Below w5.heap.size w5 wr)) (fun _ _ i _ => xn - (intOf i).toNat)
  case atStart => exact ⟨0, -1, 0, Nat.zero_le _, rfl, rfl, rfl, rfl, rfl, Below.refl _ _⟩
  case round =>
    obtain ⟨k, at', nn, hk, rfl, rfl, rfl, HAt, HNn, hbo⟩ := hrel
    have hatb := fstTo_bd ks X k
    rw [← HAt.out] at hatb
    have hnnb := lft_take_le ks (pos X) k
    rw [← HNn.out] at hnnb
    obtain ⟨wo, hwo⟩ : ∃ wo : World, wo = wr := ⟨_, rfl⟩
    rw [← hwo] at hbo ⊢
    clear hwo
    by_cases hlt : k < xn
    · have hlt' : (k : Int) < (xn : Int) := by omega
      have hkl : k < X.length := by rw [xl.out]; exact hlt
      obtain ⟨xb, xoff, rfl, hxp⟩ := (X5.out.below hbo.out).cell k hlt
      have ck := hxp 0 _ (Ov.at0 _)
      rw [Nat.add_zero] at ck
      have HST : Hid (fstTo ks X (k + 1) = if hitB ks (X.getD k Ov.zero).k = true ∧ fstTo ks X k < 0 then (k : Int) else fstTo ks X k) := rfl
      have HLG := hid (lft_get ks (pos X) k (by rw [pos_len]; exact hkl))
      have HLY := hid (lft_yes ks (pos X) k (by rw [pos_len]; exact hkl))
      have HLN := hid (lft_no ks (pos X) k (by rw [pos_len]; exact hkl))
      rw [pos_at X k hkl] at HLG HLY HLN
      have epk : (X.getD k Ov.zero).p.k = (X.getD k Ov.zero).k := rfl
      rw [epk] at HLG HLY HLN
      generalize hok : (X.getD k Ov.zero).k = ok at *
      clear hxp epk
      go_wp2_with fail
      go_loopw [15, 16] (fun hv kv wr => ∃ (j q : Nat), j ≤ q3 ∧ kv = .int .i64 j ∧ hv = .bool (decide (ok ∈ ks.take j)) ∧ wr = wo.drewN q) (fun _ i _ => q3 - (intOf i).toNat)
      case atStart => exact ⟨0, 0, Nat.zero_le _, rfl, by simp, rfl⟩
      case round =>
        obtain ⟨j, q, hj, rfl, rfl, rfl⟩ := hrel
        have kln := K5.out.1
        by_cases hjt : j < q3
        · have hjt' : (j : Int) < (q3 : Int) := by omega
          obtain ⟨kb, koff, hka, hkc⟩ := (K5.out.below hbo.out).2.2.2.2 j hjt
          subst hka
          have HMS := hid (mem_take_succ (l := ks) (x := ok) (k := j) (by rw [kln]; exact hjt))
          generalize ks.getD j 0 = z at *
          cases hh : decide (ok ∈ ks.take j)
          · rw [hh] at HMS
            generalize hze : (z == ok) = zb at *
            go_wp2_with fail
            go_quiet (fail)
            go_wp2_with fail
            go_roundw
            case rel => exact ⟨j + 1, q + nq, by omega, by go_num, by rw [HMS.out]; simp, by first | rfl | exact World.drewN_drewN ..⟩
            case measure => simp [intOf]; omega
          · rw [hh] at HMS
            go_wp2_with fail
            go_quiet (fail)
            go_wp2_with fail
            go_roundw
            case rel => exact ⟨j + 1, q + nq, by omega, by go_num, by rw [HMS.out]; simp, by first | rfl | exact World.drewN_drewN ..⟩
            case measure => simp [intOf]; omega
        · obtain rfl : j = q3 := by omega
          have HH : Hid (decide (ok ∈ ks.take j) = hitB ks ok) := by rw [Hid, List.take_of_length_le (by rw [kln]; exact Nat.le_refl _)]; rfl
          have B6 := hid (bdrew hbo.out q)
          cases hh : decide (ok ∈ ks.take j)
          · have hf : hitB ks ok = false := HH.out.symm.trans hh
            obtain ⟨hlg, hgd⟩ := HLG.out hf
            rw [← HNn.out] at hlg hgd
            rw [HTL.out] at hlg
            rw [← HTP.out] at hgd
            rw [pos_at T nn (by rw [tl.out]; exact hlg)] at hgd
            have HSame : Hid (allB (pos [T.getD nn Ov.zero]) (pos [X.getD k Ov.zero]) = true) := by
              rw [Hid, pos, pos, List.map_cons, List.map_nil, List.map_cons, List.map_nil, hgd, allB_one]; exact Po.eqB_self _
            have hlg' : ¬ (rn : Int) ≤ (nn : Int) := by omega
            have hlgd : decide ((rn : Int) ≤ (nn : Int)) = false := decide_eq_false hlg'
            have hlge : decide (rn ≤ nn) = false := decide_eq_false (by omega)
            have hlgf : ¬ rn ≤ nn := by omega
            obtain ⟨tb, toff, hta, _⟩ := T5.out.cell nn hlg
            subst hta
            have T7 := hid ((T5.out.below B6.out).one nn hlg)
            have X7 := hid ((X5.out.below B6.out).one k hlt)
            have e1 : ¬ rc = nn := by omega
            have e2 : ¬ xc = k := by omega
            obtain ⟨m1, hm1⟩ : ∃ m1, nn + 1 = m1 := ⟨_, rfl⟩
            have vm1 : IntKind.i64.wrap ((nn : Int) + 1) = (m1 : Int) := by rw [IntKind.wrap_i64]; omega
            have bm1 : (m1 : Int) ≤ (rc : Int) := by omega
            have cm1 : nn ≤ m1 := by omega
            have dm1 : m1 - nn = 1 := by omega
            have zm1 : (0 : Int) ≤ (m1 : Int) := by omega
            clear hm1
            obtain ⟨m2, hm2⟩ : ∃ m2, k + 1 = m2 := ⟨_, rfl⟩
            have vm2 : IntKind.i64.wrap ((k : Int) + 1) = (m2 : Int) := by rw [IntKind.wrap_i64]; omega
            have bm2 : (m2 : Int) ≤ (xc : Int) := by omega
            have cm2 : k ≤ m2 := by omega
            have dm2 : m2 - k = 1 := by omega
            have zm2 : (0 : Int) ≤ (m2 : Int) := by omega
            clear hm2
            have HLY2 := hid (HLY.out hf)
            have HST2 : Hid (fstTo ks X (k + 1) = fstTo ks X k) := by rw [Hid, HST.out, hf]; simp
            clear hgd hf hh
            generalize wo.drewN q = w6 at *
            go_wp2_with fail
            refine wp_region_held_drew (S := fun w' => True) (by kernel_rfl) ?_ (fun hHeld => ?_)
            · exact trivial
            refine wpAnyH_take (i := 0) (oi := _) (v := ?vb0) rfl (by kernel_rfl) (by kernel_rfl) (by kernel_rfl) (fun _ _ _ h => h) (Or.inl ⟨by rfl, ?hyb0⟩) (by assumption) ?restb0
            case hyb0 => (intro w hSw; (try dsimp only at hSw); go_split_ands; go_simp; try (with_reducible rfl))
            try simp only [List.getElem_toArray, List.getElem_cons_zero, List.getElem_cons_succ, Act.put, List.setIfInBounds_toArray, List.set_cons_zero, List.set_cons_succ]
            refine wpAnyH_take (i := 1) (oi := _) (v := ?vb1) rfl (by kernel_rfl) (by kernel_rfl) (by kernel_rfl) (fun _ _ _ h => h) (Or.inl ⟨by rfl, ?hyb1⟩) (by assumption) ?restb1
            case hyb1 => (intro w hSw; (try dsimp only at hSw); go_split_ands; go_simp; try (with_reducible rfl))
            try simp only [List.getElem_toArray, List.getElem_cons_zero, List.getElem_cons_succ, Act.put, List.setIfInBounds_toArray, List.set_cons_zero, List.set_cons_succ]
            refine wpAnyH_take (i := 2) (oi := _) (v := ?vb2) rfl (by kernel_rfl) (by kernel_rfl) (by kernel_rfl) (fun _ _ _ h => h) (Or.inl ⟨by rfl, ?hyb2⟩) (by assumption) ?restb2
            case hyb2 => (intro w hSw; (try dsimp only at hSw); go_split_ands; go_simp; try (with_reducible rfl))
            try simp only [List.getElem_toArray, List.getElem_cons_zero, List.getElem_cons_succ, Act.put, List.setIfInBounds_toArray, List.set_cons_zero, List.set_cons_succ]
            refine wpAnyH_take (i := 3) (oi := _) (v := ?vb3) rfl (by kernel_rfl) (by kernel_rfl) (by kernel_rfl) (fun _ _ _ h => h) (Or.inl ⟨by rfl, ?hyb3⟩) (by assumption) ?restb3
            case hyb3 => (intro w hSw; (try dsimp only at hSw); go_split_ands; go_simp; try (with_reducible rfl))
            try simp only [List.getElem_toArray, List.getElem_cons_zero, List.getElem_cons_succ, Act.put, List.setIfInBounds_toArray, List.set_cons_zero, List.set_cons_succ]
            refine wpAnyH_take (i := 4) (oi := _) (v := ?vb4) rfl (by kernel_rfl) (by kernel_rfl) (by kernel_rfl) (fun _ _ _ h => h) (Or.inl ⟨by rfl, ?hyb4⟩) (by assumption) ?restb4
            case hyb4 => (intro w hSw; (try dsimp only at hSw); go_split_ands; go_simp; try (with_reducible rfl))
            try simp only [List.getElem_toArray, List.getElem_cons_zero, List.getElem_cons_succ, Act.put, List.setIfInBounds_toArray, List.set_cons_zero, List.set_cons_succ]
            refine wpAnyH_take (i := 5) (oi := _) (v := ?vb5) rfl (by kernel_rfl) (by kernel_rfl) (by kernel_rfl) (fun _ _ _ h => h) (Or.inl ⟨by rfl, ?hyb5⟩) (by assumption) ?restb5
            case hyb5 => (intro w hSw; (try dsimp only at hSw); go_split_ands; go_simp; try (with_reducible rfl))
            try simp only [List.getElem_toArray, List.getElem_cons_zero, List.getElem_cons_succ, Act.put, List.setIfInBounds_toArray, List.set_cons_zero, List.set_cons_succ]
            refine wpAnyH_take (i := 6) (oi := _) (v := ?vb6) rfl (by kernel_rfl) (by kernel_rfl) (by kernel_rfl) (fun _ _ _ h => h) (Or.inl ⟨by rfl, ?hyb6⟩) (by assumption) ?restb6
            case hyb6 => (intro w hSw; (try dsimp only at hSw); go_split_ands; go_simp; try (with_reducible rfl))
            try simp only [List.getElem_toArray, List.getElem_cons_zero, List.getElem_cons_succ, Act.put, List.setIfInBounds_toArray, List.set_cons_zero, List.set_cons_succ]
            refine wpAnyH_take (i := 7) (oi := _) (v := ?vb7) rfl (by kernel_rfl) (by kernel_rfl) (by kernel_rfl) (fun _ _ _ h => h) (Or.inl ⟨by rfl, ?hyb7⟩) (by assumption) ?restb7
            case hyb7 => (intro w hSw; (try dsimp only at hSw); go_split_ands; go_simp; try (with_reducible rfl))
            try simp only [List.getElem_toArray, List.getElem_cons_zero, List.getElem_cons_succ, Act.put, List.setIfInBounds_toArray, List.set_cons_zero, List.set_cons_succ]
            refine wpAnyH_take (i := 8) (oi := _) (v := ?vb8) rfl (by kernel_rfl) (by kernel_rfl) (by kernel_rfl) (fun _ _ _ h => h) (Or.inl ⟨by rfl, ?hyb8⟩) (by assumption) ?restb8
            case hyb8 => (intro w hSw; (try dsimp only at hSw); go_split_ands; go_simp; try (with_reducible rfl))
            try simp only [List.getElem_toArray, List.getElem_cons_zero, List.getElem_cons_succ, Act.put, List.setIfInBounds_toArray, List.set_cons_zero, List.set_cons_succ]
            refine wpAnyH_take (i := 9) (oi := _) (v := ?vb9) rfl (by kernel_rfl) (by kernel_rfl) (by kernel_rfl) (fun _ _ _ h => h) (Or.inl ⟨by rfl, ?hyb9⟩) (by assumption) ?restb9
            case hyb9 => (intro w hSw; (try dsimp only at hSw); go_split_ands; go_simp; try (with_reducible rfl))
            try simp only [List.getElem_toArray, List.getElem_cons_zero, List.getElem_cons_succ, Act.put, List.setIfInBounds_toArray, List.set_cons_zero, List.set_cons_succ]
            refine wpAnyH_take (i := 10) (oi := _) (v := ?vb10) rfl (by kernel_rfl) (by kernel_rfl) (by kernel_rfl) (fun _ _ _ h => h) (Or.inl ⟨by rfl, ?hyb10⟩) (by assumption) ?restb10
            case hyb10 => (intro w hSw; (try dsimp only at hSw); go_split_ands; go_simp; try (with_reducible rfl))
            try simp only [List.getElem_toArray, List.getElem_cons_zero, List.getElem_cons_succ, Act.put, List.setIfInBounds_toArray, List.set_cons_zero, List.set_cons_succ]
            refine wpAnyH_take (i := 11) (oi := _) (v := ?vb11) rfl (by kernel_rfl) (by kernel_rfl) (by kernel_rfl) (fun _ _ _ h => h) (Or.inl ⟨by rfl, ?hyb11⟩) (by assumption) ?restb11
            case hyb11 => (intro w hSw; (try dsimp only at hSw); go_split_ands; go_simp; try (with_reducible rfl))
            try simp only [List.getElem_toArray, List.getElem_cons_zero, List.getElem_cons_succ, Act.put, List.setIfInBounds_toArray, List.set_cons_zero, List.set_cons_succ]
            refine wpAnyH_take (i := 12) (oi := _) (v := ?vb12) rfl (by kernel_rfl) (by kernel_rfl) (by kernel_rfl) (fun _ _ _ h => h) (Or.inl ⟨by rfl, ?hyb12⟩) (by assumption) ?restb12
            case hyb12 => (intro w hSw; (try dsimp only at hSw); go_split_ands; go_simp; try (with_reducible rfl))
            try simp only [List.getElem_toArray, List.getElem_cons_zero, List.getElem_cons_succ, Act.put, List.setIfInBounds_toArray, List.set_cons_zero, List.set_cons_succ]
            refine wpAnyH_take (i := 13) (oi := _) (v := ?vb13) rfl (by kernel_rfl) (by kernel_rfl) (by kernel_rfl) (fun _ _ _ h => h) (Or.inl ⟨by rfl, ?hyb13⟩) (by assumption) ?restb13
            case hyb13 => (intro w hSw; (try dsimp only at hSw); go_split_ands; go_simp; try (with_reducible rfl))
            try simp only [List.getElem_toArray, List.getElem_cons_zero, List.getElem_cons_succ, Act.put, List.setIfInBounds_toArray, List.set_cons_zero, List.set_cons_succ]
            refine wpAnyH_take (i := 14) (oi := _) (v := ?vb14) rfl (by kernel_rfl) (by kernel_rfl) (by kernel_rfl) (fun _ _ _ h => h) (Or.inl ⟨by rfl, ?hyb14⟩) (by assumption) ?restb14
            case hyb14 => (intro w hSw; (try dsimp only at hSw); go_split_ands; go_simp; try (with_reducible rfl))
            try simp only [List.getElem_toArray, List.getElem_cons_zero, List.getElem_cons_succ, Act.put, List.setIfInBounds_toArray, List.set_cons_zero, List.set_cons_succ]
            refine wpAnyH_ready (rs := [15]) (by kernel_rfl) (by simp) ?_
            refine AllReadyH.cons (o := _) rfl (fun K hK => ?_) AllReadyH.nil
            go_simp
            refine (oSame_any _ _ 1 _ 1 _ [T.getD nn Ov.zero] [X.getD k Ov.zero] _ (by exact T7.out.drewN 1) (by exact X7.out.drewN 1)).mono ?_
            rintro e w7 ⟨rfl, hb7⟩
            have B7 := hid (bthen (bdrew B6.out 1) hb7)
            rw [HSame.out]
            clear hb7
            go_wp2_with fail
            refine hK.out _ _ trivial (fun hHeld => ?_)
            clear hK K
            try simp only [List.getElem_toArray, List.getElem_cons_zero, List.getElem_cons_succ, Act.put, List.setIfInBounds_toArray, List.set_cons_zero, List.set_cons_succ]
            refine wpAnyH_take (i := 16) (oi := _) (v := ?vb16) rfl (by kernel_rfl) (by kernel_rfl) (by kernel_rfl) (fun _ _ _ h => h) (Or.inl ⟨by rfl, ?hyb16⟩) (by assumption) ?restb16
            case hyb16 => (intro w hSw; (try dsimp only at hSw); go_split_ands; go_simp; try (with_reducible rfl))
            try simp only [List.getElem_toArray, List.getElem_cons_zero, List.getElem_cons_succ, Act.put, List.setIfInBounds_toArray, List.set_cons_zero, List.set_cons_succ]
            refine wpAnyH_take (i := 17) (oi := _) (v := ?vb17) rfl (by kernel_rfl) (by kernel_rfl) (by kernel_rfl) (fun _ _ _ h => h) (Or.inl ⟨by rfl, ?hyb17⟩) (by assumption) ?restb17
            case hyb17 => (intro w hSw; (try dsimp only at hSw); go_split_ands; go_simp; try (with_reducible rfl))
            try simp only [List.getElem_toArray, List.getElem_cons_zero, List.getElem_cons_succ, Act.put, List.setIfInBounds_toArray, List.set_cons_zero, List.set_cons_succ]
            refine wpAnyH_done (by kernel_rfl) ?_ _
            go_wp2_with fail
            go_roundw
            case rel =>
              refine ⟨k + 1, at', nn + 1, by omega, by go_num, rfl, by go_num, ?_, ?_, B7.out⟩
              · rw [Hid, HST2.out]; exact HAt.out
              · rw [Hid, HLY2.out, List.length_append, ← HNn.out]; rfl
            case measure => simp [intOf]; omega
          · have hf : hitB ks ok = true := HH.out.symm.trans hh
            have HLN2 := hid (HLN.out hf)
            by_cases hneg : at' < 0
            · have hneg' : decide (at' < 0) = true := decide_eq_true hneg
              have HST2 : Hid (fstTo ks X (k + 1) = k) := by rw [Hid, HST.out, hf, ← HAt.out, if_pos ⟨rfl, hneg⟩]
              clear hf hh
              go_wp2_with fail
              go_roundw
              case rel =>
                refine ⟨k + 1, k, nn, by omega, by go_num, rfl, rfl, HST2.out.symm, ?_, B6.out⟩
                rw [Hid, HLN2.out]; exact HNn.out
              case measure => simp [intOf]; omega
            · have hneg' : decide (at' < 0) = false := decide_eq_false hneg
              have HST2 : Hid (fstTo ks X (k + 1) = fstTo ks X k) := by rw [Hid, HST.out, if_neg (by rw [← HAt.out]; exact fun h => hneg h.2)]
              clear hf hh
              go_wp2_with fail
              go_roundw
              case rel =>
                refine ⟨k + 1, at', nn, by omega, by go_num, rfl, rfl, by rw [Hid, HST2.out]; exact HAt.out, ?_, B6.out⟩
                rw [Hid, HLN2.out]; exact HNn.out
              case measure => simp [intOf]; omega
    · obtain rfl : k = xn := by omega
      have hnr : nn = rn := by
        have := HNn.out
        rw [List.take_of_length_le (by rw [pos_len, xl.out]; exact Nat.le_refl _), HTL.out] at this
        exact this
      subst hnr
      have hne : ((nn : Int) != (nn : Int)) = false := by simp
      have C8 := hbo
      have B8 := hid (bthen B5.out hbo.out)
      have HA2 : Hid (at' = fstTo ks X k) := HAt
      rcases HF.out with ⟨rfl, hm1⟩ | ⟨rfl, i, hik, hfi, hpp⟩
      · obtain rfl : at' = -1 := HA2.out.trans hm1
        clear hatb hm1
        go_wp2_with fail
        refine wp_region_held_drew (S := fun w' => True) (by kernel_rfl) ?_ (fun hHeld => ?_)
        · exact trivial
        refine wpAnyH_take (i := 0) (oi := _) (v := ?vn0) rfl (by kernel_rfl) (by kernel_rfl) (by kernel_rfl) (fun _ _ _ h => h) (Or.inl ⟨by rfl, ?hyn0⟩) (by assumption) ?restn0
        case hyn0 => (intro w hSw; (try dsimp only at hSw); go_split_ands; go_simp; try (with_reducible rfl))
        try simp only [List.getElem_toArray, List.getElem_cons_zero, List.getElem_cons_succ, Act.put, List.setIfInBounds_toArray, List.set_cons_zero, List.set_cons_succ]
        refine wpAnyH_take (i := 1) (oi := _) (v := ?vn1) rfl (by kernel_rfl) (by kernel_rfl) (by kernel_rfl) (fun _ _ _ h => h) (Or.inl ⟨by rfl, ?hyn1⟩) (by assumption) ?restn1
        case hyn1 => (intro w hSw; (try dsimp only at hSw); go_split_ands; go_simp; try (with_reducible rfl))
        try simp only [List.getElem_toArray, List.getElem_cons_zero, List.getElem_cons_succ, Act.put, List.setIfInBounds_toArray, List.set_cons_zero, List.set_cons_succ]
        refine wpAnyH_take (i := 2) (oi := _) (v := ?vn2) rfl (by kernel_rfl) (by kernel_rfl) (by kernel_rfl) (fun _ _ _ h => h) (Or.inl ⟨by rfl, ?hyn2⟩) (by assumption) ?restn2
        case hyn2 => (intro w hSw; (try dsimp only at hSw); go_split_ands; go_simp; try (with_reducible rfl))
        try simp only [List.getElem_toArray, List.getElem_cons_zero, List.getElem_cons_succ, Act.put, List.setIfInBounds_toArray, List.set_cons_zero, List.set_cons_succ]
        refine wpAnyH_take (i := 3) (oi := _) (v := ?vn3) rfl (by kernel_rfl) (by kernel_rfl) (by kernel_rfl) (fun _ _ _ h => h) (Or.inl ⟨by rfl, ?hyn3⟩) (by assumption) ?restn3
        case hyn3 => (intro w hSw; (try dsimp only at hSw); go_split_ands; go_simp; try (with_reducible rfl))
        try simp only [List.getElem_toArray, List.getElem_cons_zero, List.getElem_cons_succ, Act.put, List.setIfInBounds_toArray, List.set_cons_zero, List.set_cons_succ]
        refine wpAnyH_take (i := 4) (oi := _) (v := ?vn4) rfl (by kernel_rfl) (by kernel_rfl) (by kernel_rfl) (fun _ _ _ h => h) (Or.inl ⟨by rfl, ?hyn4⟩) (by assumption) ?restn4
        case hyn4 => (intro w hSw; (try dsimp only at hSw); go_split_ands; go_simp; try (with_reducible rfl))
        try simp only [List.getElem_toArray, List.getElem_cons_zero, List.getElem_cons_succ, Act.put, List.setIfInBounds_toArray, List.set_cons_zero, List.set_cons_succ]
        refine wpAnyH_take (i := 5) (oi := _) (v := ?vn5) rfl (by kernel_rfl) (by kernel_rfl) (by kernel_rfl) (fun _ _ _ h => h) (Or.inl ⟨by rfl, ?hyn5⟩) (by assumption) ?restn5
        case hyn5 => (intro w hSw; (try dsimp only at hSw); go_split_ands; go_simp; try (with_reducible rfl))
        try simp only [List.getElem_toArray, List.getElem_cons_zero, List.getElem_cons_succ, Act.put, List.setIfInBounds_toArray, List.set_cons_zero, List.set_cons_succ]
        refine wpAnyH_take (i := 6) (oi := _) (v := ?vn6) rfl (by kernel_rfl) (by kernel_rfl) (by kernel_rfl) (fun _ _ _ h => h) (Or.inl ⟨by rfl, ?hyn6⟩) (by assumption) ?restn6
        case hyn6 => (intro w hSw; (try dsimp only at hSw); go_split_ands; go_simp; try (with_reducible rfl))
        try simp only [List.getElem_toArray, List.getElem_cons_zero, List.getElem_cons_succ, Act.put, List.setIfInBounds_toArray, List.set_cons_zero, List.set_cons_succ]
        refine wpAnyH_take (i := 7) (oi := _) (v := ?vn7) rfl (by kernel_rfl) (by kernel_rfl) (by kernel_rfl) (fun _ _ _ h => h) (Or.inl ⟨by rfl, ?hyn7⟩) (by assumption) ?restn7
        case hyn7 => (intro w hSw; (try dsimp only at hSw); go_split_ands; go_simp; try (with_reducible rfl))
        try simp only [List.getElem_toArray, List.getElem_cons_zero, List.getElem_cons_succ, Act.put, List.setIfInBounds_toArray, List.set_cons_zero, List.set_cons_succ]
        refine wpAnyH_take (i := 8) (oi := _) (v := ?vn8) rfl (by kernel_rfl) (by kernel_rfl) (by kernel_rfl) (fun _ _ _ h => h) (Or.inl ⟨by rfl, ?hyn8⟩) (by assumption) ?restn8
        case hyn8 => (intro w hSw; (try dsimp only at hSw); go_split_ands; go_simp; try (with_reducible rfl))
        try simp only [List.getElem_toArray, List.getElem_cons_zero, List.getElem_cons_succ, Act.put, List.setIfInBounds_toArray, List.set_cons_zero, List.set_cons_succ]
        refine wpAnyH_take (i := 9) (oi := _) (v := ?vn9) rfl (by kernel_rfl) (by kernel_rfl) (by kernel_rfl) (fun _ _ _ h => h) (Or.inl ⟨by rfl, ?hyn9⟩) (by assumption) ?restn9
        case hyn9 => (intro w hSw; (try dsimp only at hSw); go_split_ands; go_simp; try (with_reducible rfl))
        try simp only [List.getElem_toArray, List.getElem_cons_zero, List.getElem_cons_succ, Act.put, List.setIfInBounds_toArray, List.set_cons_zero, List.set_cons_succ]
        refine wpAnyH_take (i := 10) (oi := _) (v := ?vn10) rfl (by kernel_rfl) (by kernel_rfl) (by kernel_rfl) (fun _ _ _ h => h) (Or.inl ⟨by rfl, ?hyn10⟩) (by assumption) ?restn10
        case hyn10 => (intro w hSw; (try dsimp only at hSw); go_split_ands; go_simp; try (with_reducible rfl))
        try simp only [List.getElem_toArray, List.getElem_cons_zero, List.getElem_cons_succ, Act.put, List.setIfInBounds_toArray, List.set_cons_zero, List.set_cons_succ]
        refine wpAnyH_take (i := 11) (oi := _) (v := ?vn11) rfl (by kernel_rfl) (by kernel_rfl) (by kernel_rfl) (fun _ _ _ h => h) (Or.inl ⟨by rfl, ?hyn11⟩) (by assumption) ?restn11
        case hyn11 => (intro w hSw; (try dsimp only at hSw); go_split_ands; go_simp; try (with_reducible rfl))
        try simp only [List.getElem_toArray, List.getElem_cons_zero, List.getElem_cons_succ, Act.put, List.setIfInBounds_toArray, List.set_cons_zero, List.set_cons_succ]
        refine wpAnyH_take (i := 12) (oi := _) (v := ?vn12) rfl (by kernel_rfl) (by kernel_rfl) (by kernel_rfl) (fun _ _ _ h => h) (Or.inl ⟨by rfl, ?hyn12⟩) (by assumption) ?restn12
        case hyn12 => (intro w hSw; (try dsimp only at hSw); go_split_ands; go_simp; try (with_reducible rfl))
        try simp only [List.getElem_toArray, List.getElem_cons_zero, List.getElem_cons_succ, Act.put, List.setIfInBounds_toArray, List.set_cons_zero, List.set_cons_succ]
        refine wpAnyH_take (i := 13) (oi := _) (v := ?vn13) rfl (by kernel_rfl) (by kernel_rfl) (by kernel_rfl) (fun _ _ _ h => h) (Or.inl ⟨by rfl, ?hyn13⟩) (by assumption) ?restn13
        case hyn13 => (intro w hSw; (try dsimp only at hSw); go_split_ands; go_simp; try (with_reducible rfl))
        try simp only [List.getElem_toArray, List.getElem_cons_zero, List.getElem_cons_succ, Act.put, List.setIfInBounds_toArray, List.set_cons_zero, List.set_cons_succ]
        refine wpAnyH_take (i := 14) (oi := _) (v := undef) rfl (by kernel_rfl) (by kernel_rfl) (by kernel_rfl) (fun _ _ _ h => h) (Or.inr ⟨by rfl, rfl⟩) (by assumption) ?_
        try simp only [List.getElem_toArray, List.getElem_cons_zero, List.getElem_cons_succ, Act.put, List.setIfInBounds_toArray, List.set_cons_zero, List.set_cons_succ]
        refine wpAnyH_take (i := 15) (oi := _) (v := undef) rfl (by kernel_rfl) (by kernel_rfl) (by kernel_rfl) (fun _ _ _ h => h) (Or.inr ⟨by rfl, rfl⟩) (by assumption) ?_
        try simp only [List.getElem_toArray, List.getElem_cons_zero, List.getElem_cons_succ, Act.put, List.setIfInBounds_toArray, List.set_cons_zero, List.set_cons_succ]
        refine wpAnyH_take (i := 16) (oi := _) (v := undef) rfl (by kernel_rfl) (by kernel_rfl) (by kernel_rfl) (fun _ _ _ h => h) (Or.inr ⟨by rfl, rfl⟩) (by assumption) ?_
        try simp only [List.getElem_toArray, List.getElem_cons_zero, List.getElem_cons_succ, Act.put, List.setIfInBounds_toArray, List.set_cons_zero, List.set_cons_succ]
        refine wpAnyH_take (i := 17) (oi := _) (v := undef) rfl (by kernel_rfl) (by kernel_rfl) (by kernel_rfl) (fun _ _ _ h => h) (Or.inr ⟨by rfl, rfl⟩) (by assumption) ?_
        try simp only [List.getElem_toArray, List.getElem_cons_zero, List.getElem_cons_succ, Act.put, List.setIfInBounds_toArray, List.set_cons_zero, List.set_cons_succ]
        refine wpAnyH_take (i := 18) (oi := _) (v := undef) rfl (by kernel_rfl) (by kernel_rfl) (by kernel_rfl) (fun _ _ _ h => h) (Or.inr ⟨by rfl, rfl⟩) (by assumption) ?_
        try simp only [List.getElem_toArray, List.getElem_cons_zero, List.getElem_cons_succ, Act.put, List.setIfInBounds_toArray, List.set_cons_zero, List.set_cons_succ]
        refine wpAnyH_take (i := 19) (oi := _) (v := undef) rfl (by kernel_rfl) (by kernel_rfl) (by kernel_rfl) (fun _ _ _ h => h) (Or.inr ⟨by rfl, rfl⟩) (by assumption) ?_
        try simp only [List.getElem_toArray, List.getElem_cons_zero, List.getElem_cons_succ, Act.put, List.setIfInBounds_toArray, List.set_cons_zero, List.set_cons_succ]
        refine wpAnyH_take (i := 20) (oi := _) (v := undef) rfl (by kernel_rfl) (by kernel_rfl) (by kernel_rfl) (fun _ _ _ h => h) (Or.inr ⟨by rfl, rfl⟩) (by assumption) ?_
        try simp only [List.getElem_toArray, List.getElem_cons_zero, List.getElem_cons_succ, Act.put, List.setIfInBounds_toArray, List.set_cons_zero, List.set_cons_succ]
        refine wpAnyH_take (i := 21) (oi := _) (v := undef) rfl (by kernel_rfl) (by kernel_rfl) (by kernel_rfl) (fun _ _ _ h => h) (Or.inr ⟨by rfl, rfl⟩) (by assumption) ?_
        try simp only [List.getElem_toArray, List.getElem_cons_zero, List.getElem_cons_succ, Act.put, List.setIfInBounds_toArray, List.set_cons_zero, List.set_cons_succ]
        refine wpAnyH_take (i := 22) (oi := _) (v := undef) rfl (by kernel_rfl) (by kernel_rfl) (by kernel_rfl) (fun _ _ _ h => h) (Or.inr ⟨by rfl, rfl⟩) (by assumption) ?_
        try simp only [List.getElem_toArray, List.getElem_cons_zero, List.getElem_cons_succ, Act.put, List.setIfInBounds_toArray, List.set_cons_zero, List.set_cons_succ]
        refine wpAnyH_take (i := 23) (oi := _) (v := ?vn23) rfl (by kernel_rfl) (by kernel_rfl) (by kernel_rfl) (fun _ _ _ h => h) (Or.inl ⟨by rfl, ?hyn23⟩) (by assumption) ?restn23
        case hyn23 => (intro w hSw; (try dsimp only at hSw); go_split_ands; go_simp; try (with_reducible rfl))
        try simp only [List.getElem_toArray, List.getElem_cons_zero, List.getElem_cons_succ, Act.put, List.setIfInBounds_toArray, List.set_cons_zero, List.set_cons_succ]
        refine wpAnyH_take (i := 24) (oi := _) (v := ?vn24) rfl (by kernel_rfl) (by kernel_rfl) (by kernel_rfl) (fun _ _ _ h => h) (Or.inl ⟨by rfl, ?hyn24⟩) (by assumption) ?restn24
        case hyn24 => (intro w hSw; (try dsimp only at hSw); go_split_ands; go_simp; try (with_reducible rfl))
        try simp only [List.getElem_toArray, List.getElem_cons_zero, List.getElem_cons_succ, Act.put, List.setIfInBounds_toArray, List.set_cons_zero, List.set_cons_succ]
        refine wpAnyH_done (by kernel_rfl) ?_ _
        have B10 := hid (bdrew B8.out 1)
        have C10 := hid (bdrew C8.out 1)
        have eqw : wo.drewN 1 = wo.drew := rfl
        rw [eqw] at B10 C10
        generalize wo.drew = w10 at *
        have V10 := hid (HV.out.below B10.out)
        have X10' := hid (X5.out.below (C10.out))
        have Y10' := hid (Y5.out.below (C10.out))
        go_wp2_with fail
        refine (known_any _ V10.out).mono ?_
        rintro e u1 ⟨rfl, hc1⟩
        have B11 := hid (bthen B10.out hc1)
        have X11 := hid (X10'.out.below hc1)
        have Y11 := hid (Y10'.out.below hc1)
        go_wp2_with fail
        refine (oSame_any _ _ _ _ _ _ X Y _ X11.out Y11.out).mono ?_
        rintro e u2 ⟨rfl, hc2⟩
        have B12 := hid (bthen B11.out hc2)
        have X12 := hid (X11.out.below hc2)
        have Y12 := hid (Y11.out.below hc2)
        go_wp2_with fail
        refine (of_any _ _ _ X _ X12.out (by omega)).mono ?_
        rintro e u3 ⟨oa, oc, rfl, hox, hc3⟩
        have P13 := hid hox
        have B13 := hid (bthen B12.out hc3)
        have X13 := hid (X12.out.below hc3)
        have Y13 := hid (Y12.out.below hc3)
        clear hox
        go_wp2_with fail
        refine (of_any _ _ _ Y _ Y13.out (by omega)).mono ?_
        rintro e u4 ⟨pa, pc, rfl, hoy, hc4⟩
        have P14 := hid (P13.out.below hc4)
        have Q14 := hid hoy
        have B14 := hid (bthen B13.out hc4)
        have X14 := hid (X13.out.below hc4)
        clear hoy hc1 hc2 hc3 hc4
        go_wp2_with fail
        refine (refAll_any _ _ _ _ _ _ X Y _ P14.out Q14.out).mono ?_
        rintro e u5 ⟨rfl, hc5⟩
        have B15 := hid (bthen B14.out hc5)
        have X15 := hid (X14.out.below hc5)
        clear hc5
        generalize allB (pos X) (pos Y) = ab at *
        have hab : (ab == ab) = true := by simp
        go_wp2_with fail
        refine (oSame_any _ _ _ _ _ _ X X _ X15.out X15.out).mono ?_
        rintro e u6 ⟨rfl, hc6⟩
        have B16 := hid (bthen B15.out hc6)
        clear hc6
        rw [allB_self]
        go_wp2_with fail
        go_ret
        exact ⟨rfl, B16.out⟩
      · obtain rfl : at' = i := HA2.out.trans hfi
        have hik' : (i : Int) < (k : Int) := by omega
        have d1 : decide ((0 : Int) ≤ (i : Int)) = true := decide_eq_true (by omega)
        have d2 : ¬ xc = i := by omega
        obtain ⟨m3, hm3⟩ : ∃ m3, i + 1 = m3 := ⟨_, rfl⟩
        have vm3 : IntKind.i64.wrap ((i : Int) + 1) = (m3 : Int) := by rw [IntKind.wrap_i64]; omega
        have bm3 : (m3 : Int) ≤ (xc : Int) := by omega
        have cm3 : i ≤ m3 := by omega
        have dm3 : m3 - i = 1 := by omega
        have zm3 : (0 : Int) ≤ (m3 : Int) := by omega
        clear hm3
        obtain ⟨xb, xoff, hxa, _⟩ := X5.out.cell i hik
        subst hxa
        have w8e : True := trivial
        have R8 := hid (R5.out.below hbo.out)
        have F8 := hid (F5.out.below hbo.out)
        have X8 := hid ((X5.out.below hbo.out).one i hik)
        have HSm : Hid (allB (pos [fo]) (pos [X.getD i Ov.zero]) = true) := by
          rw [Hid, pos, pos, List.map_cons, List.map_nil, List.map_cons, List.map_nil, hpp, allB_one]; exact Po.eqB_self _
        clear hpp hfi
        generalize wo = w8 at *
        go_wp2_with fail
        refine wp_region_held_drew (S := fun w' => Hid (Row w' g9 43 fo.cs)) (by kernel_rfl) ?_ (fun hHeld => ?_)
        · exact R8.out
        refine wpAnyH_take (i := 0) (oi := _) (v := ?vy0) rfl (by kernel_rfl) (by kernel_rfl) (by kernel_rfl) (fun _ _ _ h => h) (Or.inl ⟨by rfl, ?hyy0⟩) (by assumption) ?resty0
        case hyy0 => (intro w hSw; (try dsimp only at hSw); go_split_ands; go_simp; try (with_reducible rfl))
        try simp only [List.getElem_toArray, List.getElem_cons_zero, List.getElem_cons_succ, Act.put, List.setIfInBounds_toArray, List.set_cons_zero, List.set_cons_succ]
        refine wpAnyH_take (i := 1) (oi := _) (v := ?vy1) rfl (by kernel_rfl) (by kernel_rfl) (by kernel_rfl) (fun _ _ _ h => h) (Or.inl ⟨by rfl, ?hyy1⟩) (by assumption) ?resty1
        case hyy1 => (intro w hSw; (try dsimp only at hSw); go_split_ands; go_simp; try (with_reducible rfl))
        try simp only [List.getElem_toArray, List.getElem_cons_zero, List.getElem_cons_succ, Act.put, List.setIfInBounds_toArray, List.set_cons_zero, List.set_cons_succ]
        refine wpAnyH_take (i := 2) (oi := _) (v := ?vy2) rfl (by kernel_rfl) (by kernel_rfl) (by kernel_rfl) (fun _ _ _ h => h) (Or.inl ⟨by rfl, ?hyy2⟩) (by assumption) ?resty2
        case hyy2 => (intro w hSw; (try dsimp only at hSw); go_split_ands; go_simp; try (with_reducible rfl))
        try simp only [List.getElem_toArray, List.getElem_cons_zero, List.getElem_cons_succ, Act.put, List.setIfInBounds_toArray, List.set_cons_zero, List.set_cons_succ]
        refine wpAnyH_take (i := 3) (oi := _) (v := ?vy3) rfl (by kernel_rfl) (by kernel_rfl) (by kernel_rfl) (fun _ _ _ h => h) (Or.inl ⟨by rfl, ?hyy3⟩) (by assumption) ?resty3
        case hyy3 => (intro w hSw; (try dsimp only at hSw); go_split_ands; go_simp; try (with_reducible rfl))
        try simp only [List.getElem_toArray, List.getElem_cons_zero, List.getElem_cons_succ, Act.put, List.setIfInBounds_toArray, List.set_cons_zero, List.set_cons_succ]
        refine wpAnyH_take (i := 4) (oi := _) (v := ?vy4) rfl (by kernel_rfl) (by kernel_rfl) (by kernel_rfl) (fun _ _ _ h => h) (Or.inl ⟨by rfl, ?hyy4⟩) (by assumption) ?resty4
        case hyy4 => (intro w hSw; (try dsimp only at hSw); go_split_ands; go_simp; try (with_reducible rfl))
        try simp only [List.getElem_toArray, List.getElem_cons_zero, List.getElem_cons_succ, Act.put, List.setIfInBounds_toArray, List.set_cons_zero, List.set_cons_succ]
        refine wpAnyH_take (i := 5) (oi := _) (v := ?vy5) rfl (by kernel_rfl) (by kernel_rfl) (by kernel_rfl) (fun _ _ _ h => h) (Or.inl ⟨by rfl, ?hyy5⟩) (by assumption) ?resty5
        case hyy5 => (intro w hSw; (try dsimp only at hSw); go_split_ands; go_simp; try (with_reducible rfl))
        try simp only [List.getElem_toArray, List.getElem_cons_zero, List.getElem_cons_succ, Act.put, List.setIfInBounds_toArray, List.set_cons_zero, List.set_cons_succ]
        refine wpAnyH_take (i := 6) (oi := _) (v := ?vy6) rfl (by kernel_rfl) (by kernel_rfl) (by kernel_rfl) (fun _ _ _ h => h) (Or.inl ⟨by rfl, ?hyy6⟩) (by assumption) ?resty6
        case hyy6 => (intro w hSw; (try dsimp only at hSw); go_split_ands; go_simp; try (with_reducible rfl))
        try simp only [List.getElem_toArray, List.getElem_cons_zero, List.getElem_cons_succ, Act.put, List.setIfInBounds_toArray, List.set_cons_zero, List.set_cons_succ]
        refine wpAnyH_take (i := 7) (oi := _) (v := ?vy7) rfl (by kernel_rfl) (by kernel_rfl) (by kernel_rfl) (fun _ _ _ h => h) (Or.inl ⟨by rfl, ?hyy7⟩) (by assumption) ?resty7
        case hyy7 => (intro w hSw; (try dsimp only at hSw); go_split_ands; go_simp; try (with_reducible rfl))
        try simp only [List.getElem_toArray, List.getElem_cons_zero, List.getElem_cons_succ, Act.put, List.setIfInBounds_toArray, List.set_cons_zero, List.set_cons_succ]
        refine wpAnyH_take (i := 8) (oi := _) (v := ?vy8) rfl (by kernel_rfl) (by kernel_rfl) (by kernel_rfl) (fun _ _ _ h => h) (Or.inl ⟨by rfl, ?hyy8⟩) (by assumption) ?resty8
        case hyy8 => (intro w hSw; (try dsimp only at hSw); go_split_ands; go_simp; try (with_reducible rfl))
        try simp only [List.getElem_toArray, List.getElem_cons_zero, List.getElem_cons_succ, Act.put, List.setIfInBounds_toArray, List.set_cons_zero, List.set_cons_succ]
        refine wpAnyH_take (i := 9) (oi := _) (v := ?vy9) rfl (by kernel_rfl) (by kernel_rfl) (by kernel_rfl) (fun _ _ _ h => h) (Or.inl ⟨by rfl, ?hyy9⟩) (by assumption) ?resty9
        case hyy9 => (intro w hSw; (try dsimp only at hSw); go_split_ands; go_simp; try (with_reducible rfl))
        try simp only [List.getElem_toArray, List.getElem_cons_zero, List.getElem_cons_succ, Act.put, List.setIfInBounds_toArray, List.set_cons_zero, List.set_cons_succ]
        refine wpAnyH_take (i := 10) (oi := _) (v := ?vy10) rfl (by kernel_rfl) (by kernel_rfl) (by kernel_rfl) (fun _ _ _ h => h) (Or.inl ⟨by rfl, ?hyy10⟩) (by assumption) ?resty10
        case hyy10 => (intro w hSw; (try dsimp only at hSw); go_split_ands; go_simp; try (with_reducible rfl))
        try simp only [List.getElem_toArray, List.getElem_cons_zero, List.getElem_cons_succ, Act.put, List.setIfInBounds_toArray, List.set_cons_zero, List.set_cons_succ]
        refine wpAnyH_take (i := 11) (oi := _) (v := ?vy11) rfl (by kernel_rfl) (by kernel_rfl) (by kernel_rfl) (fun _ _ _ h => h) (Or.inl ⟨by rfl, ?hyy11⟩) (by assumption) ?resty11
        case hyy11 => (intro w hSw; (try dsimp only at hSw); go_split_ands; go_simp; try (with_reducible rfl))
        try simp only [List.getElem_toArray, List.getElem_cons_zero, List.getElem_cons_succ, Act.put, List.setIfInBounds_toArray, List.set_cons_zero, List.set_cons_succ]
        refine wpAnyH_take (i := 12) (oi := _) (v := ?vy12) rfl (by kernel_rfl) (by kernel_rfl) (by kernel_rfl) (fun _ _ _ h => h) (Or.inl ⟨by rfl, ?hyy12⟩) (by assumption) ?resty12
        case hyy12 => (intro w hSw; (try dsimp only at hSw); go_split_ands; go_simp; try (with_reducible rfl))
        try simp only [List.getElem_toArray, List.getElem_cons_zero, List.getElem_cons_succ, Act.put, List.setIfInBounds_toArray, List.set_cons_zero, List.set_cons_succ]
        refine wpAnyH_take (i := 13) (oi := _) (v := ?vy13) rfl (by kernel_rfl) (by kernel_rfl) (by kernel_rfl) (fun _ _ _ h => h) (Or.inl ⟨by rfl, ?hyy13⟩) (by assumption) ?resty13
        case hyy13 => (intro w hSw; (try dsimp only at hSw); go_split_ands; go_simp; try (with_reducible rfl))
        try simp only [List.getElem_toArray, List.getElem_cons_zero, List.getElem_cons_succ, Act.put, List.setIfInBounds_toArray, List.set_cons_zero, List.set_cons_succ]
        refine wpAnyH_take (i := 14) (oi := _) (v := .agg fo.cs) rfl (by kernel_rfl) (by kernel_rfl) (by kernel_rfl) (fun _ _ _ h => h) (yldO o43 (by rfl) _ rfl g9 0 rfl fo HFA.out (fun w h => h.out.part)) (by assumption) ?_
        try simp only [List.getElem_toArray, List.getElem_cons_zero, List.getElem_cons_succ, Act.put, List.setIfInBounds_toArray, List.set_cons_zero, List.set_cons_succ]
        refine wpAnyH_take (i := 16) (oi := _) (v := ?vy16) rfl (by kernel_rfl) (by kernel_rfl) (by kernel_rfl) (fun _ _ _ h => h) (Or.inl ⟨by rfl, ?hyy16⟩) (by assumption) ?resty16
        case hyy16 => (intro w hSw; (try dsimp only at hSw); go_split_ands; go_simp; try (with_reducible rfl))
        try simp only [List.getElem_toArray, List.getElem_cons_zero, List.getElem_cons_succ, Act.put, List.setIfInBounds_toArray, List.set_cons_zero, List.set_cons_succ]
        refine wpAnyH_take (i := 17) (oi := _) (v := ?vy17) rfl (by kernel_rfl) (by kernel_rfl) (by kernel_rfl) (fun _ _ _ h => h) (Or.inl ⟨by rfl, ?hyy17⟩) (by assumption) ?resty17
        case hyy17 => (intro w hSw; (try dsimp only at hSw); go_split_ands; go_simp; try (with_reducible rfl))
        try simp only [List.getElem_toArray, List.getElem_cons_zero, List.getElem_cons_succ, Act.put, List.setIfInBounds_toArray, List.set_cons_zero, List.set_cons_succ]
        refine wpAnyH_take (i := 18) (oi := _) (v := ?vy18) rfl (by kernel_rfl) (by kernel_rfl) (by kernel_rfl) (fun _ _ _ h => h) (Or.inl ⟨by rfl, ?hyy18⟩) (by assumption) ?resty18
        case hyy18 => (intro w hSw; (try dsimp only at hSw); go_split_ands; go_simp; try (with_reducible rfl))
        try simp only [List.getElem_toArray, List.getElem_cons_zero, List.getElem_cons_succ, Act.put, List.setIfInBounds_toArray, List.set_cons_zero, List.set_cons_succ]
        refine wpAnyH_take (i := 19) (oi := _) (v := ?vy19) rfl (by kernel_rfl) (by kernel_rfl) (by kernel_rfl) (fun _ _ _ h => h) (Or.inl ⟨by rfl, ?hyy19⟩) (by assumption) ?resty19
        case hyy19 => (intro w hSw; (try dsimp only at hSw); go_split_ands; go_simp; try (with_reducible rfl))
        try simp only [List.getElem_toArray, List.getElem_cons_zero, List.getElem_cons_succ, Act.put, List.setIfInBounds_toArray, List.set_cons_zero, List.set_cons_succ]
        refine wpAnyH_take (i := 20) (oi := _) (v := ?vy20) rfl (by kernel_rfl) (by kernel_rfl) (by kernel_rfl) (fun _ _ _ h => h) (Or.inl ⟨by rfl, ?hyy20⟩) (by assumption) ?resty20
        case hyy20 => (intro w hSw; (try dsimp only at hSw); go_split_ands; go_simp; try (with_reducible rfl))
        try simp only [List.getElem_toArray, List.getElem_cons_zero, List.getElem_cons_succ, Act.put, List.setIfInBounds_toArray, List.set_cons_zero, List.set_cons_succ]
        refine wpAnyH_ready (rs := [15]) (by kernel_rfl) (by simp) ?_
        refine AllReadyH.cons (o := _) rfl (fun K hK => ?_) AllReadyH.nil
        refine step_bsOw s23 (by rfl) _ rfl fo HFA.out rfl ?_
        have BA := hid (balloc (Below.refl w8.heap.size w8) (.cells fo.cs 43))
        have R9 := hid (R8.out.below BA.out)
        have FO := hid (opts_one w8 43 fo F8.out)
        have XO := hid (X8.out.below BA.out)
        have B9 := hid (bthen B8.out BA.out)
        refine hK.out _ _ R9.out (fun hHeld => ?_)
        clear hK K
        try simp only [List.getElem_toArray, List.getElem_cons_zero, List.getElem_cons_succ, Act.put, List.setIfInBounds_toArray, List.set_cons_zero, List.set_cons_succ]
        refine wpAnyH_ready (rs := [21]) (by kernel_rfl) (by simp) ?_
        refine AllReadyH.cons (o := _) rfl (fun K hK => ?_) AllReadyH.nil
        go_simp
        refine (oSame_any _ _ 1 1 1 _ [fo] [X.getD i Ov.zero] _ (by exact FO.out.drewN 1) (by exact XO.out.drewN 1)).mono ?_
        rintro e w9 ⟨rfl, hb9⟩
        have hb9 : Below (w8.alloc (.cells fo.cs 43)).heap.size (w8.alloc (.cells fo.cs 43)) w9 := ⟨hb9.os, hb9.tape, hb9.output, hb9.size, hb9.block⟩
        have R10 := hid (R9.out.below hb9)
        have B10 := hid (bthen B9.out hb9)
        have C10 := hid (bthen (bthen C8.out BA.out) hb9)
        rw [HSm.out]
        clear hb9
        go_wp2_with fail
        refine hK.out _ _ R10.out (fun hHeld => ?_)
        clear hK K
        try simp only [List.getElem_toArray, List.getElem_cons_zero, List.getElem_cons_succ, Act.put, List.setIfInBounds_toArray, List.set_cons_zero, List.set_cons_succ]
        refine wpAnyH_take (i := 22) (oi := _) (v := ?vy22) rfl (by kernel_rfl) (by kernel_rfl) (by kernel_rfl) (fun _ _ _ h => h) (Or.inl ⟨by rfl, ?hyy22⟩) (by assumption) ?resty22
        case hyy22 => (intro w hSw; (try dsimp only at hSw); go_split_ands; go_simp; try (with_reducible rfl))
        try simp only [List.getElem_toArray, List.getElem_cons_zero, List.getElem_cons_succ, Act.put, List.setIfInBounds_toArray, List.set_cons_zero, List.set_cons_succ]
        refine wpAnyH_take (i := 23) (oi := _) (v := ?vy23) rfl (by kernel_rfl) (by kernel_rfl) (by kernel_rfl) (fun _ _ _ h => h) (Or.inl ⟨by rfl, ?hyy23⟩) (by assumption) ?resty23
        case hyy23 => (intro w hSw; (try dsimp only at hSw); go_split_ands; go_simp; try (with_reducible rfl))
        try simp only [List.getElem_toArray, List.getElem_cons_zero, List.getElem_cons_succ, Act.put, List.setIfInBounds_toArray, List.set_cons_zero, List.set_cons_succ]
        refine wpAnyH_take (i := 24) (oi := _) (v := ?vy24) rfl (by kernel_rfl) (by kernel_rfl) (by kernel_rfl) (fun _ _ _ h => h) (Or.inl ⟨by rfl, ?hyy24⟩) (by assumption) ?resty24
        case hyy24 => (intro w hSw; (try dsimp only at hSw); go_split_ands; go_simp; try (with_reducible rfl))
        try simp only [List.getElem_toArray, List.getElem_cons_zero, List.getElem_cons_succ, Act.put, List.setIfInBounds_toArray, List.set_cons_zero, List.set_cons_succ]
        refine wpAnyH_done (by kernel_rfl) ?_ _
        have V10 := hid (HV.out.below B10.out)
        have X10' := hid (X5.out.below (C10.out))
        have Y10' := hid (Y5.out.below (C10.out))
        go_wp2_with fail
        refine (known_any _ V10.out).mono ?_
        rintro e u1 ⟨rfl, hc1⟩
        have B11 := hid (bthen B10.out hc1)
        have X11 := hid (X10'.out.below hc1)
        have Y11 := hid (Y10'.out.below hc1)
        go_wp2_with fail
        refine (oSame_any _ _ _ _ _ _ X Y _ X11.out Y11.out).mono ?_
        rintro e u2 ⟨rfl, hc2⟩
        have B12 := hid (bthen B11.out hc2)
        have X12 := hid (X11.out.below hc2)
        have Y12 := hid (Y11.out.below hc2)
        go_wp2_with fail
        refine (of_any _ _ _ X _ X12.out (by omega)).mono ?_
        rintro e u3 ⟨oa, oc, rfl, hox, hc3⟩
        have P13 := hid hox
        have B13 := hid (bthen B12.out hc3)
        have X13 := hid (X12.out.below hc3)
        have Y13 := hid (Y12.out.below hc3)
        clear hox
        go_wp2_with fail
        refine (of_any _ _ _ Y _ Y13.out (by omega)).mono ?_
        rintro e u4 ⟨pa, pc, rfl, hoy, hc4⟩
        have P14 := hid (P13.out.below hc4)
        have Q14 := hid hoy
        have B14 := hid (bthen B13.out hc4)
        have X14 := hid (X13.out.below hc4)
        clear hoy hc1 hc2 hc3 hc4
        go_wp2_with fail
        refine (refAll_any _ _ _ _ _ _ X Y _ P14.out Q14.out).mono ?_
        rintro e u5 ⟨rfl, hc5⟩
        have B15 := hid (bthen B14.out hc5)
        have X15 := hid (X14.out.below hc5)
        clear hc5
        generalize allB (pos X) (pos Y) = ab at *
        have hab : (ab == ab) = true := by simp
        go_wp2_with fail
        refine (oSame_any _ _ _ _ _ _ X X _ X15.out X15.out).mono ?_
        rintro e u6 ⟨rfl, hc6⟩
        have B16 := hid (bthen B15.out hc6)
        clear hc6
        rw [allB_self]
        go_wp2_with fail
        go_ret
        exact ⟨rfl, B16.out⟩
end Go.Proofs.YtbgogeojdibmkaaDoor
