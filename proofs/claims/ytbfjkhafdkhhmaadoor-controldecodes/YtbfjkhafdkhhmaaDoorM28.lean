/- The document's body: parts. · The document's body. · Slices of bytes cut, in one way whether their room ends there or not. -/
import Derived.Test.YtbfjkhafdkhhmaaDoorM26
import Derived.Test.YtbfjkhafdkhhmaaDoorOpBdp
import Derived.Test.YtbfjkhafdkhhmaaDoorM3
namespace Go.Proofs.YtbfjkhafdkhhmaaDoor
open Go.ChangeShapes Go.WideShapes Go.ChangeAt Go.RowKit Go.Deep
set_option linter.unusedVariables false
set_option linter.unusedSimpArgs false

theorem rsts_n (l C : List Int) (i : Nat) (hi : i ≤ 10) : (rsts l (C.take i)).2.2.1.length ≤ i := by
  have : ∀ (C : List Int) (s : Nat × Int × List Int × List Int), (C.foldl (fun s c => rstq l s (szl c)) s).2.2.1.length ≤ s.2.2.1.length + C.length := by
    intro C
    induction C with
    | nil => intro s; simp
    | cons c C ih =>
      intro s
      rw [List.foldl_cons]
      have h1 := ih (rstq l s (szl c))
      have h2 : (rstq l s (szl c)).2.2.1.length ≤ s.2.2.1.length + 1 := by unfold rstq; split <;> simp
      rw [List.length_cons]; omega
  have h := this (C.take i) (0, 0, [], zeros)
  have h2 : (C.take i).length ≤ i := by rw [List.length_take]; omega
  simp only [List.length_nil, Nat.zero_add] at h
  exact Nat.le_trans h h2
set_option maxRecDepth 1000000 in
set_option maxHeartbeats 3200000 in
theorem body_parts (k : Nat) (hk : k < 10) (a : Option Addr) (len cap : Nat) (l : List Int) (w : World) (h : Lies .u8 w a len cap l) (ho : Oct l) (hl : len ≤ 300) (h3 : 3 ≤ k) :
    Calls Tryd.prog 70 #[.int .i64 k, .slice a len cap] w (BodyOk w a k l) := by
  have hz := zov
  have B0 := hid (balloc (Below.refl w.heap.size w) (.cells Ov.zero.cs 57))
  have Z0 := hid (Row.new w 57 Ov.zero.cs)
  have HL := hid h
  have HO := hid ho
  have HLl := hid h.1
  have HLt : Hid (lets k = chs k) := by
    have h1 : kndB (k : Int) = true := by simp [kndB]; omega
    rw [Hid, lets, h1, if_pos rfl]; rfl
  have hlc := h.2.1
  have hcm := h.2.2.1
  unfold maxLen at hcm
  clear h ho
  go_enter Tryd.func70, Tryd.ntmps70
  go_upto_region 1 with fail
  generalize hw1 : w.alloc (.cells Ov.zero.cs 57) = w1 at *
  have HS1 : Hid (w1.heap.size = w.heap.size + 1) := by rw [Hid, ← hw1, World.size_alloc]
  have HXp : Hid (Ov.p ⟨k, Txt.none, zeros, Txt.none⟩ = ⟨k, [], zeros, []⟩) := rfl
  have HXa : Hid (Adr (⟨k, Txt.none, zeros, Txt.none⟩ : Ov).ad) := adr_zeros
  have HXc : Hid ((⟨k, Txt.none, zeros, Txt.none⟩ : Ov).n = Txt.none ∧ (⟨k, Txt.none, zeros, Txt.none⟩ : Ov).t = Txt.none) := ⟨rfl, rfl⟩
  have O2 := hid (layOo_new w1 57 ⟨k, Txt.none, zeros, Txt.none⟩)
  have B2 := hid (layOo_below w1 57 ⟨k, Txt.none, zeros, Txt.none⟩)
  clear hw1
  refine wp_region_lit ?_
  go_step
  go_simp
  rename_i hKK
  refine hKK _ _ ?_
  refine bdO1 o38 _ rfl rfl (k : Int) rfl ?_
  simp only [Act.put, List.setIfInBounds_toArray, List.set_cons_zero, List.set_cons_succ]
  clear hKK
  generalize hX : (⟨k, Txt.none, zeros, Txt.none⟩ : Ov) = X at *
  clear hX
  go_wp2_with ((refine stOo o38 _ _ rfl rfl w1.heap.size X HXa.out rfl rfl 57 Ov.zero adr_zeros (Row.new w1 57 _) ?_))
  have Z2 := hid (Z0.out.below B2.out)
  have B3 := hid (bthen B0.out B2.out)
  generalize (w1.alloc (.cells Ov.zero.cs 57)).setRow w1.heap.size X.cs = w2 at *
  refine (parts_any _ _).mono ?_
  rintro e w3 ⟨rfl, hb3⟩
  rw [HLt.out]
  have O3 := hid (O2.out.below hb3)
  have Z3 := hid (Z2.out.below hb3)
  have B4 := hid (bthen B3.out hb3)
  have hgs : w1.heap.size < w3.heap.size := O3.out.lt
  clear hb3 Z2 O2 B2 B3 B0 Z0
  go_wp2_with fail
  have D4 : Hid (BdAt w (w3.alloc (.cells #[.slice a len cap, .int .i64 0, .int .i64 0] 88)) w.heap.size w3.heap.size w1.heap.size a len cap l 0 0 X) := by
    have ba := balloc (Below.refl w3.heap.size w3) (.cells #[.slice a len cap, .int .i64 0, .int .i64 0] 88)
    have hs3 := B4.out.size
    refine ⟨⟨Go.heap_alloc_new w3 _, (HL.out.below B4.out).below ba, HO.out, by omega, by omega⟩, O3.out.below ba, Z3.out.below ba, ?_, ?_, HXa.out, ?_, ?_, bthen B4.out ba, hs3, ?_, Nat.le_refl _, ?_, fun x e hx => ?_⟩
    · rw [HXc.out.1]; exact World.ownsRow_nil _ _ _ _
    · rw [HXc.out.1]; rfl
    · rw [HXc.out.2]; exact Lies.nil _ _
    · rw [HXc.out.2]; intro x hx; cases hx
    · have := HS1.out; omega
    · have := HS1.out; omega
    · obtain ⟨b, off, e2, hc⟩ := HL.out.2.2.2.2 0 hx
      rw [e] at e2
      have : x = ⟨b, off, none⟩ := Option.some.inj e2
      rw [this]
      exact World.block_lt_of_cell? w ⟨b, off + 0, none⟩ hc
  generalize (w3.alloc (.cells #[.slice a len cap, .int .i64 0, .int .i64 0] 88)) = ws at *
  generalize w3.heap.size = d at *
  generalize w1.heap.size = g at *
  obtain ⟨r, hr⟩ : ∃ r, w.heap.size = r := ⟨_, rfl⟩
  have HR := hid hr
  rw [hr] at D4 ⊢
  clear O3 Z3 B4 hr HS1 hgs HXc
  obtain ⟨c1, c2, _, _⟩ := cl_prt k hk h3
  have hcs := chs_small k hk
  have HCL := hid (cl_len k)
  have HCh := hid (fun i h => char_at k i h)
  have HC2 := hid c2
  have HCN := hid (cl_n k hk)
  have HFil := hid (rsts_fil k hk h3 l)
  clear c1 c2
  go_loopw [9] (fun iv wr => ∃ i : Nat, i ≤ (chs k).size ∧ iv = .int .i64 i ∧ Hid (BdS w wr r d g len l k (rsts l ((cl k).take i)))) (fun i _ => (chs k).size - (intOf i).toNat)
  case atStart => exact ⟨0, Nat.zero_le _, rfl, a, cap, X, D4.out, HXp.out⟩
  case round =>
    obtain ⟨i, hi, rfl, hS⟩ := hrel
    by_cases hlt : i < (chs k).size
    · have hlt3 : (i : Int) < ((chs k).size : Int) := by omega
      have hil : i < (cl k).length := by rw [HCL.out]; exact hlt
      have hc := HCh.out i hlt
      have hcc := HC2.out i hil
      have hcn := HCN.out i hil
      have HNx := hid (rsts_succ l (cl k) i hil)
      obtain ⟨a2, cap2, o1, hb2, hp1⟩ := hS.out
      have H2 := hid hb2
      have HP1 : Hid (o1.k = k ∧ o1.n.l = _ ∧ o1.ad = _ ∧ o1.t.l = []) := ⟨congrArg Po.k hp1, congrArg Po.n hp1, congrArg Po.ad hp1, congrArg Po.t hp1⟩
      have HK1 : Hid (o1.k = k) := congrArg Po.k hp1
      have hn10 : o1.n.n ≤ 100 := by
        rw [hb2.nn, show o1.n.l = _ from congrArg Po.n hp1]
        exact Nat.le_trans (rsts_n l (cl k) i (by omega)) (by omega)
      generalize rsts l ((cl k).take i) = s at *
      generalize (cl k).getD i 0 = c at *
      clear hb2 hp1 hil hS
      by_cases q1 : c = 97
      · have r1 : (c == 97) = true := by simp [q1]
        have HSl : Hid (szl c = 16) := by rw [Hid, szl, if_pos q1]
        clear q1 hcc hcn
        go_wp2_with fail
        refine (refBytes_src _ d a2 (len - s.1) cap2 (l.drop s.1) s.1 s.2.1 16 H2.out.ref).mono ?_
        rintro e w5 ⟨a1, c1, rfl, hl1, hk1, hsrc⟩
        have hm16 := rdN_16 (len - s.1) s.2.1
        have hmle := rdN_le 1 16 (len - s.1) s.2.1
        generalize hm : rdN 1 16 (len - s.1) s.2.1 = m at *
        generalize he2 : rdE 1 16 (len - s.1) s.2.1 = e2 at *
        obtain ⟨a3, cap3, hb3⟩ := H2.out.read hk1
        have H4 := hid hb3
        have HM := hid hm
        have HE2 := hid he2
        have LW : Hid (Lies .u8 w a1 m c1 ((l.drop s.1).take m)) := lies_back hl1 hb3.below (fun x e hx => by
          rcases hsrc with e1 | e1
          · rw [e1] at e; cases e
          · rw [e1] at e; exact H2.out.la x e (by omega))
        have HOF : Hid (Oct ((l.drop s.1).take m)) := fun x hx => HO.out x (List.mem_of_mem_drop (List.mem_of_mem_take hx))
        have k1 := hl1.2.1
        have k2 := hl1.2.2.1
        unfold maxLen at k2
        generalize hF : (l.drop s.1).take m = F at *
        have HF := hid hF
        have HFl : Hid (F.length = m) := hl1.1
        clear hk1 hl1 hb3 hsrc hm he2 hF H2
        have H5 : Hid (BdAt w w5 r d g a3 (len - s.1 - m) cap3 ((l.drop s.1).drop m) (s.1 + m) e2 (o1.setA (mixL F o1.ad 0))) := by rw [mixL_0, setA_self]; exact H4.out
        have HA1 := hid H4.out.ad.1
        clear H4
        go_wp2_with fail
        go_loopw [11] (fun iv wq => ∃ q : Nat, q ≤ m ∧ iv = .int .i64 q ∧ Hid (BdAt w wq r d g a3 (len - s.1 - m) cap3 ((l.drop s.1).drop m) (s.1 + m) e2 (o1.setA (mixL F o1.ad q)))) (fun i _ => m - (intOf i).toNat)
        case atStart => exact ⟨0, Nat.zero_le _, rfl, H5.out⟩
        case round =>
          obtain ⟨q, hq, rfl, hbq⟩ := hrel
          by_cases hqm : q < m
          · have hqm' : (q : Int) < (m : Int) := by omega
            have hq16 : (q : Int) < 16 := by omega
            have hq16n : q < 16 := by omega
            obtain ⟨b, off, rfl, hsc⟩ := (LW.out.below hbq.out.below).2.2.2.2 q hqm
            have hx := HOF.out.at q (by rw [HFl.out]; exact hqm)
            have HMn := hid (mixL_next F o1.ad q (by rw [HFl.out]; exact hqm) (by rw [HA1.out]; exact hq16n))
            have H6 := hid (hbq.out.byte q hq16n (F.getD q 0) hx)
            have f2 := hbq.out.row.frozen (2 + q)
            have cn := (hbq.out.row.cell (2 + q)).trans (Ov.atA hbq.out.ad q hq16n)
            generalize F.getD q 0 = x at *
            go_wp2_with fail
            go_roundw
            case rel =>
              refine ⟨q + 1, by omega, by go_num, ?_⟩
              have := H6.out
              rw [setA_setA, show (o1.setA (mixL F o1.ad q)).ad = mixL F o1.ad q from rfl, HMn.out] at this
              exact this
            case measure => simp [intOf]; omega
          · obtain rfl : q = m := by omega
            go_wp2_with fail
            go_roundw
            case rel =>
              refine ⟨i + 1, by omega, by go_num, ?_⟩
              rw [Hid, HNx.out, HSl.out, rstq, if_pos (by simp), HLl.out, HM.out, HE2.out]
              refine ⟨a3, cap3, o1.setA (mixL F o1.ad q), ?_, ?_⟩
              · have := hbq.out
                rw [Nat.sub_sub, List.drop_drop] at this
                exact this
              · rw [HF.out, ← HFl.out, mixL_all]; simp only [Ov.p, Ov.setA, HP1.out.1, HP1.out.2.1, HP1.out.2.2.1, HP1.out.2.2.2]
            case measure => simp [intOf]; omega

      · have r1 : (c == 97) = false := by simp [q1]
        have HIN : isN c = true := hcc.resolve_left q1
        have HSZ := hid (hcn HIN).2
        have HSl : Hid (szl c = szc c) := by rw [Hid, szl, if_neg q1]
        have HS16 : Hid ((szc c == 16) = false) := by rcases sizeB_cases HSZ.out with e | e | e <;> rw [Hid, e] <;> rfl
        have r2 : (c == 116) = false := by simp only [isN, Bool.and_eq_true, Bool.not_eq_true'] at HIN; exact HIN.2.1
        have r3 : (c == 120) = false := by simp only [isN, Bool.and_eq_true, Bool.not_eq_true'] at HIN; exact HIN.2.2
        have HO1 : Hid (o1.n.a = o1.n.a ∧ o1.n.n = o1.n.n ∧ o1.n.cap = o1.n.cap) := ⟨rfl, rfl, rfl⟩
        generalize hna1 : o1.n.a = na1 at *
        generalize hnn1 : o1.n.n = n1 at *
        generalize hnc1 : o1.n.cap = nc1 at *
        replace HO1 : Hid (o1.n.a = na1 ∧ o1.n.n = n1 ∧ o1.n.cap = nc1) := ⟨hna1, hnn1, hnc1⟩
        clear hna1 hnn1 hnc1 q1 hcc hcn HIN
        go_wp2_with fail
        refine wp_region_held_drew (S := fun w' => w'.cell? ⟨g, 0, none⟩ = some (.int .i64 k)) (by kernel_rfl) ?_ (fun hHeld => ?_)
        · exact ((H2.out.row.cell 0).trans (by rw [o1.at0, HK1.out]))
        have H3 : Hid (BdAt w wr.drew r d g a2 (len - s.1) cap2 (l.drop s.1) s.1 s.2.1 o1) := H2.out.drewN 1
        clear H2
        generalize wr.drew = wd at *
        refine wpAnyH_take (i := 0) (oi := _) (v := ?va0) rfl (by kernel_rfl) (by kernel_rfl) (by kernel_rfl) (fun _ _ _ h => h) (Or.inl ⟨by rfl, ?hya0⟩) (by assumption) ?resta0
        case hya0 => (intro w hSw; (try dsimp only at hSw); go_split_ands; go_simp; try (with_reducible rfl))
        try simp only [List.getElem_toArray, List.getElem_cons_zero, List.getElem_cons_succ, Act.put, List.setIfInBounds_toArray, List.set_cons_zero, List.set_cons_succ]
        refine wpAnyH_take (i := 2) (oi := _) (v := ?va2) rfl (by kernel_rfl) (by kernel_rfl) (by kernel_rfl) (fun _ _ _ h => h) (Or.inl ⟨by rfl, ?hya2⟩) (by assumption) ?resta2
        case hya2 => (intro w hSw; (try dsimp only at hSw); go_split_ands; go_simp; try (with_reducible rfl))
        try simp only [List.getElem_toArray, List.getElem_cons_zero, List.getElem_cons_succ, Act.put, List.setIfInBounds_toArray, List.set_cons_zero, List.set_cons_succ]
        refine wpAnyH_take (i := 3) (oi := _) (v := ?va3) rfl (by kernel_rfl) (by kernel_rfl) (by kernel_rfl) (fun _ _ _ h => h) (Or.inl ⟨by rfl, ?hya3⟩) (by assumption) ?resta3
        case hya3 => (intro w hSw; (try dsimp only at hSw); go_split_ands; go_simp; try (with_reducible rfl))
        try simp only [List.getElem_toArray, List.getElem_cons_zero, List.getElem_cons_succ, Act.put, List.setIfInBounds_toArray, List.set_cons_zero, List.set_cons_succ]
        refine wpAnyH_take (i := 4) (oi := _) (v := ?va4) rfl (by kernel_rfl) (by kernel_rfl) (by kernel_rfl) (fun _ _ _ h => h) (Or.inl ⟨by rfl, ?hya4⟩) (by assumption) ?resta4
        case hya4 => (intro w hSw; (try dsimp only at hSw); go_split_ands; go_simp; try (with_reducible rfl))
        try simp only [List.getElem_toArray, List.getElem_cons_zero, List.getElem_cons_succ, Act.put, List.setIfInBounds_toArray, List.set_cons_zero, List.set_cons_succ]
        refine wpAnyH_take (i := 5) (oi := _) (v := ?va5) rfl (by kernel_rfl) (by kernel_rfl) (by kernel_rfl) (fun _ _ _ h => h) (Or.inl ⟨by rfl, ?hya5⟩) (by assumption) ?resta5
        case hya5 => (intro w hSw; (try dsimp only at hSw); go_split_ands; go_simp; try (with_reducible rfl))
        try simp only [List.getElem_toArray, List.getElem_cons_zero, List.getElem_cons_succ, Act.put, List.setIfInBounds_toArray, List.set_cons_zero, List.set_cons_succ]
        refine wpAnyH_ready (rs := [1, 6]) (by kernel_rfl) (by simp) ?_
        refine AllReadyH.cons (o := _) rfl (fun K hK => ?_) (AllReadyH.cons (o := _) rfl (fun K hK => ?_) AllReadyH.nil)
        · have cn : wd.cell? ⟨g, 1, none⟩ = some (.slice na1 n1 nc1) := (H3.out.row.cell 1).trans (by rw [o1.at1, HO1.out.1, HO1.out.2.1, HO1.out.2.2])
          go_simp
          go_wp2_with fail
          refine hK.out _ _ ((H3.out.row.cell 0).trans (by rw [o1.at0, HK1.out])) (fun hHeld => ?_)
          clear hK K
          try simp only [List.getElem_toArray, List.getElem_cons_zero, List.getElem_cons_succ, Act.put, List.setIfInBounds_toArray, List.set_cons_zero, List.set_cons_succ]
          clear cn
          refine wpAnyH_ready (rs := [6]) (by kernel_rfl) (by simp) ?_
          refine AllReadyH.cons (o := _) rfl (fun K hK => ?_) AllReadyH.nil
          go_simp
          refine (rsize_any c _).mono ?_
          rintro e w5 ⟨rfl, rfl⟩
          go_wp2_with fail
          refine hK.out _ _ ((H3.out.row.cell 0).trans (by rw [o1.at0, HK1.out])) (fun hHeld => ?_)
          clear hK K
          try simp only [List.getElem_toArray, List.getElem_cons_zero, List.getElem_cons_succ, Act.put, List.setIfInBounds_toArray, List.set_cons_zero, List.set_cons_succ]
          refine wpAnyH_ready (rs := [7]) (by kernel_rfl) (by simp) ?_
          refine AllReadyH.cons (o := _) rfl (fun K hK => ?_) AllReadyH.nil
          go_simp
          refine (refTake_size _ d a2 (len - s.1) cap2 (l.drop s.1) s.1 s.2.1 (szc c) H3.out.ref HSZ.out).mono ?_
          rintro e w6 ⟨rfl, hr6⟩
          obtain ⟨a3, cap3, hb3⟩ := H3.out.read hr6
          have H4 := hid hb3
          clear hr6 hb3 H3
          generalize hvv : numOf ((l.drop s.1).take (rdN (szc c) 1 (len - s.1) s.2.1)) = v at *
          have HVV := hid hvv
          clear hvv
          go_wp2_with fail
          refine hK.out _ _ ((H4.out.row.cell 0).trans (by rw [o1.at0, HK1.out])) (fun hHeld => ?_)
          clear hK K
          try simp only [List.getElem_toArray, List.getElem_cons_zero, List.getElem_cons_succ, Act.put, List.setIfInBounds_toArray, List.set_cons_zero, List.set_cons_succ]
          refine wpAnyH_ready (rs := [8]) (by kernel_rfl) (by simp) ?_
          refine AllReadyH.cons (o := _) rfl (fun K hK => ?_) AllReadyH.nil
          go_simp
          have BA := hid (balloc (Below.refl w6.heap.size w6) (.cells #[.int .i64 v] 3))
          have H5 := hid (H4.out.on BA.out)
          have LN := hid (lies_new .i64 w6 #[.int .i64 v] 3 [v] rfl (by simp))
          have NN : Hid ((w6.alloc (.cells #[.int .i64 v] 3)).ownsRow w.heap.size 3 1 (.slice na1 n1 nc1) n1 (i64s o1.n.l)) := by
            have := H5.out.n
            rw [← H5.out.nn, Txt.v, HO1.out.1, HO1.out.2.1, HO1.out.2.2] at this
            exact this
          go_wp2_with fail
          refine hK.out _ _ ((H5.out.row.cell 0).trans (by rw [o1.at0, HK1.out])) (fun hHeld => ?_)
          clear hK K
          try simp only [List.getElem_toArray, List.getElem_cons_zero, List.getElem_cons_succ, Act.put, List.setIfInBounds_toArray, List.set_cons_zero, List.set_cons_succ]
          refine wpAnyH_ready (rs := [9]) (by kernel_rfl) (by simp) ?_
          refine AllReadyH.cons (o := _) rfl (fun K hK => ?_) AllReadyH.nil
          refine step_appI (base := w.heap.size) (n := n1) (m := 1) (xs := o1.n.l) (l := [v]) rfl _ _ rfl rfl rfl (by exact NN.out) (by exact LN.out) (by exact H5.out.size) (by omega) ?_
          intro v4 w7 hown4 hg4
          obtain ⟨na, nc, rfl⟩ := owns_len hown4
          have HG : Hid ((w6.alloc (.cells #[.int .i64 v] 3)).grownBy w7 o1.n.v.ownBlock) := by rw [Hid, Txt.v, HO1.out.1, HO1.out.2.1, HO1.out.2.2]; exact hg4
          have HL4 : (o1.n.l ++ [v]).length = n1 + 1 := by rw [List.length_append, ← H5.out.nn, HO1.out.2.1]; rfl
          obtain ⟨g1, g2⟩ := BdAt.push H5.out HG.out na nc (o1.n.l ++ [v]) (n1 + 1) HL4 hown4
          have H6 := hid g1
          have O6 := hid g2
          clear hown4 hg4 g1 g2 HG H5 LN NN HL4
          refine hK.out _ _ ((O6.out.cell 0).trans (by rw [o1.at0, HK1.out])) (fun hHeld => ?_)
          clear hK K
          try simp only [List.getElem_toArray, List.getElem_cons_zero, List.getElem_cons_succ, Act.put, List.setIfInBounds_toArray, List.set_cons_zero, List.set_cons_succ]
          have f1 := O6.out.frozen 1
          have cn := (O6.out.cell 1).trans o1.at1
          refine wpAnyH_take (i := 10) (oi := _) (v := ?vc10) rfl (by kernel_rfl) (by kernel_rfl) (by kernel_rfl) (fun _ _ _ h => h) (Or.inl ⟨by rfl, ?hyc10⟩) (by assumption) ?restc10
          case hyc10 => (intro w hSw; (try dsimp only at hSw); go_split_ands; go_simp; try (with_reducible rfl))
          try simp only [List.getElem_toArray, List.getElem_cons_zero, List.getElem_cons_succ, Act.put, List.setIfInBounds_toArray, List.set_cons_zero, List.set_cons_succ]
          refine wpAnyH_ready (rs := [11]) (by kernel_rfl) (by simp) ?_
          refine AllReadyH.cons (o := _) rfl (fun K hK => ?_) AllReadyH.nil
          go_simp
          go_wp2_with fail
          refine hK.out _ _ (((H6.out.row.cell 0).trans (Ov.at0 _)).trans (by rw [show (o1.setN ⟨na, n1 + 1, nc, o1.n.l ++ [v]⟩).k = o1.k from rfl, HK1.out])) (fun hHeld => ?_)
          clear hK K
          try simp only [List.getElem_toArray, List.getElem_cons_zero, List.getElem_cons_succ, Act.put, List.setIfInBounds_toArray, List.set_cons_zero, List.set_cons_succ]
          refine wpAnyH_done (by kernel_rfl) ?_ _
          go_wp2_with fail
          go_roundw
          case rel =>
            refine ⟨i + 1, by omega, by go_num, ?_⟩
            rw [Hid, HNx.out, HSl.out, rstq, if_neg (by rw [HS16.out]; simp), HLl.out]
            refine ⟨a3, cap3, o1.setN ⟨na, n1 + 1, nc, o1.n.l ++ [v]⟩, ?_, ?_⟩
            · have := H6.out
              rw [Nat.sub_sub, List.drop_drop] at this
              exact this
            · rw [HVV.out]; simp only [Ov.p, Ov.setN, HP1.out.1, HP1.out.2.1, HP1.out.2.2.1, HP1.out.2.2.2]
          case measure => simp [intOf]; omega

        · go_simp
          refine (rsize_any c _).mono ?_
          rintro e w5 ⟨rfl, rfl⟩
          go_wp2_with fail
          refine hK.out _ _ ((H3.out.row.cell 0).trans (by rw [o1.at0, HK1.out])) (fun hHeld => ?_)
          clear hK K
          try simp only [List.getElem_toArray, List.getElem_cons_zero, List.getElem_cons_succ, Act.put, List.setIfInBounds_toArray, List.set_cons_zero, List.set_cons_succ]
          refine wpAnyH_ready (rs := [1, 7]) (by kernel_rfl) (by simp) ?_
          refine AllReadyH.cons (o := _) rfl (fun K hK => ?_) (AllReadyH.cons (o := _) rfl (fun K hK => ?_) AllReadyH.nil)
          · have cn : w5.cell? ⟨g, 1, none⟩ = some (.slice na1 n1 nc1) := (H3.out.row.cell 1).trans (by rw [o1.at1, HO1.out.1, HO1.out.2.1, HO1.out.2.2])
            go_simp
            go_wp2_with fail
            refine hK.out _ _ ((H3.out.row.cell 0).trans (by rw [o1.at0, HK1.out])) (fun hHeld => ?_)
            clear hK K
            try simp only [List.getElem_toArray, List.getElem_cons_zero, List.getElem_cons_succ, Act.put, List.setIfInBounds_toArray, List.set_cons_zero, List.set_cons_succ]
            clear cn
            refine wpAnyH_ready (rs := [7]) (by kernel_rfl) (by simp) ?_
            refine AllReadyH.cons (o := _) rfl (fun K hK => ?_) AllReadyH.nil
            go_simp
            refine (refTake_size _ d a2 (len - s.1) cap2 (l.drop s.1) s.1 s.2.1 (szc c) H3.out.ref HSZ.out).mono ?_
            rintro e w6 ⟨rfl, hr6⟩
            obtain ⟨a3, cap3, hb3⟩ := H3.out.read hr6
            have H4 := hid hb3
            clear hr6 hb3 H3
            generalize hvv : numOf ((l.drop s.1).take (rdN (szc c) 1 (len - s.1) s.2.1)) = v at *
            have HVV := hid hvv
            clear hvv
            go_wp2_with fail
            refine hK.out _ _ ((H4.out.row.cell 0).trans (by rw [o1.at0, HK1.out])) (fun hHeld => ?_)
            clear hK K
            try simp only [List.getElem_toArray, List.getElem_cons_zero, List.getElem_cons_succ, Act.put, List.setIfInBounds_toArray, List.set_cons_zero, List.set_cons_succ]
            refine wpAnyH_ready (rs := [8]) (by kernel_rfl) (by simp) ?_
            refine AllReadyH.cons (o := _) rfl (fun K hK => ?_) AllReadyH.nil
            go_simp
            have BA := hid (balloc (Below.refl w6.heap.size w6) (.cells #[.int .i64 v] 3))
            have H5 := hid (H4.out.on BA.out)
            have LN := hid (lies_new .i64 w6 #[.int .i64 v] 3 [v] rfl (by simp))
            have NN : Hid ((w6.alloc (.cells #[.int .i64 v] 3)).ownsRow w.heap.size 3 1 (.slice na1 n1 nc1) n1 (i64s o1.n.l)) := by
              have := H5.out.n
              rw [← H5.out.nn, Txt.v, HO1.out.1, HO1.out.2.1, HO1.out.2.2] at this
              exact this
            go_wp2_with fail
            refine hK.out _ _ ((H5.out.row.cell 0).trans (by rw [o1.at0, HK1.out])) (fun hHeld => ?_)
            clear hK K
            try simp only [List.getElem_toArray, List.getElem_cons_zero, List.getElem_cons_succ, Act.put, List.setIfInBounds_toArray, List.set_cons_zero, List.set_cons_succ]
            refine wpAnyH_ready (rs := [9]) (by kernel_rfl) (by simp) ?_
            refine AllReadyH.cons (o := _) rfl (fun K hK => ?_) AllReadyH.nil
            refine step_appI (base := w.heap.size) (n := n1) (m := 1) (xs := o1.n.l) (l := [v]) rfl _ _ rfl rfl rfl (by exact NN.out) (by exact LN.out) (by exact H5.out.size) (by omega) ?_
            intro v4 w7 hown4 hg4
            obtain ⟨na, nc, rfl⟩ := owns_len hown4
            have HG : Hid ((w6.alloc (.cells #[.int .i64 v] 3)).grownBy w7 o1.n.v.ownBlock) := by rw [Hid, Txt.v, HO1.out.1, HO1.out.2.1, HO1.out.2.2]; exact hg4
            have HL4 : (o1.n.l ++ [v]).length = n1 + 1 := by rw [List.length_append, ← H5.out.nn, HO1.out.2.1]; rfl
            obtain ⟨g1, g2⟩ := BdAt.push H5.out HG.out na nc (o1.n.l ++ [v]) (n1 + 1) HL4 hown4
            have H6 := hid g1
            have O6 := hid g2
            clear hown4 hg4 g1 g2 HG H5 LN NN HL4
            refine hK.out _ _ ((O6.out.cell 0).trans (by rw [o1.at0, HK1.out])) (fun hHeld => ?_)
            clear hK K
            try simp only [List.getElem_toArray, List.getElem_cons_zero, List.getElem_cons_succ, Act.put, List.setIfInBounds_toArray, List.set_cons_zero, List.set_cons_succ]
            have f1 := O6.out.frozen 1
            have cn := (O6.out.cell 1).trans o1.at1
            refine wpAnyH_take (i := 10) (oi := _) (v := ?vd10) rfl (by kernel_rfl) (by kernel_rfl) (by kernel_rfl) (fun _ _ _ h => h) (Or.inl ⟨by rfl, ?hyd10⟩) (by assumption) ?restd10
            case hyd10 => (intro w hSw; (try dsimp only at hSw); go_split_ands; go_simp; try (with_reducible rfl))
            try simp only [List.getElem_toArray, List.getElem_cons_zero, List.getElem_cons_succ, Act.put, List.setIfInBounds_toArray, List.set_cons_zero, List.set_cons_succ]
            refine wpAnyH_ready (rs := [11]) (by kernel_rfl) (by simp) ?_
            refine AllReadyH.cons (o := _) rfl (fun K hK => ?_) AllReadyH.nil
            go_simp
            go_wp2_with fail
            refine hK.out _ _ (((H6.out.row.cell 0).trans (Ov.at0 _)).trans (by rw [show (o1.setN ⟨na, n1 + 1, nc, o1.n.l ++ [v]⟩).k = o1.k from rfl, HK1.out])) (fun hHeld => ?_)
            clear hK K
            try simp only [List.getElem_toArray, List.getElem_cons_zero, List.getElem_cons_succ, Act.put, List.setIfInBounds_toArray, List.set_cons_zero, List.set_cons_succ]
            refine wpAnyH_done (by kernel_rfl) ?_ _
            go_wp2_with fail
            go_roundw
            case rel =>
              refine ⟨i + 1, by omega, by go_num, ?_⟩
              rw [Hid, HNx.out, HSl.out, rstq, if_neg (by rw [HS16.out]; simp), HLl.out]
              refine ⟨a3, cap3, o1.setN ⟨na, n1 + 1, nc, o1.n.l ++ [v]⟩, ?_, ?_⟩
              · have := H6.out
                rw [Nat.sub_sub, List.drop_drop] at this
                exact this
              · rw [HVV.out]; simp only [Ov.p, Ov.setN, HP1.out.1, HP1.out.2.1, HP1.out.2.2.1, HP1.out.2.2.2]
            case measure => simp [intOf]; omega

          · go_simp
            refine (refTake_size _ d a2 (len - s.1) cap2 (l.drop s.1) s.1 s.2.1 (szc c) H3.out.ref HSZ.out).mono ?_
            rintro e w6 ⟨rfl, hr6⟩
            obtain ⟨a3, cap3, hb3⟩ := H3.out.read hr6
            have H4 := hid hb3
            clear hr6 hb3 H3
            generalize hvv : numOf ((l.drop s.1).take (rdN (szc c) 1 (len - s.1) s.2.1)) = v at *
            have HVV := hid hvv
            clear hvv
            go_wp2_with fail
            refine hK.out _ _ ((H4.out.row.cell 0).trans (by rw [o1.at0, HK1.out])) (fun hHeld => ?_)
            clear hK K
            try simp only [List.getElem_toArray, List.getElem_cons_zero, List.getElem_cons_succ, Act.put, List.setIfInBounds_toArray, List.set_cons_zero, List.set_cons_succ]
            refine wpAnyH_ready (rs := [1, 8]) (by kernel_rfl) (by simp) ?_
            refine AllReadyH.cons (o := _) rfl (fun K hK => ?_) (AllReadyH.cons (o := _) rfl (fun K hK => ?_) AllReadyH.nil)
            · have cn : w6.cell? ⟨g, 1, none⟩ = some (.slice na1 n1 nc1) := (H4.out.row.cell 1).trans (by rw [o1.at1, HO1.out.1, HO1.out.2.1, HO1.out.2.2])
              go_simp
              go_wp2_with fail
              refine hK.out _ _ ((H4.out.row.cell 0).trans (by rw [o1.at0, HK1.out])) (fun hHeld => ?_)
              clear hK K
              try simp only [List.getElem_toArray, List.getElem_cons_zero, List.getElem_cons_succ, Act.put, List.setIfInBounds_toArray, List.set_cons_zero, List.set_cons_succ]
              clear cn
              refine wpAnyH_ready (rs := [8]) (by kernel_rfl) (by simp) ?_
              refine AllReadyH.cons (o := _) rfl (fun K hK => ?_) AllReadyH.nil
              go_simp
              have BA := hid (balloc (Below.refl w6.heap.size w6) (.cells #[.int .i64 v] 3))
              have H5 := hid (H4.out.on BA.out)
              have LN := hid (lies_new .i64 w6 #[.int .i64 v] 3 [v] rfl (by simp))
              have NN : Hid ((w6.alloc (.cells #[.int .i64 v] 3)).ownsRow w.heap.size 3 1 (.slice na1 n1 nc1) n1 (i64s o1.n.l)) := by
                have := H5.out.n
                rw [← H5.out.nn, Txt.v, HO1.out.1, HO1.out.2.1, HO1.out.2.2] at this
                exact this
              go_wp2_with fail
              refine hK.out _ _ ((H5.out.row.cell 0).trans (by rw [o1.at0, HK1.out])) (fun hHeld => ?_)
              clear hK K
              try simp only [List.getElem_toArray, List.getElem_cons_zero, List.getElem_cons_succ, Act.put, List.setIfInBounds_toArray, List.set_cons_zero, List.set_cons_succ]
              refine wpAnyH_ready (rs := [9]) (by kernel_rfl) (by simp) ?_
              refine AllReadyH.cons (o := _) rfl (fun K hK => ?_) AllReadyH.nil
              refine step_appI (base := w.heap.size) (n := n1) (m := 1) (xs := o1.n.l) (l := [v]) rfl _ _ rfl rfl rfl (by exact NN.out) (by exact LN.out) (by exact H5.out.size) (by omega) ?_
              intro v4 w7 hown4 hg4
              obtain ⟨na, nc, rfl⟩ := owns_len hown4
              have HG : Hid ((w6.alloc (.cells #[.int .i64 v] 3)).grownBy w7 o1.n.v.ownBlock) := by rw [Hid, Txt.v, HO1.out.1, HO1.out.2.1, HO1.out.2.2]; exact hg4
              have HL4 : (o1.n.l ++ [v]).length = n1 + 1 := by rw [List.length_append, ← H5.out.nn, HO1.out.2.1]; rfl
              obtain ⟨g1, g2⟩ := BdAt.push H5.out HG.out na nc (o1.n.l ++ [v]) (n1 + 1) HL4 hown4
              have H6 := hid g1
              have O6 := hid g2
              clear hown4 hg4 g1 g2 HG H5 LN NN HL4
              refine hK.out _ _ ((O6.out.cell 0).trans (by rw [o1.at0, HK1.out])) (fun hHeld => ?_)
              clear hK K
              try simp only [List.getElem_toArray, List.getElem_cons_zero, List.getElem_cons_succ, Act.put, List.setIfInBounds_toArray, List.set_cons_zero, List.set_cons_succ]
              have f1 := O6.out.frozen 1
              have cn := (O6.out.cell 1).trans o1.at1
              refine wpAnyH_take (i := 10) (oi := _) (v := ?ve10) rfl (by kernel_rfl) (by kernel_rfl) (by kernel_rfl) (fun _ _ _ h => h) (Or.inl ⟨by rfl, ?hye10⟩) (by assumption) ?reste10
              case hye10 => (intro w hSw; (try dsimp only at hSw); go_split_ands; go_simp; try (with_reducible rfl))
              try simp only [List.getElem_toArray, List.getElem_cons_zero, List.getElem_cons_succ, Act.put, List.setIfInBounds_toArray, List.set_cons_zero, List.set_cons_succ]
              refine wpAnyH_ready (rs := [11]) (by kernel_rfl) (by simp) ?_
              refine AllReadyH.cons (o := _) rfl (fun K hK => ?_) AllReadyH.nil
              go_simp
              go_wp2_with fail
              refine hK.out _ _ (((H6.out.row.cell 0).trans (Ov.at0 _)).trans (by rw [show (o1.setN ⟨na, n1 + 1, nc, o1.n.l ++ [v]⟩).k = o1.k from rfl, HK1.out])) (fun hHeld => ?_)
              clear hK K
              try simp only [List.getElem_toArray, List.getElem_cons_zero, List.getElem_cons_succ, Act.put, List.setIfInBounds_toArray, List.set_cons_zero, List.set_cons_succ]
              refine wpAnyH_done (by kernel_rfl) ?_ _
              go_wp2_with fail
              go_roundw
              case rel =>
                refine ⟨i + 1, by omega, by go_num, ?_⟩
                rw [Hid, HNx.out, HSl.out, rstq, if_neg (by rw [HS16.out]; simp), HLl.out]
                refine ⟨a3, cap3, o1.setN ⟨na, n1 + 1, nc, o1.n.l ++ [v]⟩, ?_, ?_⟩
                · have := H6.out
                  rw [Nat.sub_sub, List.drop_drop] at this
                  exact this
                · rw [HVV.out]; simp only [Ov.p, Ov.setN, HP1.out.1, HP1.out.2.1, HP1.out.2.2.1, HP1.out.2.2.2]
              case measure => simp [intOf]; omega

            · go_simp
              have BA := hid (balloc (Below.refl w6.heap.size w6) (.cells #[.int .i64 v] 3))
              have H5 := hid (H4.out.on BA.out)
              have LN := hid (lies_new .i64 w6 #[.int .i64 v] 3 [v] rfl (by simp))
              have NN : Hid ((w6.alloc (.cells #[.int .i64 v] 3)).ownsRow w.heap.size 3 1 (.slice na1 n1 nc1) n1 (i64s o1.n.l)) := by
                have := H5.out.n
                rw [← H5.out.nn, Txt.v, HO1.out.1, HO1.out.2.1, HO1.out.2.2] at this
                exact this
              go_wp2_with fail
              refine hK.out _ _ ((H5.out.row.cell 0).trans (by rw [o1.at0, HK1.out])) (fun hHeld => ?_)
              clear hK K
              try simp only [List.getElem_toArray, List.getElem_cons_zero, List.getElem_cons_succ, Act.put, List.setIfInBounds_toArray, List.set_cons_zero, List.set_cons_succ]
              refine wpAnyH_ready (rs := [1]) (by kernel_rfl) (by simp) ?_
              refine AllReadyH.cons (o := _) rfl (fun K hK => ?_) AllReadyH.nil
              have cn : (w6.alloc (.cells #[.int .i64 v] 3)).cell? ⟨g, 1, none⟩ = some (.slice na1 n1 nc1) := (H5.out.row.cell 1).trans (by rw [o1.at1, HO1.out.1, HO1.out.2.1, HO1.out.2.2])
              go_simp
              go_wp2_with fail
              refine hK.out _ _ ((H5.out.row.cell 0).trans (by rw [o1.at0, HK1.out])) (fun hHeld => ?_)
              clear hK K
              try simp only [List.getElem_toArray, List.getElem_cons_zero, List.getElem_cons_succ, Act.put, List.setIfInBounds_toArray, List.set_cons_zero, List.set_cons_succ]
              clear cn
              refine wpAnyH_ready (rs := [9]) (by kernel_rfl) (by simp) ?_
              refine AllReadyH.cons (o := _) rfl (fun K hK => ?_) AllReadyH.nil
              refine step_appI (base := w.heap.size) (n := n1) (m := 1) (xs := o1.n.l) (l := [v]) rfl _ _ rfl rfl rfl (by exact NN.out) (by exact LN.out) (by exact H5.out.size) (by omega) ?_
              intro v4 w7 hown4 hg4
              obtain ⟨na, nc, rfl⟩ := owns_len hown4
              have HG : Hid ((w6.alloc (.cells #[.int .i64 v] 3)).grownBy w7 o1.n.v.ownBlock) := by rw [Hid, Txt.v, HO1.out.1, HO1.out.2.1, HO1.out.2.2]; exact hg4
              have HL4 : (o1.n.l ++ [v]).length = n1 + 1 := by rw [List.length_append, ← H5.out.nn, HO1.out.2.1]; rfl
              obtain ⟨g1, g2⟩ := BdAt.push H5.out HG.out na nc (o1.n.l ++ [v]) (n1 + 1) HL4 hown4
              have H6 := hid g1
              have O6 := hid g2
              clear hown4 hg4 g1 g2 HG H5 LN NN HL4
              refine hK.out _ _ ((O6.out.cell 0).trans (by rw [o1.at0, HK1.out])) (fun hHeld => ?_)
              clear hK K
              try simp only [List.getElem_toArray, List.getElem_cons_zero, List.getElem_cons_succ, Act.put, List.setIfInBounds_toArray, List.set_cons_zero, List.set_cons_succ]
              have f1 := O6.out.frozen 1
              have cn := (O6.out.cell 1).trans o1.at1
              refine wpAnyH_take (i := 10) (oi := _) (v := ?vf10) rfl (by kernel_rfl) (by kernel_rfl) (by kernel_rfl) (fun _ _ _ h => h) (Or.inl ⟨by rfl, ?hyf10⟩) (by assumption) ?restf10
              case hyf10 => (intro w hSw; (try dsimp only at hSw); go_split_ands; go_simp; try (with_reducible rfl))
              try simp only [List.getElem_toArray, List.getElem_cons_zero, List.getElem_cons_succ, Act.put, List.setIfInBounds_toArray, List.set_cons_zero, List.set_cons_succ]
              refine wpAnyH_ready (rs := [11]) (by kernel_rfl) (by simp) ?_
              refine AllReadyH.cons (o := _) rfl (fun K hK => ?_) AllReadyH.nil
              go_simp
              go_wp2_with fail
              refine hK.out _ _ (((H6.out.row.cell 0).trans (Ov.at0 _)).trans (by rw [show (o1.setN ⟨na, n1 + 1, nc, o1.n.l ++ [v]⟩).k = o1.k from rfl, HK1.out])) (fun hHeld => ?_)
              clear hK K
              try simp only [List.getElem_toArray, List.getElem_cons_zero, List.getElem_cons_succ, Act.put, List.setIfInBounds_toArray, List.set_cons_zero, List.set_cons_succ]
              refine wpAnyH_done (by kernel_rfl) ?_ _
              go_wp2_with fail
              go_roundw
              case rel =>
                refine ⟨i + 1, by omega, by go_num, ?_⟩
                rw [Hid, HNx.out, HSl.out, rstq, if_neg (by rw [HS16.out]; simp), HLl.out]
                refine ⟨a3, cap3, o1.setN ⟨na, n1 + 1, nc, o1.n.l ++ [v]⟩, ?_, ?_⟩
                · have := H6.out
                  rw [Nat.sub_sub, List.drop_drop] at this
                  exact this
                · rw [HVV.out]; simp only [Ov.p, Ov.setN, HP1.out.1, HP1.out.2.1, HP1.out.2.2.1, HP1.out.2.2.2]
              case measure => simp [intOf]; omega


    · obtain rfl : i = (chs k).size := by omega
      obtain ⟨a2, cap2, o1, hb2, hp1⟩ := hS.out
      have e0 : (cl k).take (chs k).size = cl k := List.take_of_length_le (by rw [HCL.out]; exact Nat.le_refl _)
      rw [e0] at hb2 hp1
      have H2 := hid hb2
      have HP1 := hid hp1
      have HA := hid hb2.ad
      have HF2 : Hid ((closeV (len - (rsts l (cl k)).1) (rsts l (cl k)).2.1 = 0 ↔ filE k l 0 = 0) ∧ (filE k l 0 = 0 → filP k l 0 = ⟨k, (rsts l (cl k)).2.2.1, (rsts l (cl k)).2.2.2, []⟩)) := by
        have := HFil.out
        rw [HLl.out] at this
        exact this
      clear hb2 hp1 hS
      generalize rsts l (cl k) = s at *
      go_wp2_with fail
      refine wp_region_held_drew (S := fun w' => Hid (Row w' g 57 o1.cs)) (by kernel_rfl) ?_ (fun hHeld => ?_)
      · exact H2.out.row
      have H3 : Hid (BdAt w wr.drew r d g a2 (len - s.1) cap2 (l.drop s.1) s.1 s.2.1 o1) := H2.out.drewN 1
      clear H2
      generalize wr.drew = wd at *
      refine wpAnyH_take (i := 0) (oi := _) (v := .agg o1.cs) rfl (by kernel_rfl) (by kernel_rfl) (by kernel_rfl) (fun _ _ _ h => h) (yldOo o38 (by rfl) _ rfl g 0 rfl o1 HA.out (fun w h => (h).out.part)) (by assumption) ?_
      try simp only [List.getElem_toArray, List.getElem_cons_zero, List.getElem_cons_succ, Act.put, List.setIfInBounds_toArray, List.set_cons_zero, List.set_cons_succ]
      refine wpAnyH_take (i := 1) (oi := _) (v := ?vg1) rfl (by kernel_rfl) (by kernel_rfl) (by kernel_rfl) (fun _ _ _ h => h) (Or.inl ⟨by rfl, ?hyg1⟩) (by assumption) ?restg1
      case hyg1 => (intro w hSw; (try dsimp only at hSw); go_split_ands; go_simp; try (with_reducible rfl))
      try simp only [List.getElem_toArray, List.getElem_cons_zero, List.getElem_cons_succ, Act.put, List.setIfInBounds_toArray, List.set_cons_zero, List.set_cons_succ]
      refine wpAnyH_ready (rs := [2]) (by kernel_rfl) (by simp) ?_
      refine AllReadyH.cons (o := _) rfl (fun K hK => ?_) AllReadyH.nil
      go_simp
      refine (refClose_any _ d a2 (len - s.1) cap2 (l.drop s.1) s.1 s.2.1 H3.out.ref).mono ?_
      rintro e w5 ⟨rfl, rfl⟩
      generalize hcv : closeV (len - s.1) s.2.1 = cv at *
      have HCV := hid hcv
      clear hcv
      go_wp2_with fail
      refine hK.out _ _ H3.out.row (fun hHeld => ?_)
      clear hK K
      try simp only [List.getElem_toArray, List.getElem_cons_zero, List.getElem_cons_succ, Act.put, List.setIfInBounds_toArray, List.set_cons_zero, List.set_cons_succ]
      refine wpAnyH_take (i := 3) (oi := _) (v := ?vg3) rfl (by kernel_rfl) (by kernel_rfl) (by kernel_rfl) (fun _ _ _ h => h) (Or.inl ⟨by rfl, ?hyg3⟩) (by assumption) ?restg3
      case hyg3 => (intro w hSw; (try dsimp only at hSw); go_split_ands; go_simp; try (with_reducible rfl))
      try simp only [List.getElem_toArray, List.getElem_cons_zero, List.getElem_cons_succ, Act.put, List.setIfInBounds_toArray, List.set_cons_zero, List.set_cons_succ]
      refine wpAnyH_ready (rs := [4]) (by kernel_rfl) (by simp) ?_
      refine AllReadyH.cons (o := _) rfl (fun K hK => ?_) AllReadyH.nil
      refine step_st rfl 57 _ _ rfl r o1.cs rfl rfl 57 Ov.zero.cs H3.out.res (by rw [Ov.size HA.out]; exact o38.info) (by rw [Ov.size HA.out]; exact Ov.size adr_zeros) o1.one ?_
      have R6 := hid (H3.out.res.setRow o1.cs)
      have G6 := hid (H3.out.row.rowOther r o1.cs (fun e => H3.out.hgr e.symm))
      have OK6 : Hid (Mine w (w5.setRow r o1.cs) o1) :=
        ⟨H3.out.n.kept (grownBy_setRow w5 r o1.cs) (.inr (own_row H3.out.n H3.out.res (by decide))), H3.out.nn, H3.out.ad, H3.out.t, H3.out.oct⟩
      have B6 := hid (bgrown H3.out.below (grownBy_setRow w5 r o1.cs) H3.out.hr)
      refine hK.out _ _ G6.out (fun hHeld => ?_)
      clear hK K
      try simp only [List.getElem_toArray, List.getElem_cons_zero, List.getElem_cons_succ, Act.put, List.setIfInBounds_toArray, List.set_cons_zero, List.set_cons_succ]
      refine wpAnyH_take (i := 5) (oi := _) (v := ?vg5) rfl (by kernel_rfl) (by kernel_rfl) (by kernel_rfl) (fun _ _ _ h => h) (Or.inl ⟨by rfl, ?hyg5⟩) (by assumption) ?restg5
      case hyg5 => (intro w hSw; (try dsimp only at hSw); go_split_ands; go_simp; try (with_reducible rfl))
      try simp only [List.getElem_toArray, List.getElem_cons_zero, List.getElem_cons_succ, Act.put, List.setIfInBounds_toArray, List.set_cons_zero, List.set_cons_succ]
      refine wpAnyH_done (by kernel_rfl) ?_ _
      go_wp2_with fail
      refine bodyPost_ret (resOoe o38 rfl _ _ r 57 o1 HA.out _ rfl rfl R6.out) rfl ?_

      refine ⟨o1, cv == 0, rfl, OK6.out, (fun h => by have h1 := OK6.out.t.1; rw [show o1.t.l = [] from congrArg Po.t HP1.out] at h1; simp at h1; omega), by rw [← HR.out] at *; exact B6.out, ?_, ?_⟩
      · rw [← HF2.out.1]; simp
      · intro e
        have e2 : filE k l 0 = 0 := HF2.out.1.1 (by simpa using e)
        rw [HP1.out, HF2.out.2 e2]
end Go.Proofs.YtbfjkhafdkhhmaaDoor

namespace Go.Proofs.YtbfjkhafdkhhmaaDoor
open Go.ChangeShapes Go.WideShapes Go.ChangeAt Go.RowKit Go.Deep
set_option linter.unusedVariables false
set_option linter.unusedSimpArgs false

theorem body_any (k : Nat) (hk : k < 10) (h0 : k ≠ 0) (a : Option Addr) (len cap : Nat) (l : List Int) (w : World) (h : Lies .u8 w a len cap l) (ho : Oct l) (hl : len ≤ 300) :
    Calls Tryd.prog 70 #[.int .i64 k, .slice a len cap] w (BodyOk w a k l) := by
  by_cases h1 : k = 1
  · exact body_pads k hk a len cap l w h ho hl h1
  · by_cases h2 : k = 2
    · exact body_text k hk a len cap l w h ho hl h2
    · exact body_parts k hk a len cap l w h ho hl (by omega)
end Go.Proofs.YtbfjkhafdkhhmaaDoor

namespace Go.Proofs.YtbfjkhafdkhhmaaDoor
open Go.ChangeShapes Go.WideShapes Go.ChangeAt Go.RowKit Go.Deep
set_option linter.unusedVariables false
set_option linter.unusedSimpArgs false

theorem el26 : Tryd.prog.underlying 33 = some (.slice (Tryd.prog.elem 33)) := by kernel_rfl
theorem sz26 (w : World) : (sizeOf (Tryd.prog.elem 33)).run Tryd.prog w = .ok 1 w := by kernel_rfl
theorem sliced_val (ad : Option Addr) (l h m : Nat) : ∃ a', sliced ad l h m 1 = .slice a' (h - l) (m - l) ∧ (¬ m = l → a' = ad.map (·.add l)) ∧ (m = l → a' = ad) := by
  unfold sliced
  refine ⟨if m = l then ad else ad.map (·.add (l * 1)), rfl, fun h => by rw [if_neg h, Nat.mul_one], fun h => by rw [if_pos h]⟩
/-- 'b[p:]'. -/
theorem wp_cutL {ops : Array Oper} {rest : List Oper} {o : Oper} {a : Act} {w : World} {Q : Exit → Act → World → Prop} (hgd : o.guard = none) (x y : Operand) (ho : o.op = .slice 33 x (some y) none none)
    (ad : Option Addr) (len cap p : Nat) (zp : Int) (hx : a.eval x = .slice ad len cap) (hy : a.eval y = .int .i64 zp) (hzp : zp = p) (hp : p ≤ len)
    (h : ∀ a', (¬ cap = p → a' = ad.map (·.add p)) → (cap = p → a' = ad) → wpList Tryd.prog ops Q rest (a.put o.dst (.slice a' (len - p) (cap - p))) w) : wpList Tryd.prog ops Q (o :: rest) a w :=
  wpList_plain hgd fun K hK => by
    subst hzp
    unfold Oper.wp execOp
    obtain ⟨a', e, h1, h2⟩ := sliced_val ad p len cap
    simp only [ho, hx, hy, Option.map_some, Option.map_none, run_sliceAt_slice _ _ _ _ _ _ el26, run_slice_l _ 33 ad len cap el26 .i64 p (by omega) (by omega), Result.andThen, sz26, Sem.run_bind, Sem.run_pure, Int.toNat_natCast, e]
    exact hK _ _ (h a' h1 h2)
/-- 'b[p:q]'. -/
theorem wp_cutM {ops : Array Oper} {rest : List Oper} {o : Oper} {a : Act} {w : World} {Q : Exit → Act → World → Prop} (hgd : o.guard = none) (x y z : Operand) (ho : o.op = .slice 33 x (some y) (some z) none)
    (ad : Option Addr) (len cap p q : Nat) (zp zq : Int) (hx : a.eval x = .slice ad len cap) (hy : a.eval y = .int .i64 zp) (hz : a.eval z = .int .i64 zq) (hzp : zp = p) (hzq : zq = q) (hp : p ≤ q) (hq : q ≤ cap)
    (h : ∀ a', (¬ cap = p → a' = ad.map (·.add p)) → (cap = p → a' = ad) → wpList Tryd.prog ops Q rest (a.put o.dst (.slice a' (q - p) (cap - p))) w) : wpList Tryd.prog ops Q (o :: rest) a w :=
  wpList_plain hgd fun K hK => by
    subst hzp hzq
    unfold Oper.wp execOp
    obtain ⟨a', e, h1, h2⟩ := sliced_val ad p q cap
    simp only [ho, hx, hy, hz, Option.map_some, Option.map_none, run_sliceAt_slice _ _ _ _ _ _ el26, run_slice_lh _ 33 ad len cap el26 .i64 .i64 p q (by omega) (by omega) (by omega), Result.andThen, sz26, Sem.run_bind, Sem.run_pure, Int.toNat_natCast, e]
    exact hK _ _ (h a' h1 h2)
end Go.Proofs.YtbfjkhafdkhhmaaDoor
