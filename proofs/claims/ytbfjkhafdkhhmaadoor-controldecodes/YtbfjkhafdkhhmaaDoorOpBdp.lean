/- The document's body: pads, a metric. -/
import Derived.Test.YtbfjkhafdkhhmaaDoorM26
namespace Go.Proofs.YtbfjkhafdkhhmaaDoor
open Go.ChangeShapes Go.WideShapes Go.ChangeAt Go.RowKit Go.Deep
set_option linter.unusedVariables false
set_option linter.unusedSimpArgs false

theorem anyN_snoc (l : List Int) (q : Nat) (h : q < l.length) : anyN (l.take (q + 1)) = (anyN (l.take q) || (l.getD q 0 != 0)) := by
  unfold anyN
  rw [List.take_succ_eq_append_getElem h, List.any_append]; simp [h]
theorem anyN_hit (l : List Int) (q : Nat) (h : q < l.length) (hx : l.getD q 0 ≠ 0) : anyN l = true := by
  unfold anyN
  rw [List.any_eq_true]
  refine ⟨l.getD q 0, ?_, by simpa using hx⟩
  rw [List.getD_eq_getElem?_getD, List.getElem?_eq_getElem h]
  exact List.getElem_mem h
theorem chs1 : (chs 1).size = 1 ∧ (cl 1).getD 0 0 = 120 ∧ zer 1 = true := by decide
theorem chs2 : (chs 2).size = 1 ∧ (cl 2).getD 0 0 = 116 ∧ zer 2 = false ∧ txb 2 = true := by decide
/-- Where the body stands ahead of a letter, and behind it. -/
def PadS (w wr : World) (r d g : Nat) (a : Option Addr) (len cap : Nat) (l : List Int) (X : Ov) (P : Po) (ok : Ov → Prop) (i : Nat) : Prop :=
  if i = 0 then BdAt w wr r d g a len cap l 0 0 X else ∃ a2 cap2 o, BdAt w wr r d g a2 0 cap2 [] len 0 o ∧ o.p = P ∧ ok o
set_option maxRecDepth 1000000 in
set_option maxHeartbeats 3200000 in
theorem body_pads (k : Nat) (hk : k < 10) (a : Option Addr) (len cap : Nat) (l : List Int) (w : World) (h : Lies .u8 w a len cap l) (ho : Oct l) (hl : len ≤ 300) (h3 : k = 1) :
    Calls Tryd.prog 70 #[.int .i64 k, .slice a len cap] w (BodyOk w a k l) := by
  have HK3 := hid h3
  clear h3
  have hz := zov
  have B0 := hid (balloc (Below.refl w.heap.size w) (.cells Ov.zero.cs 57))
  have Z0 := hid (Row.new w 57 Ov.zero.cs)
  have HL := hid h
  have HO := hid ho
  have HLl := hid h.1
  have HLt : Hid (lets k = chs k) := by
    have h1 : kndB (k : Int) = true := by simp [kndB]; omega
    rw [Hid, lets, h1, if_pos rfl]; rfl
  have hlc := h.2.1
  have hcm := h.2.2.1
  unfold maxLen at hcm
  clear h ho
  go_enter Tryd.func70, Tryd.ntmps70
  go_upto_region 1 with fail
  generalize hw1 : w.alloc (.cells Ov.zero.cs 57) = w1 at *
  have HS1 : Hid (w1.heap.size = w.heap.size + 1) := by rw [Hid, ← hw1, World.size_alloc]
  have HXp : Hid (Ov.p ⟨k, Txt.none, zeros, Txt.none⟩ = ⟨k, [], zeros, []⟩) := rfl
  have HXa : Hid (Adr (⟨k, Txt.none, zeros, Txt.none⟩ : Ov).ad) := adr_zeros
  have HXc : Hid ((⟨k, Txt.none, zeros, Txt.none⟩ : Ov).n = Txt.none ∧ (⟨k, Txt.none, zeros, Txt.none⟩ : Ov).t = Txt.none) := ⟨rfl, rfl⟩
  have O2 := hid (layOo_new w1 57 ⟨k, Txt.none, zeros, Txt.none⟩)
  have B2 := hid (layOo_below w1 57 ⟨k, Txt.none, zeros, Txt.none⟩)
  clear hw1
  refine wp_region_lit ?_
  go_step
  go_simp
  rename_i hKK
  refine hKK _ _ ?_
  refine bdO1 o38 _ rfl rfl (k : Int) rfl ?_
  simp only [Act.put, List.setIfInBounds_toArray, List.set_cons_zero, List.set_cons_succ]
  clear hKK
  generalize hX : (⟨k, Txt.none, zeros, Txt.none⟩ : Ov) = X at *
  clear hX
  go_wp2_with ((refine stOo o38 _ _ rfl rfl w1.heap.size X HXa.out rfl rfl 57 Ov.zero adr_zeros (Row.new w1 57 _) ?_))
  have Z2 := hid (Z0.out.below B2.out)
  have B3 := hid (bthen B0.out B2.out)
  generalize (w1.alloc (.cells Ov.zero.cs 57)).setRow w1.heap.size X.cs = w2 at *
  refine (parts_any _ _).mono ?_
  rintro e w3 ⟨rfl, hb3⟩
  rw [HLt.out]
  have O3 := hid (O2.out.below hb3)
  have Z3 := hid (Z2.out.below hb3)
  have B4 := hid (bthen B3.out hb3)
  have hgs : w1.heap.size < w3.heap.size := O3.out.lt
  clear hb3 Z2 O2 B2 B3 B0 Z0
  go_wp2_with fail
  have D4 : Hid (BdAt w (w3.alloc (.cells #[.slice a len cap, .int .i64 0, .int .i64 0] 88)) w.heap.size w3.heap.size w1.heap.size a len cap l 0 0 X) := by
    have ba := balloc (Below.refl w3.heap.size w3) (.cells #[.slice a len cap, .int .i64 0, .int .i64 0] 88)
    have hs3 := B4.out.size
    refine ⟨⟨Go.heap_alloc_new w3 _, (HL.out.below B4.out).below ba, HO.out, by omega, by omega⟩, O3.out.below ba, Z3.out.below ba, ?_, ?_, HXa.out, ?_, ?_, bthen B4.out ba, hs3, ?_, Nat.le_refl _, ?_, fun x e hx => ?_⟩
    · rw [HXc.out.1]; exact World.ownsRow_nil _ _ _ _
    · rw [HXc.out.1]; rfl
    · rw [HXc.out.2]; exact Lies.nil _ _
    · rw [HXc.out.2]; intro x hx; cases hx
    · have := HS1.out; omega
    · have := HS1.out; omega
    · obtain ⟨b, off, e2, hc⟩ := HL.out.2.2.2.2 0 hx
      rw [e] at e2
      have : x = ⟨b, off, none⟩ := Option.some.inj e2
      rw [this]
      exact World.block_lt_of_cell? w ⟨b, off + 0, none⟩ hc
  generalize (w3.alloc (.cells #[.slice a len cap, .int .i64 0, .int .i64 0] 88)) = ws at *
  generalize w3.heap.size = d at *
  generalize w1.heap.size = g at *
  obtain ⟨r, hr⟩ : ∃ r, w.heap.size = r := ⟨_, rfl⟩
  have HR := hid hr
  rw [hr] at D4 ⊢
  clear O3 Z3 B4 hr HS1 hgs
  have h3 := HK3.out
  have HSz : Hid ((chs k).size = 1) := by rw [h3]; exact chs1.1
  have HCc : Hid ((cl k).getD 0 0 = 120) := by rw [h3]; exact chs1.2.1
  have HCh := hid (fun i h => char_at k i h)
  have hcs := chs_small k hk
  have HZk : Hid (zer k = true) := by rw [h3]; exact chs1.2.2
  clear h3
  go_loopw [9] (fun iv wr => ∃ i : Nat, i ≤ (chs k).size ∧ iv = .int .i64 i ∧ Hid (PadS w wr r d g a len cap l X ⟨(k : Int), [(len : Int)], zeros, []⟩ (fun _ => anyN l = false) i)) (fun i _ => (chs k).size - (intOf i).toNat)
  case atStart => exact ⟨0, Nat.zero_le _, rfl, D4.out⟩
  case round =>
    obtain ⟨i, hi, rfl, hS⟩ := hrel
    by_cases hlt : i < (chs k).size
    · have hlt3 : (i : Int) < ((chs k).size : Int) := by omega
      have hc := HCh.out i hlt
      have HI0 : Hid (i = 0) := by have := HSz.out; rw [Hid]; omega
      have HCv : Hid ((cl k).getD i 0 = 120) := by rw [Hid, HI0.out]; exact HCc.out
      have H2 : Hid (BdAt w wr r d g a len cap l 0 0 X) := by have := hS.out; rw [PadS, if_pos HI0.out] at this; exact this
      generalize (cl k).getD i 0 = c at *
      have r1 : (c == 97) = false := by rw [HCv.out]; rfl
      have r2 : (c == 116) = false := by rw [HCv.out]; rfl
      have r3 : (c == 120) = true := by rw [HCv.out]; rfl
      clear hS
      go_wp2_with fail
      go_loop [12] (fun kv => ∃ q : Nat, q ≤ len ∧ kv = .int .i64 q ∧ Hid (anyN (l.take q) = false)) (fun kv => len - (intOf kv).toNat)
      case atStart => exact ⟨0, Nat.zero_le _, rfl, rfl⟩
      case round =>
        obtain ⟨q, hq, rfl, HAny⟩ := hrel
        by_cases hqm : q < len
        · have hqm' : (q : Int) < (len : Int) := by omega
          obtain ⟨b, off, rfl, hsc⟩ := (HL.out.below H2.out.below).2.2.2.2 q hqm
          have HSn := hid (anyN_snoc l q (by rw [HLl.out]; exact hqm))
          have HHit := hid (anyN_hit l q (by rw [HLl.out]; exact hqm))
          generalize l.getD q 0 = x at *
          by_cases hx0 : x = 0
          · have hx1 : (x != 0) = false := by simp [hx0]
            clear hx0
            go_wp2_with fail
            go_round
            case rel => exact ⟨q + 1, by omega, by go_num, by rw [Hid, HSn.out, HAny.out, hx1]; rfl⟩
            case measure => simp [intOf]; omega
          · have hx1 : (x != 0) = true := by simp [hx0]
            have HBad := hid (HHit.out hx0)
            clear hx0
            have HZ0 : Hid (Adr Ov.zero.ad) := adr_zeros
            go_wp2_with (first | (with_reducible refine wpl_id ?_; refine ldOo o38 _ rfl rfl g 0 rfl X HXa.out H2.out.row.part ?_) | (with_reducible refine wpl_id ?_; refine stOo o38 _ _ rfl rfl r X HXa.out rfl rfl 57 Ov.zero HZ0.out H2.out.res ?_))
            have R6 := hid (H2.out.res.setRow X.cs)
            have B6 := hid (bgrown H2.out.below (grownBy_setRow wr r X.cs) H2.out.hr)
            have OK6 : Hid (Mine w (wr.setRow r X.cs) X) :=
              ⟨H2.out.n.kept (grownBy_setRow wr r X.cs) (.inr (own_row H2.out.n H2.out.res (by decide))), H2.out.nn, H2.out.ad, H2.out.t, H2.out.oct⟩
            refine bodyPost_ret (resOoe o38 rfl _ _ r 57 X HXa.out _ rfl rfl R6.out) rfl ?_
            have hE : filE k l 0 = 3 := by simp [filE, HZk.out, zerE, HBad.out]
            refine ⟨X, false, rfl, OK6.out, (fun h => by rw [show X.t = Txt.none from HXc.out.2] at h; exact absurd h (by decide)), by rw [← HR.out] at *; exact B6.out, ?_, ?_⟩
            · rw [hE]; simp
            · intro e; cases e
        · obtain rfl : q = len := by omega
          have HAll : Hid (anyN l = false) := by have := HAny.out; rw [List.take_of_length_le (by rw [HLl.out]; exact Nat.le_refl _)] at this; exact this
          clear HAny
          have cn : wr.cell? ⟨g, 1, none⟩ = some (.slice none 0 0) := (H2.out.row.cell 1).trans (by rw [Ov.at1, HXc.out.1]; rfl)
          have hsw := H2.out.size
          go_wp2_with (at_builtin; refine wpList_push3 (cs := #[.int .i64 q]) (v := .slice none 0 0) (base := wr.heap.size) (m := 0) (xs := []) rfl _ _ rfl rfl rfl (World.ownsRow_nil _ _ _ _) ?c0 ?c1 ?c2 ?_)
          case c0 => rfl
          intro v5 w5 ho5 hb5
          have H5 := hid (H2.out.on hb5)
          obtain ⟨na, nc, rfl⟩ := owns_len ho5
          have g1 := (BdAt.push (wr := w5) H5.out (by rw [show X.n = Txt.none from HXc.out.1]; exact World.grownBy.refl _ _) na nc [(q : Int)] 1 rfl (own_mono ho5 hsw)).1
          have H6 := hid g1
          have f1 := H5.out.row.frozen 1
          have c5 : w5.cell? ⟨g, 1, none⟩ = some (.slice none 0 0) := (H5.out.row.cell 1).trans (by rw [Ov.at1, HXc.out.1]; rfl)
          clear ho5 hb5 g1 cn hsw
          go_wp2_with fail
          refine (refBytes_src _ d a q cap l 0 0 q H6.out.ref).mono ?_
          obtain ⟨e1, e2⟩ := rd_b q q 0 (by omega)
          rw [Nat.sub_zero] at e1 e2
          rw [e1, e2]
          rintro e w6 ⟨a1, c1, rfl, _, hk1, _⟩
          obtain ⟨a3, cap3, hb3⟩ := H6.out.read hk1
          rw [Nat.sub_self, List.drop_of_length_le (by rw [HLl.out]; exact Nat.le_refl _), Nat.zero_add] at hb3
          have H7 := hid hb3
          clear hk1 hb3 H6 H5 e1 e2
          go_wp2_with fail
          go_roundw
          case rel =>
            refine ⟨i + 1, by omega, by go_num, ?_⟩
            rw [Hid, PadS, if_neg (by omega)]
            have := HXp.out
            simp only [Ov.p, Po.mk.injEq] at this
            exact ⟨a3, cap3, _, H7.out, by simp only [Ov.p, Ov.setN, this], HAll.out⟩
          case measure => simp [intOf]; omega

    · obtain rfl : i = (chs k).size := by omega
      obtain ⟨a2, cap2, o1, hb2, hp1, hok⟩ : ∃ a2 cap2 o, BdAt w wr r d g a2 0 cap2 [] len 0 o ∧ o.p = ⟨(k : Int), [(len : Int)], zeros, []⟩ ∧ (fun _ => anyN l = false) o := by
        have := hS.out
        rw [PadS, if_neg (by rw [HSz.out]; decide)] at this; exact this
      have H2 := hid hb2
      have HP1 := hid hp1
      have HA := hid hb2.ad
      have HOK := hid hok
      clear hb2 hp1 hS hok
      go_wp2_with fail
      refine wp_region_held_drew (S := fun w' => Hid (Row w' g 57 o1.cs)) (by kernel_rfl) ?_ (fun hHeld => ?_)
      · exact H2.out.row
      have H3 : Hid (BdAt w wr.drew r d g a2 0 cap2 [] len 0 o1) := H2.out.drewN 1
      clear H2
      generalize wr.drew = wd at *
      refine wpAnyH_take (i := 0) (oi := _) (v := .agg o1.cs) rfl (by kernel_rfl) (by kernel_rfl) (by kernel_rfl) (fun _ _ _ h => h) (yldOo o38 (by rfl) _ rfl g 0 rfl o1 HA.out (fun w h => (h).out.part)) (by assumption) ?_
      try simp only [List.getElem_toArray, List.getElem_cons_zero, List.getElem_cons_succ, Act.put, List.setIfInBounds_toArray, List.set_cons_zero, List.set_cons_succ]
      refine wpAnyH_take (i := 1) (oi := _) (v := ?vg1) rfl (by kernel_rfl) (by kernel_rfl) (by kernel_rfl) (fun _ _ _ h => h) (Or.inl ⟨by rfl, ?hyg1⟩) (by assumption) ?restg1
      case hyg1 => (intro w hSw; (try dsimp only at hSw); go_split_ands; go_simp; try (with_reducible rfl))
      try simp only [List.getElem_toArray, List.getElem_cons_zero, List.getElem_cons_succ, Act.put, List.setIfInBounds_toArray, List.set_cons_zero, List.set_cons_succ]
      refine wpAnyH_ready (rs := [2]) (by kernel_rfl) (by simp) ?_
      refine AllReadyH.cons (o := _) rfl (fun K hK => ?_) AllReadyH.nil
      go_simp
      refine (refClose_any _ d a2 0 cap2 [] len 0 H3.out.ref).mono ?_
      rintro e w5 ⟨rfl, rfl⟩
      have hcv : closeV 0 0 = 0 := rfl
      rw [hcv]
      clear hcv
      go_wp2_with fail
      refine hK.out _ _ H3.out.row (fun hHeld => ?_)
      clear hK K
      try simp only [List.getElem_toArray, List.getElem_cons_zero, List.getElem_cons_succ, Act.put, List.setIfInBounds_toArray, List.set_cons_zero, List.set_cons_succ]
      refine wpAnyH_take (i := 3) (oi := _) (v := ?vg3) rfl (by kernel_rfl) (by kernel_rfl) (by kernel_rfl) (fun _ _ _ h => h) (Or.inl ⟨by rfl, ?hyg3⟩) (by assumption) ?restg3
      case hyg3 => (intro w hSw; (try dsimp only at hSw); go_split_ands; go_simp; try (with_reducible rfl))
      try simp only [List.getElem_toArray, List.getElem_cons_zero, List.getElem_cons_succ, Act.put, List.setIfInBounds_toArray, List.set_cons_zero, List.set_cons_succ]
      refine wpAnyH_ready (rs := [4]) (by kernel_rfl) (by simp) ?_
      refine AllReadyH.cons (o := _) rfl (fun K hK => ?_) AllReadyH.nil
      refine step_st rfl 57 _ _ rfl r o1.cs rfl rfl 57 Ov.zero.cs H3.out.res (by rw [Ov.size HA.out]; exact o38.info) (by rw [Ov.size HA.out]; exact Ov.size adr_zeros) o1.one ?_
      have R6 := hid (H3.out.res.setRow o1.cs)
      have G6 := hid (H3.out.row.rowOther r o1.cs (fun e => H3.out.hgr e.symm))
      have OK6 : Hid (Mine w (w5.setRow r o1.cs) o1) :=
        ⟨H3.out.n.kept (grownBy_setRow w5 r o1.cs) (.inr (own_row H3.out.n H3.out.res (by decide))), H3.out.nn, H3.out.ad, H3.out.t, H3.out.oct⟩
      have B6 := hid (bgrown H3.out.below (grownBy_setRow w5 r o1.cs) H3.out.hr)
      refine hK.out _ _ G6.out (fun hHeld => ?_)
      clear hK K
      try simp only [List.getElem_toArray, List.getElem_cons_zero, List.getElem_cons_succ, Act.put, List.setIfInBounds_toArray, List.set_cons_zero, List.set_cons_succ]
      refine wpAnyH_take (i := 5) (oi := _) (v := ?vg5) rfl (by kernel_rfl) (by kernel_rfl) (by kernel_rfl) (fun _ _ _ h => h) (Or.inl ⟨by rfl, ?hyg5⟩) (by assumption) ?restg5
      case hyg5 => (intro w hSw; (try dsimp only at hSw); go_split_ands; go_simp; try (with_reducible rfl))
      try simp only [List.getElem_toArray, List.getElem_cons_zero, List.getElem_cons_succ, Act.put, List.setIfInBounds_toArray, List.set_cons_zero, List.set_cons_succ]
      refine wpAnyH_done (by kernel_rfl) ?_ _
      go_wp2_with fail
      refine bodyPost_ret (resOoe o38 rfl _ _ r 57 o1 HA.out _ rfl rfl R6.out) rfl ?_

      have hE : filE k l 0 = 0 := by simp [filE, HZk.out, zerE, HOK.out]
      refine ⟨o1, true, rfl, OK6.out, (fun h => by have h1 := OK6.out.t.1; rw [show o1.t.l = [] from congrArg Po.t HP1.out] at h1; simp at h1; omega), by rw [← HR.out] at *; exact B6.out, ?_, ?_⟩
      · rw [hE]; simp
      · intro _; rw [HP1.out, filP, if_pos rfl, if_pos HZk.out, HLl.out]
set_option maxRecDepth 1000000 in
set_option maxHeartbeats 3200000 in
theorem body_text (k : Nat) (hk : k < 10) (a : Option Addr) (len cap : Nat) (l : List Int) (w : World) (h : Lies .u8 w a len cap l) (ho : Oct l) (hl : len ≤ 300) (h3 : k = 2) :
    Calls Tryd.prog 70 #[.int .i64 k, .slice a len cap] w (BodyOk w a k l) := by
  have HK3 := hid h3
  clear h3
  have hz := zov
  have B0 := hid (balloc (Below.refl w.heap.size w) (.cells Ov.zero.cs 57))
  have Z0 := hid (Row.new w 57 Ov.zero.cs)
  have HL := hid h
  have HO := hid ho
  have HLl := hid h.1
  have HLt : Hid (lets k = chs k) := by
    have h1 : kndB (k : Int) = true := by simp [kndB]; omega
    rw [Hid, lets, h1, if_pos rfl]; rfl
  have hlc := h.2.1
  have hcm := h.2.2.1
  unfold maxLen at hcm
  clear h ho
  go_enter Tryd.func70, Tryd.ntmps70
  go_upto_region 1 with fail
  generalize hw1 : w.alloc (.cells Ov.zero.cs 57) = w1 at *
  have HS1 : Hid (w1.heap.size = w.heap.size + 1) := by rw [Hid, ← hw1, World.size_alloc]
  have HXp : Hid (Ov.p ⟨k, Txt.none, zeros, Txt.none⟩ = ⟨k, [], zeros, []⟩) := rfl
  have HXa : Hid (Adr (⟨k, Txt.none, zeros, Txt.none⟩ : Ov).ad) := adr_zeros
  have HXc : Hid ((⟨k, Txt.none, zeros, Txt.none⟩ : Ov).n = Txt.none ∧ (⟨k, Txt.none, zeros, Txt.none⟩ : Ov).t = Txt.none) := ⟨rfl, rfl⟩
  have O2 := hid (layOo_new w1 57 ⟨k, Txt.none, zeros, Txt.none⟩)
  have B2 := hid (layOo_below w1 57 ⟨k, Txt.none, zeros, Txt.none⟩)
  clear hw1
  refine wp_region_lit ?_
  go_step
  go_simp
  rename_i hKK
  refine hKK _ _ ?_
  refine bdO1 o38 _ rfl rfl (k : Int) rfl ?_
  simp only [Act.put, List.setIfInBounds_toArray, List.set_cons_zero, List.set_cons_succ]
  clear hKK
  generalize hX : (⟨k, Txt.none, zeros, Txt.none⟩ : Ov) = X at *
  clear hX
  go_wp2_with ((refine stOo o38 _ _ rfl rfl w1.heap.size X HXa.out rfl rfl 57 Ov.zero adr_zeros (Row.new w1 57 _) ?_))
  have Z2 := hid (Z0.out.below B2.out)
  have B3 := hid (bthen B0.out B2.out)
  generalize (w1.alloc (.cells Ov.zero.cs 57)).setRow w1.heap.size X.cs = w2 at *
  refine (parts_any _ _).mono ?_
  rintro e w3 ⟨rfl, hb3⟩
  rw [HLt.out]
  have O3 := hid (O2.out.below hb3)
  have Z3 := hid (Z2.out.below hb3)
  have B4 := hid (bthen B3.out hb3)
  have hgs : w1.heap.size < w3.heap.size := O3.out.lt
  clear hb3 Z2 O2 B2 B3 B0 Z0
  go_wp2_with fail
  have D4 : Hid (BdAt w (w3.alloc (.cells #[.slice a len cap, .int .i64 0, .int .i64 0] 88)) w.heap.size w3.heap.size w1.heap.size a len cap l 0 0 X) := by
    have ba := balloc (Below.refl w3.heap.size w3) (.cells #[.slice a len cap, .int .i64 0, .int .i64 0] 88)
    have hs3 := B4.out.size
    refine ⟨⟨Go.heap_alloc_new w3 _, (HL.out.below B4.out).below ba, HO.out, by omega, by omega⟩, O3.out.below ba, Z3.out.below ba, ?_, ?_, HXa.out, ?_, ?_, bthen B4.out ba, hs3, ?_, Nat.le_refl _, ?_, fun x e hx => ?_⟩
    · rw [HXc.out.1]; exact World.ownsRow_nil _ _ _ _
    · rw [HXc.out.1]; rfl
    · rw [HXc.out.2]; exact Lies.nil _ _
    · rw [HXc.out.2]; intro x hx; cases hx
    · have := HS1.out; omega
    · have := HS1.out; omega
    · obtain ⟨b, off, e2, hc⟩ := HL.out.2.2.2.2 0 hx
      rw [e] at e2
      have : x = ⟨b, off, none⟩ := Option.some.inj e2
      rw [this]
      exact World.block_lt_of_cell? w ⟨b, off + 0, none⟩ hc
  generalize (w3.alloc (.cells #[.slice a len cap, .int .i64 0, .int .i64 0] 88)) = ws at *
  generalize w3.heap.size = d at *
  generalize w1.heap.size = g at *
  obtain ⟨r, hr⟩ : ∃ r, w.heap.size = r := ⟨_, rfl⟩
  have HR := hid hr
  rw [hr] at D4 ⊢
  clear O3 Z3 B4 hr HS1 hgs
  have h3 := HK3.out
  have HSz : Hid ((chs k).size = 1) := by rw [h3]; exact chs2.1
  have HCc : Hid ((cl k).getD 0 0 = 116) := by rw [h3]; exact chs2.2.1
  have HCh := hid (fun i h => char_at k i h)
  have hcs := chs_small k hk
  have HZk : Hid (zer k = false ∧ txb k = true) := by rw [h3]; exact chs2.2.2
  clear h3
  go_loopw [9] (fun iv wr => ∃ i : Nat, i ≤ (chs k).size ∧ iv = .int .i64 i ∧ Hid (PadS w wr r d g a len cap l X ⟨(k : Int), [], zeros, l⟩ (fun o => 0 < o.t.n → o.t.a = a) i)) (fun i _ => (chs k).size - (intOf i).toNat)
  case atStart => exact ⟨0, Nat.zero_le _, rfl, D4.out⟩
  case round =>
    obtain ⟨i, hi, rfl, hS⟩ := hrel
    by_cases hlt : i < (chs k).size
    · have hlt3 : (i : Int) < ((chs k).size : Int) := by omega
      have hc := HCh.out i hlt
      have HI0 : Hid (i = 0) := by have := HSz.out; rw [Hid]; omega
      have HCv : Hid ((cl k).getD i 0 = 116) := by rw [Hid, HI0.out]; exact HCc.out
      have H2 : Hid (BdAt w wr r d g a len cap l 0 0 X) := by have := hS.out; rw [PadS, if_pos HI0.out] at this; exact this
      generalize (cl k).getD i 0 = c at *
      have r1 : (c == 97) = false := by rw [HCv.out]; rfl
      have r2 : (c == 116) = true := by rw [HCv.out]; rfl
      have r3 : (c == 120) = false := by rw [HCv.out]; rfl
      clear hS
      have d0 := H2.out.ref.cell0
      go_wp2_with fail
      refine (refBytes_src _ d a len cap l 0 0 len H2.out.ref).mono ?_
      obtain ⟨e1, e2⟩ := rd_b len len 0 (by omega)
      rw [Nat.sub_zero] at e1 e2
      rw [e1, e2]
      rintro e w5 ⟨a1, c1, rfl, hl1, hk1, hsrc⟩
      obtain ⟨a3, cap3, hb3⟩ := H2.out.read hk1
      rw [List.take_of_length_le (by rw [HLl.out]; exact Nat.le_refl _)] at hl1
      have LW : Lies .u8 w a1 len c1 l := lies_back hl1 hb3.below (fun x e hx => by
        rcases hsrc with e1 | e1
        · rw [e1] at e; cases e
        · rw [e1] at e; exact H2.out.la x e (by omega))
      rw [Nat.sub_self, List.drop_of_length_le (by rw [HLl.out]; exact Nat.le_refl _), Nat.zero_add] at hb3
      have f18 := hb3.row.frozen 18
      have c18 : w5.cell? ⟨g, 18, none⟩ = some (.slice none 0 0) := (hb3.row.cell 18).trans (by rw [Ov.at18 HXa.out, HXc.out.2]; rfl)
      have H4 : Hid (BdAt w (w5.setCell ⟨g, 18, none⟩ (.slice a1 len c1)) r d g a3 0 cap3 [] len 0 (X.setT ⟨a1, len, c1, l⟩)) := by
        have hg := grownBy_setCell w5 g 18 (.slice a1 len c1)
        refine hb3.wrote ?_ hg (hb3.n.kept hg (.inr (own_row hb3.n hb3.row (by decide)))) hb3.nn hb3.ad LW HO.out
        rw [← Ov.set18 hb3.ad]
        exact hb3.row.set 18 _
      have HSR : Hid (0 < len → a1 = a) := fun h => by
        rcases hsrc with e | e
        · obtain ⟨b, off, e2, _⟩ := LW.2.2.2.2 0 h
          rw [e] at e2; cases e2
        · exact e
      clear hk1 hl1 hb3 hsrc LW e1 e2 H2
      go_wp2_with fail
      go_roundw
      case rel =>
        refine ⟨i + 1, by omega, by go_num, ?_⟩
        rw [Hid, PadS, if_neg (by omega)]
        have := HXp.out
        simp only [Ov.p, Po.mk.injEq] at this
        exact ⟨a3, cap3, _, H4.out, by simp only [Ov.p, Ov.setT, this], HSR.out⟩
      case measure => simp [intOf]; omega

    · obtain rfl : i = (chs k).size := by omega
      obtain ⟨a2, cap2, o1, hb2, hp1, hok⟩ : ∃ a2 cap2 o, BdAt w wr r d g a2 0 cap2 [] len 0 o ∧ o.p = ⟨(k : Int), [], zeros, l⟩ ∧ (fun o => 0 < o.t.n → o.t.a = a) o := by
        have := hS.out
        rw [PadS, if_neg (by rw [HSz.out]; decide)] at this; exact this
      have H2 := hid hb2
      have HP1 := hid hp1
      have HA := hid hb2.ad
      have HOK := hid hok
      clear hb2 hp1 hS hok
      go_wp2_with fail
      refine wp_region_held_drew (S := fun w' => Hid (Row w' g 57 o1.cs)) (by kernel_rfl) ?_ (fun hHeld => ?_)
      · exact H2.out.row
      have H3 : Hid (BdAt w wr.drew r d g a2 0 cap2 [] len 0 o1) := H2.out.drewN 1
      clear H2
      generalize wr.drew = wd at *
      refine wpAnyH_take (i := 0) (oi := _) (v := .agg o1.cs) rfl (by kernel_rfl) (by kernel_rfl) (by kernel_rfl) (fun _ _ _ h => h) (yldOo o38 (by rfl) _ rfl g 0 rfl o1 HA.out (fun w h => (h).out.part)) (by assumption) ?_
      try simp only [List.getElem_toArray, List.getElem_cons_zero, List.getElem_cons_succ, Act.put, List.setIfInBounds_toArray, List.set_cons_zero, List.set_cons_succ]
      refine wpAnyH_take (i := 1) (oi := _) (v := ?vg1) rfl (by kernel_rfl) (by kernel_rfl) (by kernel_rfl) (fun _ _ _ h => h) (Or.inl ⟨by rfl, ?hyg1⟩) (by assumption) ?restg1
      case hyg1 => (intro w hSw; (try dsimp only at hSw); go_split_ands; go_simp; try (with_reducible rfl))
      try simp only [List.getElem_toArray, List.getElem_cons_zero, List.getElem_cons_succ, Act.put, List.setIfInBounds_toArray, List.set_cons_zero, List.set_cons_succ]
      refine wpAnyH_ready (rs := [2]) (by kernel_rfl) (by simp) ?_
      refine AllReadyH.cons (o := _) rfl (fun K hK => ?_) AllReadyH.nil
      go_simp
      refine (refClose_any _ d a2 0 cap2 [] len 0 H3.out.ref).mono ?_
      rintro e w5 ⟨rfl, rfl⟩
      have hcv : closeV 0 0 = 0 := rfl
      rw [hcv]
      clear hcv
      go_wp2_with fail
      refine hK.out _ _ H3.out.row (fun hHeld => ?_)
      clear hK K
      try simp only [List.getElem_toArray, List.getElem_cons_zero, List.getElem_cons_succ, Act.put, List.setIfInBounds_toArray, List.set_cons_zero, List.set_cons_succ]
      refine wpAnyH_take (i := 3) (oi := _) (v := ?vg3) rfl (by kernel_rfl) (by kernel_rfl) (by kernel_rfl) (fun _ _ _ h => h) (Or.inl ⟨by rfl, ?hyg3⟩) (by assumption) ?restg3
      case hyg3 => (intro w hSw; (try dsimp only at hSw); go_split_ands; go_simp; try (with_reducible rfl))
      try simp only [List.getElem_toArray, List.getElem_cons_zero, List.getElem_cons_succ, Act.put, List.setIfInBounds_toArray, List.set_cons_zero, List.set_cons_succ]
      refine wpAnyH_ready (rs := [4]) (by kernel_rfl) (by simp) ?_
      refine AllReadyH.cons (o := _) rfl (fun K hK => ?_) AllReadyH.nil
      refine step_st rfl 57 _ _ rfl r o1.cs rfl rfl 57 Ov.zero.cs H3.out.res (by rw [Ov.size HA.out]; exact o38.info) (by rw [Ov.size HA.out]; exact Ov.size adr_zeros) o1.one ?_
      have R6 := hid (H3.out.res.setRow o1.cs)
      have G6 := hid (H3.out.row.rowOther r o1.cs (fun e => H3.out.hgr e.symm))
      have OK6 : Hid (Mine w (w5.setRow r o1.cs) o1) :=
        ⟨H3.out.n.kept (grownBy_setRow w5 r o1.cs) (.inr (own_row H3.out.n H3.out.res (by decide))), H3.out.nn, H3.out.ad, H3.out.t, H3.out.oct⟩
      have B6 := hid (bgrown H3.out.below (grownBy_setRow w5 r o1.cs) H3.out.hr)
      refine hK.out _ _ G6.out (fun hHeld => ?_)
      clear hK K
      try simp only [List.getElem_toArray, List.getElem_cons_zero, List.getElem_cons_succ, Act.put, List.setIfInBounds_toArray, List.set_cons_zero, List.set_cons_succ]
      refine wpAnyH_take (i := 5) (oi := _) (v := ?vg5) rfl (by kernel_rfl) (by kernel_rfl) (by kernel_rfl) (fun _ _ _ h => h) (Or.inl ⟨by rfl, ?hyg5⟩) (by assumption) ?restg5
      case hyg5 => (intro w hSw; (try dsimp only at hSw); go_split_ands; go_simp; try (with_reducible rfl))
      try simp only [List.getElem_toArray, List.getElem_cons_zero, List.getElem_cons_succ, Act.put, List.setIfInBounds_toArray, List.set_cons_zero, List.set_cons_succ]
      refine wpAnyH_done (by kernel_rfl) ?_ _
      go_wp2_with fail
      refine bodyPost_ret (resOoe o38 rfl _ _ r 57 o1 HA.out _ rfl rfl R6.out) rfl ?_

      have hE : filE k l 0 = 0 := by simp [filE, HZk.out.1, HZk.out.2]
      refine ⟨o1, true, rfl, OK6.out, HOK.out, by rw [← HR.out] at *; exact B6.out, ?_, ?_⟩
      · rw [hE]; simp
      · intro _; rw [HP1.out, filP, if_pos rfl, if_neg (by rw [HZk.out.1]; simp), if_pos HZk.out.2]
end Go.Proofs.YtbfjkhafdkhhmaaDoor
