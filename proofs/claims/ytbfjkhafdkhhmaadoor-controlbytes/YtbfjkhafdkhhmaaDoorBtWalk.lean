/- ControlBytes' walk. -/
import Derived.Test.YtbfjkhafdkhhmaaDoorEn
import Derived.Test.YtbfjkhafdkhhmaaDoorM30
import Derived.Test.YtbfjkhafdkhhmaaDoorM28
import Derived.Test.YtbfjkhafdkhhmaaDoorM33
import Derived.Test.YtbfjkhafdkhhmaaDoorM16
namespace Go.Proofs.YtbfjkhafdkhhmaaDoor
open Go.ChangeShapes Go.WideShapes Go.ChangeAt Go.RowKit Go.Deep
set_option linter.unusedVariables false
set_option linter.unusedSimpArgs false

theorem sameMs (a : Pm) : sameM a a = true := by simp [sameM, allB_self]
theorem eL_oct {w : World} {m : Mv} (h : m.ok w) : Oct (eL m.p) := by
  unfold eL
  split
  · intro x hx
    rcases List.mem_append.1 hx with e | e
    · rw [hdM] at e
      rcases List.mem_append.1 e with e | e
      · exact hdV_oct _ _ x e
      · split at e
        · exact h.ro.2 x e
        · cases e
    · exact encsL_oct (fun o ho => ⟨(h.o.ok o ho).ad, (h.o.ok o ho).oct⟩) x e
  · intro x hx; cases hx
theorem eE_bad {m : Pm} (h : chkM m ≠ 0) : eE m = chkM m := by rw [eE, if_pos h]
theorem eL_bad {m : Pm} (h : eE m ≠ 0) : eL m = [] := by rw [eL, if_neg h]
theorem eL_le (m : Pm) : (eL m).length ≤ 1280 := by
  unfold eL
  split
  · rename_i h
    rw [eE] at h
    split at h
    · contradiction
    · split at h
      · exact absurd h (by decide)
      · rw [List.length_append]; omega
  · simp
set_option maxRecDepth 1000000 in
set_option maxHeartbeats 25600000 in
theorem cbytes_walk (m x : Mv) (w : World) (hm : m.ok w ∧ Wfo m.L) (hx : x.ok w ∧ Wfo x.L) (hV : CV w.heap.size w) :
    Calls Tryd.prog 3 #[.agg m.cs, .agg x.cs] w fun e w' => e = .returned (.bool true) ∧ Below w.heap.size w w' := by
  have hz := zmv
  have HA := hid hm.1.ro
  have HX := hid hx.1.ro
  have HM0 := hid hm.1
  have HX0 := hid hx.1
  have HMW := hid hm.2
  have HXW := hid hx.2
  have R1 := hid ((Row.new w 25 m.cs).alloc (.cells x.cs 25))
  have X1 := hid (Row.new (w.alloc (.cells m.cs 25)) 25 x.cs)
  have B1 := hid (balloc (balloc (Below.refl w.heap.size w) (.cells m.cs 25)) (.cells x.cs 25))
  have V0 := hid hV
  have hs1 : (w.alloc (.cells m.cs 25)).heap.size = w.heap.size + 1 := World.size_alloc ..
  rw [hs1] at X1
  clear hm hx hV
  go_enter Tryd.func3, Tryd.ntmps3
  go_upto_region 1 with fail
  generalize (w.alloc (.cells m.cs 25)).alloc (.cells x.cs 25) = w1 at *
  have LG : Hid (w.heap.size ≤ w.heap.size ∧ w.heap.size ≤ w.heap.size + 1) := hid ⟨Nat.le_refl _, Nat.le_succ _⟩
  clear hs1
  have R1 : Hid (Row w1 w.heap.size 25 m.cs) := R1
  have X1 : Hid (Row w1 (w.heap.size + 1) 25 x.cs) := X1
  generalize hg2 : w.heap.size + 1 = g2 at *
  generalize hg1 : w.heap.size = g1 at *
  rw [← hg1] at B1 V0
  have HG1 := hid hg1
  clear hg1 hg2 LG
  go_cut [5, 6] from 14 to 17 (fun v5 v6 wx => ∃ (gA gB : Nat) (a b : Mv), v5 = .pointer (some ⟨gA, 0, none⟩) ∧ v6 = .pointer (some ⟨gB, 0, none⟩) ∧ a.on ≤ 20 ∧ b.on ≤ 20 ∧ Hid (Row wx gA 29 a.cs) ∧ Hid (Row wx gB 29 b.cs) ∧ Hid (MtM w.heap.size w.heap.size wx a) ∧ Hid (MtM w.heap.size w.heap.size wx b) ∧ Hid (Wfo a.L) ∧ Hid (Wfo b.L) ∧ Hid (Below w.heap.size w wx))
  case first =>
    as_aux_lemma =>
      refine wp_region_held_drew (S := fun w' => Hid (Row w' g1 25 m.cs) ∧ Hid (Row w' g2 25 x.cs)) (by kernel_rfl) ?_ (fun hHeld => ?_)
      · exact ⟨R1, X1⟩
      refine wpAnyH_take (i := 0) (oi := _) (v := .agg m.cs) rfl (by kernel_rfl) (by kernel_rfl) (by kernel_rfl) (fun _ _ _ h => h) (yldM m25 (by rfl) _ rfl g1 0 rfl m HA.out (fun w h => h.1.out.part)) (by assumption) ?_
      try simp only [List.getElem_toArray, List.getElem_cons_zero, List.getElem_cons_succ, Act.put, List.setIfInBounds_toArray, List.set_cons_zero, List.set_cons_succ]
      refine wpAnyH_take (i := 2) (oi := _) (v := .agg x.cs) rfl (by kernel_rfl) (by kernel_rfl) (by kernel_rfl) (fun _ _ _ h => h) (yldM m25 (by rfl) _ rfl g2 0 rfl x HX.out (fun w h => h.2.out.part)) (by assumption) ?_
      try simp only [List.getElem_toArray, List.getElem_cons_zero, List.getElem_cons_succ, Act.put, List.setIfInBounds_toArray, List.set_cons_zero, List.set_cons_succ]
      replace B1 : Hid (Below w.heap.size w w1.drew) := hid (B1.out.trans ⟨rfl, rfl, rfl, Nat.le_refl _, fun _ _ => rfl⟩)
      replace R1 : Hid (Row w1.drew g1 25 m.cs) := R1
      replace X1 : Hid (Row w1.drew g2 25 x.cs) := X1
      generalize w1.drew = w0a at *
      refine wpAnyH_ready (rs := [1, 4, 5]) (by kernel_rfl) (by simp) ?_
      refine AllReadyH.cons (o := _) rfl (fun K hK => ?_) (AllReadyH.cons (o := _) rfl (fun K hK => ?_) (AllReadyH.cons (o := _) rfl (fun K hK => ?_) AllReadyH.nil))
      · go_simp
        refine (cTo_own w m _ HM0.out B1.out HMW.out).mono ?_
        rintro e w1a ⟨⟨a, rfl, a20, h1, h2⟩, hb⟩
        replace R1 := hid (R1.out.below hb)
        replace X1 := hid (X1.out.below hb)
        replace B1 := hid (bthen B1.out hb)
        have AM := hid h1.out
        have AMW := hid h2.out
        clear h1 h2 hb
        go_wp2_with fail
        refine hK.out _ _ ⟨R1, X1⟩ (fun hHeld => ?_)
        clear hK K
        try simp only [List.getElem_toArray, List.getElem_cons_zero, List.getElem_cons_succ, Act.put, List.setIfInBounds_toArray, List.set_cons_zero, List.set_cons_succ]
        refine wpAnyH_ready (rs := [3, 4, 5]) (by kernel_rfl) (by simp) ?_
        refine AllReadyH.cons (o := _) rfl (fun K hK => ?_) (AllReadyH.cons (o := _) rfl (fun K hK => ?_) (AllReadyH.cons (o := _) rfl (fun K hK => ?_) AllReadyH.nil))
        · go_simp
          refine (cTo_own w x _ HX0.out B1.out HXW.out).mono ?_
          rintro e w2a ⟨⟨b, rfl, b20, h1, h2⟩, hb⟩
          replace R1 := hid (R1.out.below hb)
          replace X1 := hid (X1.out.below hb)
          replace AM := hid (AM.out.below hb)
          replace B1 := hid (bthen B1.out hb)
          have BM := hid h1.out
          have BMW := hid h2.out
          clear h1 h2 hb
          go_wp2_with fail
          refine hK.out _ _ ⟨R1, X1⟩ (fun hHeld => ?_)
          clear hK K
          try simp only [List.getElem_toArray, List.getElem_cons_zero, List.getElem_cons_succ, Act.put, List.setIfInBounds_toArray, List.set_cons_zero, List.set_cons_succ]
          refine wpAnyH_ready (rs := [4, 5]) (by kernel_rfl) (by simp) ?_
          refine AllReadyH.cons (o := _) rfl (fun K hK => ?_) (AllReadyH.cons (o := _) rfl (fun K hK => ?_) AllReadyH.nil)
          · go_simp
            have hr1 := R1.out.lt
            have hx1 := X1.out.lt
            have hb := balloc (Below.refl (w2a).heap.size (w2a)) (.cells Mv.zero.cs 29)
            replace R1 := hid (R1.out.below hb)
            replace X1 := hid (X1.out.below hb)
            replace AM := hid (AM.out.below hb)
            replace BM := hid (BM.out.below hb)
            have hB := B1.out.size
            replace B1 := hid (bthen B1.out hb)
            have ZA := hid (Row.new (w2a) 29 Mv.zero.cs)
            have LZA : Hid (w.heap.size ≤ (w2a).heap.size ∧ g1 < (w2a).heap.size ∧ g2 < (w2a).heap.size) := hid ⟨hB, hr1, hx1⟩
            clear hb hB hr1 hx1
            refine hK.out _ _ ⟨R1, X1⟩ (fun hHeld => ?_)
            clear hK K
            try simp only [List.getElem_toArray, List.getElem_cons_zero, List.getElem_cons_succ, Act.put, List.setIfInBounds_toArray, List.set_cons_zero, List.set_cons_succ]
            generalize (w2a).alloc (.cells Mv.zero.cs 29) = w3a at *
            generalize (w2a).heap.size = gA at *
            refine wpAnyH_ready (rs := [5]) (by kernel_rfl) (by simp) ?_
            refine AllReadyH.cons (o := _) rfl (fun K hK => ?_) AllReadyH.nil
            go_simp
            have hzo := ZA.out.lt
            have hr1 := R1.out.lt
            have hx1 := X1.out.lt
            have hb := balloc (Below.refl (w3a).heap.size (w3a)) (.cells Mv.zero.cs 29)
            replace R1 := hid (R1.out.below hb)
            replace X1 := hid (X1.out.below hb)
            replace ZA := hid (ZA.out.below hb)
            replace AM := hid (AM.out.below hb)
            replace BM := hid (BM.out.below hb)
            have hB := B1.out.size
            replace B1 := hid (bthen B1.out hb)
            have ZB := hid (Row.new (w3a) 29 Mv.zero.cs)
            have LZB : Hid (w.heap.size ≤ (w3a).heap.size ∧ g1 < (w3a).heap.size ∧ g2 < (w3a).heap.size) := hid ⟨hB, hr1, hx1⟩
            have HAB : Hid (gA ≠ (w3a).heap.size) := hid (by omega)
            clear hb hB hzo hr1 hx1
            refine hK.out _ _ ⟨R1, X1⟩ (fun hHeld => ?_)
            clear hK K
            try simp only [List.getElem_toArray, List.getElem_cons_zero, List.getElem_cons_succ, Act.put, List.setIfInBounds_toArray, List.set_cons_zero, List.set_cons_succ]
            generalize (w3a).alloc (.cells Mv.zero.cs 29) = w4a at *
            generalize (w3a).heap.size = gB at *
            refine wpAnyH_ready (rs := [6]) (by kernel_rfl) (by simp) ?_
            refine AllReadyH.cons (o := _) rfl (fun K hK => ?_) AllReadyH.nil
            refine step_st rfl 29 _ _ rfl gA a.cs rfl rfl 29 Mv.zero.cs ZA.out (by rw [Mv.size AM.out.ro]; exact m29.info) (by rw [Mv.size adr_zeros, Mv.size AM.out.ro]) (Mv.one _) ?_
            have hgr := grownBy_setRow (w4a) gA a.cs
            have hlw := B1.out.size
            replace R1 := hid (R1.out.rowOther gA a.cs (Nat.ne_of_lt LZA.out.2.1))
            replace X1 := hid (X1.out.rowOther gA a.cs (Nat.ne_of_lt LZA.out.2.2))
            replace AM := hid (AM.out.row ZA.out hgr LZA.out.1 hlw)
            replace BM := hid (BM.out.row ZA.out hgr LZA.out.1 hlw)
            replace B1 := hid (below_setRow' B1.out LZA.out.1 a.cs)
            replace ZB := hid (ZB.out.rowOther gA a.cs (fun e => HAB.out e.symm))
            replace ZA := hid (ZA.out.setRow a.cs)
            clear hgr hlw
            refine hK.out _ _ ⟨R1, X1⟩ (fun hHeld => ?_)
            clear hK K
            try simp only [List.getElem_toArray, List.getElem_cons_zero, List.getElem_cons_succ, Act.put, List.setIfInBounds_toArray, List.set_cons_zero, List.set_cons_succ]
            generalize (w4a).setRow gA a.cs = w5a at *
            refine wpAnyH_ready (rs := [7]) (by kernel_rfl) (by simp) ?_
            refine AllReadyH.cons (o := _) rfl (fun K hK => ?_) AllReadyH.nil
            refine step_st rfl 29 _ _ rfl gB b.cs rfl rfl 29 Mv.zero.cs ZB.out (by rw [Mv.size BM.out.ro]; exact m29.info) (by rw [Mv.size adr_zeros, Mv.size BM.out.ro]) (Mv.one _) ?_
            have hgr := grownBy_setRow (w5a) gB b.cs
            have hlw := B1.out.size
            replace R1 := hid (R1.out.rowOther gB b.cs (Nat.ne_of_lt LZB.out.2.1))
            replace X1 := hid (X1.out.rowOther gB b.cs (Nat.ne_of_lt LZB.out.2.2))
            replace AM := hid (AM.out.row ZB.out hgr LZB.out.1 hlw)
            replace BM := hid (BM.out.row ZB.out hgr LZB.out.1 hlw)
            replace B1 := hid (below_setRow' B1.out LZB.out.1 b.cs)
            replace ZA := hid (ZA.out.rowOther gB b.cs HAB.out)
            replace ZB := hid (ZB.out.setRow b.cs)
            clear hgr hlw
            refine hK.out _ _ ⟨R1, X1⟩ (fun hHeld => ?_)
            clear hK K
            try simp only [List.getElem_toArray, List.getElem_cons_zero, List.getElem_cons_succ, Act.put, List.setIfInBounds_toArray, List.set_cons_zero, List.set_cons_succ]
            refine wpAnyH_done (by kernel_rfl) ?_ _
            go_wp2_with fail
            go_meet
            case rel => exact ⟨gA, gB, a, b, rfl, rfl, a20, b20, ZA, ZB, AM, BM, AMW, BMW, B1⟩
          · go_simp
            have hr1 := R1.out.lt
            have hx1 := X1.out.lt
            have hb := balloc (Below.refl (w2a).heap.size (w2a)) (.cells Mv.zero.cs 29)
            replace R1 := hid (R1.out.below hb)
            replace X1 := hid (X1.out.below hb)
            replace AM := hid (AM.out.below hb)
            replace BM := hid (BM.out.below hb)
            have hB := B1.out.size
            replace B1 := hid (bthen B1.out hb)
            have ZB := hid (Row.new (w2a) 29 Mv.zero.cs)
            have LZB : Hid (w.heap.size ≤ (w2a).heap.size ∧ g1 < (w2a).heap.size ∧ g2 < (w2a).heap.size) := hid ⟨hB, hr1, hx1⟩
            clear hb hB hr1 hx1
            refine hK.out _ _ ⟨R1, X1⟩ (fun hHeld => ?_)
            clear hK K
            try simp only [List.getElem_toArray, List.getElem_cons_zero, List.getElem_cons_succ, Act.put, List.setIfInBounds_toArray, List.set_cons_zero, List.set_cons_succ]
            generalize (w2a).alloc (.cells Mv.zero.cs 29) = w6a at *
            generalize (w2a).heap.size = gB at *
            refine wpAnyH_ready (rs := [4]) (by kernel_rfl) (by simp) ?_
            refine AllReadyH.cons (o := _) rfl (fun K hK => ?_) AllReadyH.nil
            go_simp
            have hzo := ZB.out.lt
            have hr1 := R1.out.lt
            have hx1 := X1.out.lt
            have hb := balloc (Below.refl (w6a).heap.size (w6a)) (.cells Mv.zero.cs 29)
            replace R1 := hid (R1.out.below hb)
            replace X1 := hid (X1.out.below hb)
            replace ZB := hid (ZB.out.below hb)
            replace AM := hid (AM.out.below hb)
            replace BM := hid (BM.out.below hb)
            have hB := B1.out.size
            replace B1 := hid (bthen B1.out hb)
            have ZA := hid (Row.new (w6a) 29 Mv.zero.cs)
            have LZA : Hid (w.heap.size ≤ (w6a).heap.size ∧ g1 < (w6a).heap.size ∧ g2 < (w6a).heap.size) := hid ⟨hB, hr1, hx1⟩
            have HAB : Hid ((w6a).heap.size ≠ gB) := hid (by omega)
            clear hb hB hzo hr1 hx1
            refine hK.out _ _ ⟨R1, X1⟩ (fun hHeld => ?_)
            clear hK K
            try simp only [List.getElem_toArray, List.getElem_cons_zero, List.getElem_cons_succ, Act.put, List.setIfInBounds_toArray, List.set_cons_zero, List.set_cons_succ]
            generalize (w6a).alloc (.cells Mv.zero.cs 29) = w7a at *
            generalize (w6a).heap.size = gA at *
            refine wpAnyH_ready (rs := [6]) (by kernel_rfl) (by simp) ?_
            refine AllReadyH.cons (o := _) rfl (fun K hK => ?_) AllReadyH.nil
            refine step_st rfl 29 _ _ rfl gA a.cs rfl rfl 29 Mv.zero.cs ZA.out (by rw [Mv.size AM.out.ro]; exact m29.info) (by rw [Mv.size adr_zeros, Mv.size AM.out.ro]) (Mv.one _) ?_
            have hgr := grownBy_setRow (w7a) gA a.cs
            have hlw := B1.out.size
            replace R1 := hid (R1.out.rowOther gA a.cs (Nat.ne_of_lt LZA.out.2.1))
            replace X1 := hid (X1.out.rowOther gA a.cs (Nat.ne_of_lt LZA.out.2.2))
            replace AM := hid (AM.out.row ZA.out hgr LZA.out.1 hlw)
            replace BM := hid (BM.out.row ZA.out hgr LZA.out.1 hlw)
            replace B1 := hid (below_setRow' B1.out LZA.out.1 a.cs)
            replace ZB := hid (ZB.out.rowOther gA a.cs (fun e => HAB.out e.symm))
            replace ZA := hid (ZA.out.setRow a.cs)
            clear hgr hlw
            refine hK.out _ _ ⟨R1, X1⟩ (fun hHeld => ?_)
            clear hK K
            try simp only [List.getElem_toArray, List.getElem_cons_zero, List.getElem_cons_succ, Act.put, List.setIfInBounds_toArray, List.set_cons_zero, List.set_cons_succ]
            generalize (w7a).setRow gA a.cs = w8a at *
            refine wpAnyH_ready (rs := [7]) (by kernel_rfl) (by simp) ?_
            refine AllReadyH.cons (o := _) rfl (fun K hK => ?_) AllReadyH.nil
            refine step_st rfl 29 _ _ rfl gB b.cs rfl rfl 29 Mv.zero.cs ZB.out (by rw [Mv.size BM.out.ro]; exact m29.info) (by rw [Mv.size adr_zeros, Mv.size BM.out.ro]) (Mv.one _) ?_
            have hgr := grownBy_setRow (w8a) gB b.cs
            have hlw := B1.out.size
            replace R1 := hid (R1.out.rowOther gB b.cs (Nat.ne_of_lt LZB.out.2.1))
            replace X1 := hid (X1.out.rowOther gB b.cs (Nat.ne_of_lt LZB.out.2.2))
            replace AM := hid (AM.out.row ZB.out hgr LZB.out.1 hlw)
            replace BM := hid (BM.out.row ZB.out hgr LZB.out.1 hlw)
            replace B1 := hid (below_setRow' B1.out LZB.out.1 b.cs)
            replace ZA := hid (ZA.out.rowOther gB b.cs HAB.out)
            replace ZB := hid (ZB.out.setRow b.cs)
            clear hgr hlw
            refine hK.out _ _ ⟨R1, X1⟩ (fun hHeld => ?_)
            clear hK K
            try simp only [List.getElem_toArray, List.getElem_cons_zero, List.getElem_cons_succ, Act.put, List.setIfInBounds_toArray, List.set_cons_zero, List.set_cons_succ]
            refine wpAnyH_done (by kernel_rfl) ?_ _
            go_wp2_with fail
            go_meet
            case rel => exact ⟨gA, gB, a, b, rfl, rfl, a20, b20, ZA, ZB, AM, BM, AMW, BMW, B1⟩
        · go_simp
          have hr1 := R1.out.lt
          have hx1 := X1.out.lt
          have hb := balloc (Below.refl (w1a).heap.size (w1a)) (.cells Mv.zero.cs 29)
          replace R1 := hid (R1.out.below hb)
          replace X1 := hid (X1.out.below hb)
          replace AM := hid (AM.out.below hb)
          have hB := B1.out.size
          replace B1 := hid (bthen B1.out hb)
          have ZA := hid (Row.new (w1a) 29 Mv.zero.cs)
          have LZA : Hid (w.heap.size ≤ (w1a).heap.size ∧ g1 < (w1a).heap.size ∧ g2 < (w1a).heap.size) := hid ⟨hB, hr1, hx1⟩
          clear hb hB hr1 hx1
          refine hK.out _ _ ⟨R1, X1⟩ (fun hHeld => ?_)
          clear hK K
          try simp only [List.getElem_toArray, List.getElem_cons_zero, List.getElem_cons_succ, Act.put, List.setIfInBounds_toArray, List.set_cons_zero, List.set_cons_succ]
          generalize (w1a).alloc (.cells Mv.zero.cs 29) = w9a at *
          generalize (w1a).heap.size = gA at *
          refine wpAnyH_ready (rs := [3, 5]) (by kernel_rfl) (by simp) ?_
          refine AllReadyH.cons (o := _) rfl (fun K hK => ?_) (AllReadyH.cons (o := _) rfl (fun K hK => ?_) AllReadyH.nil)
          · go_simp
            refine (cTo_own w x _ HX0.out B1.out HXW.out).mono ?_
            rintro e w10a ⟨⟨b, rfl, b20, h1, h2⟩, hb⟩
            replace R1 := hid (R1.out.below hb)
            replace X1 := hid (X1.out.below hb)
            replace ZA := hid (ZA.out.below hb)
            replace AM := hid (AM.out.below hb)
            replace B1 := hid (bthen B1.out hb)
            have BM := hid h1.out
            have BMW := hid h2.out
            clear h1 h2 hb
            go_wp2_with fail
            refine hK.out _ _ ⟨R1, X1⟩ (fun hHeld => ?_)
            clear hK K
            try simp only [List.getElem_toArray, List.getElem_cons_zero, List.getElem_cons_succ, Act.put, List.setIfInBounds_toArray, List.set_cons_zero, List.set_cons_succ]
            refine wpAnyH_ready (rs := [5]) (by kernel_rfl) (by simp) ?_
            refine AllReadyH.cons (o := _) rfl (fun K hK => ?_) AllReadyH.nil
            go_simp
            have hzo := ZA.out.lt
            have hr1 := R1.out.lt
            have hx1 := X1.out.lt
            have hb := balloc (Below.refl (w10a).heap.size (w10a)) (.cells Mv.zero.cs 29)
            replace R1 := hid (R1.out.below hb)
            replace X1 := hid (X1.out.below hb)
            replace ZA := hid (ZA.out.below hb)
            replace AM := hid (AM.out.below hb)
            replace BM := hid (BM.out.below hb)
            have hB := B1.out.size
            replace B1 := hid (bthen B1.out hb)
            have ZB := hid (Row.new (w10a) 29 Mv.zero.cs)
            have LZB : Hid (w.heap.size ≤ (w10a).heap.size ∧ g1 < (w10a).heap.size ∧ g2 < (w10a).heap.size) := hid ⟨hB, hr1, hx1⟩
            have HAB : Hid (gA ≠ (w10a).heap.size) := hid (by omega)
            clear hb hB hzo hr1 hx1
            refine hK.out _ _ ⟨R1, X1⟩ (fun hHeld => ?_)
            clear hK K
            try simp only [List.getElem_toArray, List.getElem_cons_zero, List.getElem_cons_succ, Act.put, List.setIfInBounds_toArray, List.set_cons_zero, List.set_cons_succ]
            generalize (w10a).alloc (.cells Mv.zero.cs 29) = w11a at *
            generalize (w10a).heap.size = gB at *
            refine wpAnyH_ready (rs := [6]) (by kernel_rfl) (by simp) ?_
            refine AllReadyH.cons (o := _) rfl (fun K hK => ?_) AllReadyH.nil
            refine step_st rfl 29 _ _ rfl gA a.cs rfl rfl 29 Mv.zero.cs ZA.out (by rw [Mv.size AM.out.ro]; exact m29.info) (by rw [Mv.size adr_zeros, Mv.size AM.out.ro]) (Mv.one _) ?_
            have hgr := grownBy_setRow (w11a) gA a.cs
            have hlw := B1.out.size
            replace R1 := hid (R1.out.rowOther gA a.cs (Nat.ne_of_lt LZA.out.2.1))
            replace X1 := hid (X1.out.rowOther gA a.cs (Nat.ne_of_lt LZA.out.2.2))
            replace AM := hid (AM.out.row ZA.out hgr LZA.out.1 hlw)
            replace BM := hid (BM.out.row ZA.out hgr LZA.out.1 hlw)
            replace B1 := hid (below_setRow' B1.out LZA.out.1 a.cs)
            replace ZB := hid (ZB.out.rowOther gA a.cs (fun e => HAB.out e.symm))
            replace ZA := hid (ZA.out.setRow a.cs)
            clear hgr hlw
            refine hK.out _ _ ⟨R1, X1⟩ (fun hHeld => ?_)
            clear hK K
            try simp only [List.getElem_toArray, List.getElem_cons_zero, List.getElem_cons_succ, Act.put, List.setIfInBounds_toArray, List.set_cons_zero, List.set_cons_succ]
            generalize (w11a).setRow gA a.cs = w12a at *
            refine wpAnyH_ready (rs := [7]) (by kernel_rfl) (by simp) ?_
            refine AllReadyH.cons (o := _) rfl (fun K hK => ?_) AllReadyH.nil
            refine step_st rfl 29 _ _ rfl gB b.cs rfl rfl 29 Mv.zero.cs ZB.out (by rw [Mv.size BM.out.ro]; exact m29.info) (by rw [Mv.size adr_zeros, Mv.size BM.out.ro]) (Mv.one _) ?_
            have hgr := grownBy_setRow (w12a) gB b.cs
            have hlw := B1.out.size
            replace R1 := hid (R1.out.rowOther gB b.cs (Nat.ne_of_lt LZB.out.2.1))
            replace X1 := hid (X1.out.rowOther gB b.cs (Nat.ne_of_lt LZB.out.2.2))
            replace AM := hid (AM.out.row ZB.out hgr LZB.out.1 hlw)
            replace BM := hid (BM.out.row ZB.out hgr LZB.out.1 hlw)
            replace B1 := hid (below_setRow' B1.out LZB.out.1 b.cs)
            replace ZA := hid (ZA.out.rowOther gB b.cs HAB.out)
            replace ZB := hid (ZB.out.setRow b.cs)
            clear hgr hlw
            refine hK.out _ _ ⟨R1, X1⟩ (fun hHeld => ?_)
            clear hK K
            try simp only [List.getElem_toArray, List.getElem_cons_zero, List.getElem_cons_succ, Act.put, List.setIfInBounds_toArray, List.set_cons_zero, List.set_cons_succ]
            refine wpAnyH_done (by kernel_rfl) ?_ _
            go_wp2_with fail
            go_meet
            case rel => exact ⟨gA, gB, a, b, rfl, rfl, a20, b20, ZA, ZB, AM, BM, AMW, BMW, B1⟩
          · go_simp
            have hzo := ZA.out.lt
            have hr1 := R1.out.lt
            have hx1 := X1.out.lt
            have hb := balloc (Below.refl (w9a).heap.size (w9a)) (.cells Mv.zero.cs 29)
            replace R1 := hid (R1.out.below hb)
            replace X1 := hid (X1.out.below hb)
            replace ZA := hid (ZA.out.below hb)
            replace AM := hid (AM.out.below hb)
            have hB := B1.out.size
            replace B1 := hid (bthen B1.out hb)
            have ZB := hid (Row.new (w9a) 29 Mv.zero.cs)
            have LZB : Hid (w.heap.size ≤ (w9a).heap.size ∧ g1 < (w9a).heap.size ∧ g2 < (w9a).heap.size) := hid ⟨hB, hr1, hx1⟩
            have HAB : Hid (gA ≠ (w9a).heap.size) := hid (by omega)
            clear hb hB hzo hr1 hx1
            refine hK.out _ _ ⟨R1, X1⟩ (fun hHeld => ?_)
            clear hK K
            try simp only [List.getElem_toArray, List.getElem_cons_zero, List.getElem_cons_succ, Act.put, List.setIfInBounds_toArray, List.set_cons_zero, List.set_cons_succ]
            generalize (w9a).alloc (.cells Mv.zero.cs 29) = w13a at *
            generalize (w9a).heap.size = gB at *
            refine wpAnyH_ready (rs := [3]) (by kernel_rfl) (by simp) ?_
            refine AllReadyH.cons (o := _) rfl (fun K hK => ?_) AllReadyH.nil
            go_simp
            refine (cTo_own w x _ HX0.out B1.out HXW.out).mono ?_
            rintro e w14a ⟨⟨b, rfl, b20, h1, h2⟩, hb⟩
            replace R1 := hid (R1.out.below hb)
            replace X1 := hid (X1.out.below hb)
            replace ZA := hid (ZA.out.below hb)
            replace ZB := hid (ZB.out.below hb)
            replace AM := hid (AM.out.below hb)
            replace B1 := hid (bthen B1.out hb)
            have BM := hid h1.out
            have BMW := hid h2.out
            clear h1 h2 hb
            go_wp2_with fail
            refine hK.out _ _ ⟨R1, X1⟩ (fun hHeld => ?_)
            clear hK K
            try simp only [List.getElem_toArray, List.getElem_cons_zero, List.getElem_cons_succ, Act.put, List.setIfInBounds_toArray, List.set_cons_zero, List.set_cons_succ]
            refine wpAnyH_ready (rs := [6]) (by kernel_rfl) (by simp) ?_
            refine AllReadyH.cons (o := _) rfl (fun K hK => ?_) AllReadyH.nil
            refine step_st rfl 29 _ _ rfl gA a.cs rfl rfl 29 Mv.zero.cs ZA.out (by rw [Mv.size AM.out.ro]; exact m29.info) (by rw [Mv.size adr_zeros, Mv.size AM.out.ro]) (Mv.one _) ?_
            have hgr := grownBy_setRow (w14a) gA a.cs
            have hlw := B1.out.size
            replace R1 := hid (R1.out.rowOther gA a.cs (Nat.ne_of_lt LZA.out.2.1))
            replace X1 := hid (X1.out.rowOther gA a.cs (Nat.ne_of_lt LZA.out.2.2))
            replace AM := hid (AM.out.row ZA.out hgr LZA.out.1 hlw)
            replace BM := hid (BM.out.row ZA.out hgr LZA.out.1 hlw)
            replace B1 := hid (below_setRow' B1.out LZA.out.1 a.cs)
            replace ZB := hid (ZB.out.rowOther gA a.cs (fun e => HAB.out e.symm))
            replace ZA := hid (ZA.out.setRow a.cs)
            clear hgr hlw
            refine hK.out _ _ ⟨R1, X1⟩ (fun hHeld => ?_)
            clear hK K
            try simp only [List.getElem_toArray, List.getElem_cons_zero, List.getElem_cons_succ, Act.put, List.setIfInBounds_toArray, List.set_cons_zero, List.set_cons_succ]
            generalize (w14a).setRow gA a.cs = w15a at *
            refine wpAnyH_ready (rs := [7]) (by kernel_rfl) (by simp) ?_
            refine AllReadyH.cons (o := _) rfl (fun K hK => ?_) AllReadyH.nil
            refine step_st rfl 29 _ _ rfl gB b.cs rfl rfl 29 Mv.zero.cs ZB.out (by rw [Mv.size BM.out.ro]; exact m29.info) (by rw [Mv.size adr_zeros, Mv.size BM.out.ro]) (Mv.one _) ?_
            have hgr := grownBy_setRow (w15a) gB b.cs
            have hlw := B1.out.size
            replace R1 := hid (R1.out.rowOther gB b.cs (Nat.ne_of_lt LZB.out.2.1))
            replace X1 := hid (X1.out.rowOther gB b.cs (Nat.ne_of_lt LZB.out.2.2))
            replace AM := hid (AM.out.row ZB.out hgr LZB.out.1 hlw)
            replace BM := hid (BM.out.row ZB.out hgr LZB.out.1 hlw)
            replace B1 := hid (below_setRow' B1.out LZB.out.1 b.cs)
            replace ZA := hid (ZA.out.rowOther gB b.cs HAB.out)
            replace ZB := hid (ZB.out.setRow b.cs)
            clear hgr hlw
            refine hK.out _ _ ⟨R1, X1⟩ (fun hHeld => ?_)
            clear hK K
            try simp only [List.getElem_toArray, List.getElem_cons_zero, List.getElem_cons_succ, Act.put, List.setIfInBounds_toArray, List.set_cons_zero, List.set_cons_succ]
            refine wpAnyH_done (by kernel_rfl) ?_ _
            go_wp2_with fail
            go_meet
            case rel => exact ⟨gA, gB, a, b, rfl, rfl, a20, b20, ZA, ZB, AM, BM, AMW, BMW, B1⟩
        · go_simp
          have hr1 := R1.out.lt
          have hx1 := X1.out.lt
          have hb := balloc (Below.refl (w1a).heap.size (w1a)) (.cells Mv.zero.cs 29)
          replace R1 := hid (R1.out.below hb)
          replace X1 := hid (X1.out.below hb)
          replace AM := hid (AM.out.below hb)
          have hB := B1.out.size
          replace B1 := hid (bthen B1.out hb)
          have ZB := hid (Row.new (w1a) 29 Mv.zero.cs)
          have LZB : Hid (w.heap.size ≤ (w1a).heap.size ∧ g1 < (w1a).heap.size ∧ g2 < (w1a).heap.size) := hid ⟨hB, hr1, hx1⟩
          clear hb hB hr1 hx1
          refine hK.out _ _ ⟨R1, X1⟩ (fun hHeld => ?_)
          clear hK K
          try simp only [List.getElem_toArray, List.getElem_cons_zero, List.getElem_cons_succ, Act.put, List.setIfInBounds_toArray, List.set_cons_zero, List.set_cons_succ]
          generalize (w1a).alloc (.cells Mv.zero.cs 29) = w16a at *
          generalize (w1a).heap.size = gB at *
          refine wpAnyH_ready (rs := [3, 4]) (by kernel_rfl) (by simp) ?_
          refine AllReadyH.cons (o := _) rfl (fun K hK => ?_) (AllReadyH.cons (o := _) rfl (fun K hK => ?_) AllReadyH.nil)
          · go_simp
            refine (cTo_own w x _ HX0.out B1.out HXW.out).mono ?_
            rintro e w17a ⟨⟨b, rfl, b20, h1, h2⟩, hb⟩
            replace R1 := hid (R1.out.below hb)
            replace X1 := hid (X1.out.below hb)
            replace ZB := hid (ZB.out.below hb)
            replace AM := hid (AM.out.below hb)
            replace B1 := hid (bthen B1.out hb)
            have BM := hid h1.out
            have BMW := hid h2.out
            clear h1 h2 hb
            go_wp2_with fail
            refine hK.out _ _ ⟨R1, X1⟩ (fun hHeld => ?_)
            clear hK K
            try simp only [List.getElem_toArray, List.getElem_cons_zero, List.getElem_cons_succ, Act.put, List.setIfInBounds_toArray, List.set_cons_zero, List.set_cons_succ]
            refine wpAnyH_ready (rs := [4]) (by kernel_rfl) (by simp) ?_
            refine AllReadyH.cons (o := _) rfl (fun K hK => ?_) AllReadyH.nil
            go_simp
            have hzo := ZB.out.lt
            have hr1 := R1.out.lt
            have hx1 := X1.out.lt
            have hb := balloc (Below.refl (w17a).heap.size (w17a)) (.cells Mv.zero.cs 29)
            replace R1 := hid (R1.out.below hb)
            replace X1 := hid (X1.out.below hb)
            replace ZB := hid (ZB.out.below hb)
            replace AM := hid (AM.out.below hb)
            replace BM := hid (BM.out.below hb)
            have hB := B1.out.size
            replace B1 := hid (bthen B1.out hb)
            have ZA := hid (Row.new (w17a) 29 Mv.zero.cs)
            have LZA : Hid (w.heap.size ≤ (w17a).heap.size ∧ g1 < (w17a).heap.size ∧ g2 < (w17a).heap.size) := hid ⟨hB, hr1, hx1⟩
            have HAB : Hid ((w17a).heap.size ≠ gB) := hid (by omega)
            clear hb hB hzo hr1 hx1
            refine hK.out _ _ ⟨R1, X1⟩ (fun hHeld => ?_)
            clear hK K
            try simp only [List.getElem_toArray, List.getElem_cons_zero, List.getElem_cons_succ, Act.put, List.setIfInBounds_toArray, List.set_cons_zero, List.set_cons_succ]
            generalize (w17a).alloc (.cells Mv.zero.cs 29) = w18a at *
            generalize (w17a).heap.size = gA at *
            refine wpAnyH_ready (rs := [6]) (by kernel_rfl) (by simp) ?_
            refine AllReadyH.cons (o := _) rfl (fun K hK => ?_) AllReadyH.nil
            refine step_st rfl 29 _ _ rfl gA a.cs rfl rfl 29 Mv.zero.cs ZA.out (by rw [Mv.size AM.out.ro]; exact m29.info) (by rw [Mv.size adr_zeros, Mv.size AM.out.ro]) (Mv.one _) ?_
            have hgr := grownBy_setRow (w18a) gA a.cs
            have hlw := B1.out.size
            replace R1 := hid (R1.out.rowOther gA a.cs (Nat.ne_of_lt LZA.out.2.1))
            replace X1 := hid (X1.out.rowOther gA a.cs (Nat.ne_of_lt LZA.out.2.2))
            replace AM := hid (AM.out.row ZA.out hgr LZA.out.1 hlw)
            replace BM := hid (BM.out.row ZA.out hgr LZA.out.1 hlw)
            replace B1 := hid (below_setRow' B1.out LZA.out.1 a.cs)
            replace ZB := hid (ZB.out.rowOther gA a.cs (fun e => HAB.out e.symm))
            replace ZA := hid (ZA.out.setRow a.cs)
            clear hgr hlw
            refine hK.out _ _ ⟨R1, X1⟩ (fun hHeld => ?_)
            clear hK K
            try simp only [List.getElem_toArray, List.getElem_cons_zero, List.getElem_cons_succ, Act.put, List.setIfInBounds_toArray, List.set_cons_zero, List.set_cons_succ]
            generalize (w18a).setRow gA a.cs = w19a at *
            refine wpAnyH_ready (rs := [7]) (by kernel_rfl) (by simp) ?_
            refine AllReadyH.cons (o := _) rfl (fun K hK => ?_) AllReadyH.nil
            refine step_st rfl 29 _ _ rfl gB b.cs rfl rfl 29 Mv.zero.cs ZB.out (by rw [Mv.size BM.out.ro]; exact m29.info) (by rw [Mv.size adr_zeros, Mv.size BM.out.ro]) (Mv.one _) ?_
            have hgr := grownBy_setRow (w19a) gB b.cs
            have hlw := B1.out.size
            replace R1 := hid (R1.out.rowOther gB b.cs (Nat.ne_of_lt LZB.out.2.1))
            replace X1 := hid (X1.out.rowOther gB b.cs (Nat.ne_of_lt LZB.out.2.2))
            replace AM := hid (AM.out.row ZB.out hgr LZB.out.1 hlw)
            replace BM := hid (BM.out.row ZB.out hgr LZB.out.1 hlw)
            replace B1 := hid (below_setRow' B1.out LZB.out.1 b.cs)
            replace ZA := hid (ZA.out.rowOther gB b.cs HAB.out)
            replace ZB := hid (ZB.out.setRow b.cs)
            clear hgr hlw
            refine hK.out _ _ ⟨R1, X1⟩ (fun hHeld => ?_)
            clear hK K
            try simp only [List.getElem_toArray, List.getElem_cons_zero, List.getElem_cons_succ, Act.put, List.setIfInBounds_toArray, List.set_cons_zero, List.set_cons_succ]
            refine wpAnyH_done (by kernel_rfl) ?_ _
            go_wp2_with fail
            go_meet
            case rel => exact ⟨gA, gB, a, b, rfl, rfl, a20, b20, ZA, ZB, AM, BM, AMW, BMW, B1⟩
          · go_simp
            have hzo := ZB.out.lt
            have hr1 := R1.out.lt
            have hx1 := X1.out.lt
            have hb := balloc (Below.refl (w16a).heap.size (w16a)) (.cells Mv.zero.cs 29)
            replace R1 := hid (R1.out.below hb)
            replace X1 := hid (X1.out.below hb)
            replace ZB := hid (ZB.out.below hb)
            replace AM := hid (AM.out.below hb)
            have hB := B1.out.size
            replace B1 := hid (bthen B1.out hb)
            have ZA := hid (Row.new (w16a) 29 Mv.zero.cs)
            have LZA : Hid (w.heap.size ≤ (w16a).heap.size ∧ g1 < (w16a).heap.size ∧ g2 < (w16a).heap.size) := hid ⟨hB, hr1, hx1⟩
            have HAB : Hid ((w16a).heap.size ≠ gB) := hid (by omega)
            clear hb hB hzo hr1 hx1
            refine hK.out _ _ ⟨R1, X1⟩ (fun hHeld => ?_)
            clear hK K
            try simp only [List.getElem_toArray, List.getElem_cons_zero, List.getElem_cons_succ, Act.put, List.setIfInBounds_toArray, List.set_cons_zero, List.set_cons_succ]
            generalize (w16a).alloc (.cells Mv.zero.cs 29) = w20a at *
            generalize (w16a).heap.size = gA at *
            refine wpAnyH_ready (rs := [3]) (by kernel_rfl) (by simp) ?_
            refine AllReadyH.cons (o := _) rfl (fun K hK => ?_) AllReadyH.nil
            go_simp
            refine (cTo_own w x _ HX0.out B1.out HXW.out).mono ?_
            rintro e w21a ⟨⟨b, rfl, b20, h1, h2⟩, hb⟩
            replace R1 := hid (R1.out.below hb)
            replace X1 := hid (X1.out.below hb)
            replace ZA := hid (ZA.out.below hb)
            replace ZB := hid (ZB.out.below hb)
            replace AM := hid (AM.out.below hb)
            replace B1 := hid (bthen B1.out hb)
            have BM := hid h1.out
            have BMW := hid h2.out
            clear h1 h2 hb
            go_wp2_with fail
            refine hK.out _ _ ⟨R1, X1⟩ (fun hHeld => ?_)
            clear hK K
            try simp only [List.getElem_toArray, List.getElem_cons_zero, List.getElem_cons_succ, Act.put, List.setIfInBounds_toArray, List.set_cons_zero, List.set_cons_succ]
            refine wpAnyH_ready (rs := [6]) (by kernel_rfl) (by simp) ?_
            refine AllReadyH.cons (o := _) rfl (fun K hK => ?_) AllReadyH.nil
            refine step_st rfl 29 _ _ rfl gA a.cs rfl rfl 29 Mv.zero.cs ZA.out (by rw [Mv.size AM.out.ro]; exact m29.info) (by rw [Mv.size adr_zeros, Mv.size AM.out.ro]) (Mv.one _) ?_
            have hgr := grownBy_setRow (w21a) gA a.cs
            have hlw := B1.out.size
            replace R1 := hid (R1.out.rowOther gA a.cs (Nat.ne_of_lt LZA.out.2.1))
            replace X1 := hid (X1.out.rowOther gA a.cs (Nat.ne_of_lt LZA.out.2.2))
            replace AM := hid (AM.out.row ZA.out hgr LZA.out.1 hlw)
            replace BM := hid (BM.out.row ZA.out hgr LZA.out.1 hlw)
            replace B1 := hid (below_setRow' B1.out LZA.out.1 a.cs)
            replace ZB := hid (ZB.out.rowOther gA a.cs (fun e => HAB.out e.symm))
            replace ZA := hid (ZA.out.setRow a.cs)
            clear hgr hlw
            refine hK.out _ _ ⟨R1, X1⟩ (fun hHeld => ?_)
            clear hK K
            try simp only [List.getElem_toArray, List.getElem_cons_zero, List.getElem_cons_succ, Act.put, List.setIfInBounds_toArray, List.set_cons_zero, List.set_cons_succ]
            generalize (w21a).setRow gA a.cs = w22a at *
            refine wpAnyH_ready (rs := [7]) (by kernel_rfl) (by simp) ?_
            refine AllReadyH.cons (o := _) rfl (fun K hK => ?_) AllReadyH.nil
            refine step_st rfl 29 _ _ rfl gB b.cs rfl rfl 29 Mv.zero.cs ZB.out (by rw [Mv.size BM.out.ro]; exact m29.info) (by rw [Mv.size adr_zeros, Mv.size BM.out.ro]) (Mv.one _) ?_
            have hgr := grownBy_setRow (w22a) gB b.cs
            have hlw := B1.out.size
            replace R1 := hid (R1.out.rowOther gB b.cs (Nat.ne_of_lt LZB.out.2.1))
            replace X1 := hid (X1.out.rowOther gB b.cs (Nat.ne_of_lt LZB.out.2.2))
            replace AM := hid (AM.out.row ZB.out hgr LZB.out.1 hlw)
            replace BM := hid (BM.out.row ZB.out hgr LZB.out.1 hlw)
            replace B1 := hid (below_setRow' B1.out LZB.out.1 b.cs)
            replace ZA := hid (ZA.out.rowOther gB b.cs HAB.out)
            replace ZB := hid (ZB.out.setRow b.cs)
            clear hgr hlw
            refine hK.out _ _ ⟨R1, X1⟩ (fun hHeld => ?_)
            clear hK K
            try simp only [List.getElem_toArray, List.getElem_cons_zero, List.getElem_cons_succ, Act.put, List.setIfInBounds_toArray, List.set_cons_zero, List.set_cons_succ]
            refine wpAnyH_done (by kernel_rfl) ?_ _
            go_wp2_with fail
            go_meet
            case rel => exact ⟨gA, gB, a, b, rfl, rfl, a20, b20, ZA, ZB, AM, BM, AMW, BMW, B1⟩
      · go_simp
        have hr1 := R1.out.lt
        have hx1 := X1.out.lt
        have hb := balloc (Below.refl (w0a).heap.size (w0a)) (.cells Mv.zero.cs 29)
        replace R1 := hid (R1.out.below hb)
        replace X1 := hid (X1.out.below hb)
        have hB := B1.out.size
        replace B1 := hid (bthen B1.out hb)
        have ZA := hid (Row.new (w0a) 29 Mv.zero.cs)
        have LZA : Hid (w.heap.size ≤ (w0a).heap.size ∧ g1 < (w0a).heap.size ∧ g2 < (w0a).heap.size) := hid ⟨hB, hr1, hx1⟩
        clear hb hB hr1 hx1
        refine hK.out _ _ ⟨R1, X1⟩ (fun hHeld => ?_)
        clear hK K
        try simp only [List.getElem_toArray, List.getElem_cons_zero, List.getElem_cons_succ, Act.put, List.setIfInBounds_toArray, List.set_cons_zero, List.set_cons_succ]
        generalize (w0a).alloc (.cells Mv.zero.cs 29) = w23a at *
        generalize (w0a).heap.size = gA at *
        refine wpAnyH_ready (rs := [1, 5]) (by kernel_rfl) (by simp) ?_
        refine AllReadyH.cons (o := _) rfl (fun K hK => ?_) (AllReadyH.cons (o := _) rfl (fun K hK => ?_) AllReadyH.nil)
        · go_simp
          refine (cTo_own w m _ HM0.out B1.out HMW.out).mono ?_
          rintro e w24a ⟨⟨a, rfl, a20, h1, h2⟩, hb⟩
          replace R1 := hid (R1.out.below hb)
          replace X1 := hid (X1.out.below hb)
          replace ZA := hid (ZA.out.below hb)
          replace B1 := hid (bthen B1.out hb)
          have AM := hid h1.out
          have AMW := hid h2.out
          clear h1 h2 hb
          go_wp2_with fail
          refine hK.out _ _ ⟨R1, X1⟩ (fun hHeld => ?_)
          clear hK K
          try simp only [List.getElem_toArray, List.getElem_cons_zero, List.getElem_cons_succ, Act.put, List.setIfInBounds_toArray, List.set_cons_zero, List.set_cons_succ]
          refine wpAnyH_ready (rs := [3, 5]) (by kernel_rfl) (by simp) ?_
          refine AllReadyH.cons (o := _) rfl (fun K hK => ?_) (AllReadyH.cons (o := _) rfl (fun K hK => ?_) AllReadyH.nil)
          · go_simp
            refine (cTo_own w x _ HX0.out B1.out HXW.out).mono ?_
            rintro e w25a ⟨⟨b, rfl, b20, h1, h2⟩, hb⟩
            replace R1 := hid (R1.out.below hb)
            replace X1 := hid (X1.out.below hb)
            replace ZA := hid (ZA.out.below hb)
            replace AM := hid (AM.out.below hb)
            replace B1 := hid (bthen B1.out hb)
            have BM := hid h1.out
            have BMW := hid h2.out
            clear h1 h2 hb
            go_wp2_with fail
            refine hK.out _ _ ⟨R1, X1⟩ (fun hHeld => ?_)
            clear hK K
            try simp only [List.getElem_toArray, List.getElem_cons_zero, List.getElem_cons_succ, Act.put, List.setIfInBounds_toArray, List.set_cons_zero, List.set_cons_succ]
            refine wpAnyH_ready (rs := [5]) (by kernel_rfl) (by simp) ?_
            refine AllReadyH.cons (o := _) rfl (fun K hK => ?_) AllReadyH.nil
            go_simp
            have hzo := ZA.out.lt
            have hr1 := R1.out.lt
            have hx1 := X1.out.lt
            have hb := balloc (Below.refl (w25a).heap.size (w25a)) (.cells Mv.zero.cs 29)
            replace R1 := hid (R1.out.below hb)
            replace X1 := hid (X1.out.below hb)
            replace ZA := hid (ZA.out.below hb)
            replace AM := hid (AM.out.below hb)
            replace BM := hid (BM.out.below hb)
            have hB := B1.out.size
            replace B1 := hid (bthen B1.out hb)
            have ZB := hid (Row.new (w25a) 29 Mv.zero.cs)
            have LZB : Hid (w.heap.size ≤ (w25a).heap.size ∧ g1 < (w25a).heap.size ∧ g2 < (w25a).heap.size) := hid ⟨hB, hr1, hx1⟩
            have HAB : Hid (gA ≠ (w25a).heap.size) := hid (by omega)
            clear hb hB hzo hr1 hx1
            refine hK.out _ _ ⟨R1, X1⟩ (fun hHeld => ?_)
            clear hK K
            try simp only [List.getElem_toArray, List.getElem_cons_zero, List.getElem_cons_succ, Act.put, List.setIfInBounds_toArray, List.set_cons_zero, List.set_cons_succ]
            generalize (w25a).alloc (.cells Mv.zero.cs 29) = w26a at *
            generalize (w25a).heap.size = gB at *
            refine wpAnyH_ready (rs := [6]) (by kernel_rfl) (by simp) ?_
            refine AllReadyH.cons (o := _) rfl (fun K hK => ?_) AllReadyH.nil
            refine step_st rfl 29 _ _ rfl gA a.cs rfl rfl 29 Mv.zero.cs ZA.out (by rw [Mv.size AM.out.ro]; exact m29.info) (by rw [Mv.size adr_zeros, Mv.size AM.out.ro]) (Mv.one _) ?_
            have hgr := grownBy_setRow (w26a) gA a.cs
            have hlw := B1.out.size
            replace R1 := hid (R1.out.rowOther gA a.cs (Nat.ne_of_lt LZA.out.2.1))
            replace X1 := hid (X1.out.rowOther gA a.cs (Nat.ne_of_lt LZA.out.2.2))
            replace AM := hid (AM.out.row ZA.out hgr LZA.out.1 hlw)
            replace BM := hid (BM.out.row ZA.out hgr LZA.out.1 hlw)
            replace B1 := hid (below_setRow' B1.out LZA.out.1 a.cs)
            replace ZB := hid (ZB.out.rowOther gA a.cs (fun e => HAB.out e.symm))
            replace ZA := hid (ZA.out.setRow a.cs)
            clear hgr hlw
            refine hK.out _ _ ⟨R1, X1⟩ (fun hHeld => ?_)
            clear hK K
            try simp only [List.getElem_toArray, List.getElem_cons_zero, List.getElem_cons_succ, Act.put, List.setIfInBounds_toArray, List.set_cons_zero, List.set_cons_succ]
            generalize (w26a).setRow gA a.cs = w27a at *
            refine wpAnyH_ready (rs := [7]) (by kernel_rfl) (by simp) ?_
            refine AllReadyH.cons (o := _) rfl (fun K hK => ?_) AllReadyH.nil
            refine step_st rfl 29 _ _ rfl gB b.cs rfl rfl 29 Mv.zero.cs ZB.out (by rw [Mv.size BM.out.ro]; exact m29.info) (by rw [Mv.size adr_zeros, Mv.size BM.out.ro]) (Mv.one _) ?_
            have hgr := grownBy_setRow (w27a) gB b.cs
            have hlw := B1.out.size
            replace R1 := hid (R1.out.rowOther gB b.cs (Nat.ne_of_lt LZB.out.2.1))
            replace X1 := hid (X1.out.rowOther gB b.cs (Nat.ne_of_lt LZB.out.2.2))
            replace AM := hid (AM.out.row ZB.out hgr LZB.out.1 hlw)
            replace BM := hid (BM.out.row ZB.out hgr LZB.out.1 hlw)
            replace B1 := hid (below_setRow' B1.out LZB.out.1 b.cs)
            replace ZA := hid (ZA.out.rowOther gB b.cs HAB.out)
            replace ZB := hid (ZB.out.setRow b.cs)
            clear hgr hlw
            refine hK.out _ _ ⟨R1, X1⟩ (fun hHeld => ?_)
            clear hK K
            try simp only [List.getElem_toArray, List.getElem_cons_zero, List.getElem_cons_succ, Act.put, List.setIfInBounds_toArray, List.set_cons_zero, List.set_cons_succ]
            refine wpAnyH_done (by kernel_rfl) ?_ _
            go_wp2_with fail
            go_meet
            case rel => exact ⟨gA, gB, a, b, rfl, rfl, a20, b20, ZA, ZB, AM, BM, AMW, BMW, B1⟩
          · go_simp
            have hzo := ZA.out.lt
            have hr1 := R1.out.lt
            have hx1 := X1.out.lt
            have hb := balloc (Below.refl (w24a).heap.size (w24a)) (.cells Mv.zero.cs 29)
            replace R1 := hid (R1.out.below hb)
            replace X1 := hid (X1.out.below hb)
            replace ZA := hid (ZA.out.below hb)
            replace AM := hid (AM.out.below hb)
            have hB := B1.out.size
            replace B1 := hid (bthen B1.out hb)
            have ZB := hid (Row.new (w24a) 29 Mv.zero.cs)
            have LZB : Hid (w.heap.size ≤ (w24a).heap.size ∧ g1 < (w24a).heap.size ∧ g2 < (w24a).heap.size) := hid ⟨hB, hr1, hx1⟩
            have HAB : Hid (gA ≠ (w24a).heap.size) := hid (by omega)
            clear hb hB hzo hr1 hx1
            refine hK.out _ _ ⟨R1, X1⟩ (fun hHeld => ?_)
            clear hK K
            try simp only [List.getElem_toArray, List.getElem_cons_zero, List.getElem_cons_succ, Act.put, List.setIfInBounds_toArray, List.set_cons_zero, List.set_cons_succ]
            generalize (w24a).alloc (.cells Mv.zero.cs 29) = w28a at *
            generalize (w24a).heap.size = gB at *
            refine wpAnyH_ready (rs := [3]) (by kernel_rfl) (by simp) ?_
            refine AllReadyH.cons (o := _) rfl (fun K hK => ?_) AllReadyH.nil
            go_simp
            refine (cTo_own w x _ HX0.out B1.out HXW.out).mono ?_
            rintro e w29a ⟨⟨b, rfl, b20, h1, h2⟩, hb⟩
            replace R1 := hid (R1.out.below hb)
            replace X1 := hid (X1.out.below hb)
            replace ZA := hid (ZA.out.below hb)
            replace ZB := hid (ZB.out.below hb)
            replace AM := hid (AM.out.below hb)
            replace B1 := hid (bthen B1.out hb)
            have BM := hid h1.out
            have BMW := hid h2.out
            clear h1 h2 hb
            go_wp2_with fail
            refine hK.out _ _ ⟨R1, X1⟩ (fun hHeld => ?_)
            clear hK K
            try simp only [List.getElem_toArray, List.getElem_cons_zero, List.getElem_cons_succ, Act.put, List.setIfInBounds_toArray, List.set_cons_zero, List.set_cons_succ]
            refine wpAnyH_ready (rs := [6]) (by kernel_rfl) (by simp) ?_
            refine AllReadyH.cons (o := _) rfl (fun K hK => ?_) AllReadyH.nil
            refine step_st rfl 29 _ _ rfl gA a.cs rfl rfl 29 Mv.zero.cs ZA.out (by rw [Mv.size AM.out.ro]; exact m29.info) (by rw [Mv.size adr_zeros, Mv.size AM.out.ro]) (Mv.one _) ?_
            have hgr := grownBy_setRow (w29a) gA a.cs
            have hlw := B1.out.size
            replace R1 := hid (R1.out.rowOther gA a.cs (Nat.ne_of_lt LZA.out.2.1))
            replace X1 := hid (X1.out.rowOther gA a.cs (Nat.ne_of_lt LZA.out.2.2))
            replace AM := hid (AM.out.row ZA.out hgr LZA.out.1 hlw)
            replace BM := hid (BM.out.row ZA.out hgr LZA.out.1 hlw)
            replace B1 := hid (below_setRow' B1.out LZA.out.1 a.cs)
            replace ZB := hid (ZB.out.rowOther gA a.cs (fun e => HAB.out e.symm))
            replace ZA := hid (ZA.out.setRow a.cs)
            clear hgr hlw
            refine hK.out _ _ ⟨R1, X1⟩ (fun hHeld => ?_)
            clear hK K
            try simp only [List.getElem_toArray, List.getElem_cons_zero, List.getElem_cons_succ, Act.put, List.setIfInBounds_toArray, List.set_cons_zero, List.set_cons_succ]
            generalize (w29a).setRow gA a.cs = w30a at *
            refine wpAnyH_ready (rs := [7]) (by kernel_rfl) (by simp) ?_
            refine AllReadyH.cons (o := _) rfl (fun K hK => ?_) AllReadyH.nil
            refine step_st rfl 29 _ _ rfl gB b.cs rfl rfl 29 Mv.zero.cs ZB.out (by rw [Mv.size BM.out.ro]; exact m29.info) (by rw [Mv.size adr_zeros, Mv.size BM.out.ro]) (Mv.one _) ?_
            have hgr := grownBy_setRow (w30a) gB b.cs
            have hlw := B1.out.size
            replace R1 := hid (R1.out.rowOther gB b.cs (Nat.ne_of_lt LZB.out.2.1))
            replace X1 := hid (X1.out.rowOther gB b.cs (Nat.ne_of_lt LZB.out.2.2))
            replace AM := hid (AM.out.row ZB.out hgr LZB.out.1 hlw)
            replace BM := hid (BM.out.row ZB.out hgr LZB.out.1 hlw)
            replace B1 := hid (below_setRow' B1.out LZB.out.1 b.cs)
            replace ZA := hid (ZA.out.rowOther gB b.cs HAB.out)
            replace ZB := hid (ZB.out.setRow b.cs)
            clear hgr hlw
            refine hK.out _ _ ⟨R1, X1⟩ (fun hHeld => ?_)
            clear hK K
            try simp only [List.getElem_toArray, List.getElem_cons_zero, List.getElem_cons_succ, Act.put, List.setIfInBounds_toArray, List.set_cons_zero, List.set_cons_succ]
            refine wpAnyH_done (by kernel_rfl) ?_ _
            go_wp2_with fail
            go_meet
            case rel => exact ⟨gA, gB, a, b, rfl, rfl, a20, b20, ZA, ZB, AM, BM, AMW, BMW, B1⟩
        · go_simp
          have hzo := ZA.out.lt
          have hr1 := R1.out.lt
          have hx1 := X1.out.lt
          have hb := balloc (Below.refl (w23a).heap.size (w23a)) (.cells Mv.zero.cs 29)
          replace R1 := hid (R1.out.below hb)
          replace X1 := hid (X1.out.below hb)
          replace ZA := hid (ZA.out.below hb)
          have hB := B1.out.size
          replace B1 := hid (bthen B1.out hb)
          have ZB := hid (Row.new (w23a) 29 Mv.zero.cs)
          have LZB : Hid (w.heap.size ≤ (w23a).heap.size ∧ g1 < (w23a).heap.size ∧ g2 < (w23a).heap.size) := hid ⟨hB, hr1, hx1⟩
          have HAB : Hid (gA ≠ (w23a).heap.size) := hid (by omega)
          clear hb hB hzo hr1 hx1
          refine hK.out _ _ ⟨R1, X1⟩ (fun hHeld => ?_)
          clear hK K
          try simp only [List.getElem_toArray, List.getElem_cons_zero, List.getElem_cons_succ, Act.put, List.setIfInBounds_toArray, List.set_cons_zero, List.set_cons_succ]
          generalize (w23a).alloc (.cells Mv.zero.cs 29) = w31a at *
          generalize (w23a).heap.size = gB at *
          refine wpAnyH_ready (rs := [1]) (by kernel_rfl) (by simp) ?_
          refine AllReadyH.cons (o := _) rfl (fun K hK => ?_) AllReadyH.nil
          go_simp
          refine (cTo_own w m _ HM0.out B1.out HMW.out).mono ?_
          rintro e w32a ⟨⟨a, rfl, a20, h1, h2⟩, hb⟩
          replace R1 := hid (R1.out.below hb)
          replace X1 := hid (X1.out.below hb)
          replace ZA := hid (ZA.out.below hb)
          replace ZB := hid (ZB.out.below hb)
          replace B1 := hid (bthen B1.out hb)
          have AM := hid h1.out
          have AMW := hid h2.out
          clear h1 h2 hb
          go_wp2_with fail
          refine hK.out _ _ ⟨R1, X1⟩ (fun hHeld => ?_)
          clear hK K
          try simp only [List.getElem_toArray, List.getElem_cons_zero, List.getElem_cons_succ, Act.put, List.setIfInBounds_toArray, List.set_cons_zero, List.set_cons_succ]
          refine wpAnyH_ready (rs := [3]) (by kernel_rfl) (by simp) ?_
          refine AllReadyH.cons (o := _) rfl (fun K hK => ?_) AllReadyH.nil
          go_simp
          refine (cTo_own w x _ HX0.out B1.out HXW.out).mono ?_
          rintro e w33a ⟨⟨b, rfl, b20, h1, h2⟩, hb⟩
          replace R1 := hid (R1.out.below hb)
          replace X1 := hid (X1.out.below hb)
          replace ZA := hid (ZA.out.below hb)
          replace ZB := hid (ZB.out.below hb)
          replace AM := hid (AM.out.below hb)
          replace B1 := hid (bthen B1.out hb)
          have BM := hid h1.out
          have BMW := hid h2.out
          clear h1 h2 hb
          go_wp2_with fail
          refine hK.out _ _ ⟨R1, X1⟩ (fun hHeld => ?_)
          clear hK K
          try simp only [List.getElem_toArray, List.getElem_cons_zero, List.getElem_cons_succ, Act.put, List.setIfInBounds_toArray, List.set_cons_zero, List.set_cons_succ]
          refine wpAnyH_ready (rs := [6]) (by kernel_rfl) (by simp) ?_
          refine AllReadyH.cons (o := _) rfl (fun K hK => ?_) AllReadyH.nil
          refine step_st rfl 29 _ _ rfl gA a.cs rfl rfl 29 Mv.zero.cs ZA.out (by rw [Mv.size AM.out.ro]; exact m29.info) (by rw [Mv.size adr_zeros, Mv.size AM.out.ro]) (Mv.one _) ?_
          have hgr := grownBy_setRow (w33a) gA a.cs
          have hlw := B1.out.size
          replace R1 := hid (R1.out.rowOther gA a.cs (Nat.ne_of_lt LZA.out.2.1))
          replace X1 := hid (X1.out.rowOther gA a.cs (Nat.ne_of_lt LZA.out.2.2))
          replace AM := hid (AM.out.row ZA.out hgr LZA.out.1 hlw)
          replace BM := hid (BM.out.row ZA.out hgr LZA.out.1 hlw)
          replace B1 := hid (below_setRow' B1.out LZA.out.1 a.cs)
          replace ZB := hid (ZB.out.rowOther gA a.cs (fun e => HAB.out e.symm))
          replace ZA := hid (ZA.out.setRow a.cs)
          clear hgr hlw
          refine hK.out _ _ ⟨R1, X1⟩ (fun hHeld => ?_)
          clear hK K
          try simp only [List.getElem_toArray, List.getElem_cons_zero, List.getElem_cons_succ, Act.put, List.setIfInBounds_toArray, List.set_cons_zero, List.set_cons_succ]
          generalize (w33a).setRow gA a.cs = w34a at *
          refine wpAnyH_ready (rs := [7]) (by kernel_rfl) (by simp) ?_
          refine AllReadyH.cons (o := _) rfl (fun K hK => ?_) AllReadyH.nil
          refine step_st rfl 29 _ _ rfl gB b.cs rfl rfl 29 Mv.zero.cs ZB.out (by rw [Mv.size BM.out.ro]; exact m29.info) (by rw [Mv.size adr_zeros, Mv.size BM.out.ro]) (Mv.one _) ?_
          have hgr := grownBy_setRow (w34a) gB b.cs
          have hlw := B1.out.size
          replace R1 := hid (R1.out.rowOther gB b.cs (Nat.ne_of_lt LZB.out.2.1))
          replace X1 := hid (X1.out.rowOther gB b.cs (Nat.ne_of_lt LZB.out.2.2))
          replace AM := hid (AM.out.row ZB.out hgr LZB.out.1 hlw)
          replace BM := hid (BM.out.row ZB.out hgr LZB.out.1 hlw)
          replace B1 := hid (below_setRow' B1.out LZB.out.1 b.cs)
          replace ZA := hid (ZA.out.rowOther gB b.cs HAB.out)
          replace ZB := hid (ZB.out.setRow b.cs)
          clear hgr hlw
          refine hK.out _ _ ⟨R1, X1⟩ (fun hHeld => ?_)
          clear hK K
          try simp only [List.getElem_toArray, List.getElem_cons_zero, List.getElem_cons_succ, Act.put, List.setIfInBounds_toArray, List.set_cons_zero, List.set_cons_succ]
          refine wpAnyH_done (by kernel_rfl) ?_ _
          go_wp2_with fail
          go_meet
          case rel => exact ⟨gA, gB, a, b, rfl, rfl, a20, b20, ZA, ZB, AM, BM, AMW, BMW, B1⟩
      · go_simp
        have hr1 := R1.out.lt
        have hx1 := X1.out.lt
        have hb := balloc (Below.refl (w0a).heap.size (w0a)) (.cells Mv.zero.cs 29)
        replace R1 := hid (R1.out.below hb)
        replace X1 := hid (X1.out.below hb)
        have hB := B1.out.size
        replace B1 := hid (bthen B1.out hb)
        have ZB := hid (Row.new (w0a) 29 Mv.zero.cs)
        have LZB : Hid (w.heap.size ≤ (w0a).heap.size ∧ g1 < (w0a).heap.size ∧ g2 < (w0a).heap.size) := hid ⟨hB, hr1, hx1⟩
        clear hb hB hr1 hx1
        refine hK.out _ _ ⟨R1, X1⟩ (fun hHeld => ?_)
        clear hK K
        try simp only [List.getElem_toArray, List.getElem_cons_zero, List.getElem_cons_succ, Act.put, List.setIfInBounds_toArray, List.set_cons_zero, List.set_cons_succ]
        generalize (w0a).alloc (.cells Mv.zero.cs 29) = w35a at *
        generalize (w0a).heap.size = gB at *
        refine wpAnyH_ready (rs := [1, 4]) (by kernel_rfl) (by simp) ?_
        refine AllReadyH.cons (o := _) rfl (fun K hK => ?_) (AllReadyH.cons (o := _) rfl (fun K hK => ?_) AllReadyH.nil)
        · go_simp
          refine (cTo_own w m _ HM0.out B1.out HMW.out).mono ?_
          rintro e w36a ⟨⟨a, rfl, a20, h1, h2⟩, hb⟩
          replace R1 := hid (R1.out.below hb)
          replace X1 := hid (X1.out.below hb)
          replace ZB := hid (ZB.out.below hb)
          replace B1 := hid (bthen B1.out hb)
          have AM := hid h1.out
          have AMW := hid h2.out
          clear h1 h2 hb
          go_wp2_with fail
          refine hK.out _ _ ⟨R1, X1⟩ (fun hHeld => ?_)
          clear hK K
          try simp only [List.getElem_toArray, List.getElem_cons_zero, List.getElem_cons_succ, Act.put, List.setIfInBounds_toArray, List.set_cons_zero, List.set_cons_succ]
          refine wpAnyH_ready (rs := [3, 4]) (by kernel_rfl) (by simp) ?_
          refine AllReadyH.cons (o := _) rfl (fun K hK => ?_) (AllReadyH.cons (o := _) rfl (fun K hK => ?_) AllReadyH.nil)
          · go_simp
            refine (cTo_own w x _ HX0.out B1.out HXW.out).mono ?_
            rintro e w37a ⟨⟨b, rfl, b20, h1, h2⟩, hb⟩
            replace R1 := hid (R1.out.below hb)
            replace X1 := hid (X1.out.below hb)
            replace ZB := hid (ZB.out.below hb)
            replace AM := hid (AM.out.below hb)
            replace B1 := hid (bthen B1.out hb)
            have BM := hid h1.out
            have BMW := hid h2.out
            clear h1 h2 hb
            go_wp2_with fail
            refine hK.out _ _ ⟨R1, X1⟩ (fun hHeld => ?_)
            clear hK K
            try simp only [List.getElem_toArray, List.getElem_cons_zero, List.getElem_cons_succ, Act.put, List.setIfInBounds_toArray, List.set_cons_zero, List.set_cons_succ]
            refine wpAnyH_ready (rs := [4]) (by kernel_rfl) (by simp) ?_
            refine AllReadyH.cons (o := _) rfl (fun K hK => ?_) AllReadyH.nil
            go_simp
            have hzo := ZB.out.lt
            have hr1 := R1.out.lt
            have hx1 := X1.out.lt
            have hb := balloc (Below.refl (w37a).heap.size (w37a)) (.cells Mv.zero.cs 29)
            replace R1 := hid (R1.out.below hb)
            replace X1 := hid (X1.out.below hb)
            replace ZB := hid (ZB.out.below hb)
            replace AM := hid (AM.out.below hb)
            replace BM := hid (BM.out.below hb)
            have hB := B1.out.size
            replace B1 := hid (bthen B1.out hb)
            have ZA := hid (Row.new (w37a) 29 Mv.zero.cs)
            have LZA : Hid (w.heap.size ≤ (w37a).heap.size ∧ g1 < (w37a).heap.size ∧ g2 < (w37a).heap.size) := hid ⟨hB, hr1, hx1⟩
            have HAB : Hid ((w37a).heap.size ≠ gB) := hid (by omega)
            clear hb hB hzo hr1 hx1
            refine hK.out _ _ ⟨R1, X1⟩ (fun hHeld => ?_)
            clear hK K
            try simp only [List.getElem_toArray, List.getElem_cons_zero, List.getElem_cons_succ, Act.put, List.setIfInBounds_toArray, List.set_cons_zero, List.set_cons_succ]
            generalize (w37a).alloc (.cells Mv.zero.cs 29) = w38a at *
            generalize (w37a).heap.size = gA at *
            refine wpAnyH_ready (rs := [6]) (by kernel_rfl) (by simp) ?_
            refine AllReadyH.cons (o := _) rfl (fun K hK => ?_) AllReadyH.nil
            refine step_st rfl 29 _ _ rfl gA a.cs rfl rfl 29 Mv.zero.cs ZA.out (by rw [Mv.size AM.out.ro]; exact m29.info) (by rw [Mv.size adr_zeros, Mv.size AM.out.ro]) (Mv.one _) ?_
            have hgr := grownBy_setRow (w38a) gA a.cs
            have hlw := B1.out.size
            replace R1 := hid (R1.out.rowOther gA a.cs (Nat.ne_of_lt LZA.out.2.1))
            replace X1 := hid (X1.out.rowOther gA a.cs (Nat.ne_of_lt LZA.out.2.2))
            replace AM := hid (AM.out.row ZA.out hgr LZA.out.1 hlw)
            replace BM := hid (BM.out.row ZA.out hgr LZA.out.1 hlw)
            replace B1 := hid (below_setRow' B1.out LZA.out.1 a.cs)
            replace ZB := hid (ZB.out.rowOther gA a.cs (fun e => HAB.out e.symm))
            replace ZA := hid (ZA.out.setRow a.cs)
            clear hgr hlw
            refine hK.out _ _ ⟨R1, X1⟩ (fun hHeld => ?_)
            clear hK K
            try simp only [List.getElem_toArray, List.getElem_cons_zero, List.getElem_cons_succ, Act.put, List.setIfInBounds_toArray, List.set_cons_zero, List.set_cons_succ]
            generalize (w38a).setRow gA a.cs = w39a at *
            refine wpAnyH_ready (rs := [7]) (by kernel_rfl) (by simp) ?_
            refine AllReadyH.cons (o := _) rfl (fun K hK => ?_) AllReadyH.nil
            refine step_st rfl 29 _ _ rfl gB b.cs rfl rfl 29 Mv.zero.cs ZB.out (by rw [Mv.size BM.out.ro]; exact m29.info) (by rw [Mv.size adr_zeros, Mv.size BM.out.ro]) (Mv.one _) ?_
            have hgr := grownBy_setRow (w39a) gB b.cs
            have hlw := B1.out.size
            replace R1 := hid (R1.out.rowOther gB b.cs (Nat.ne_of_lt LZB.out.2.1))
            replace X1 := hid (X1.out.rowOther gB b.cs (Nat.ne_of_lt LZB.out.2.2))
            replace AM := hid (AM.out.row ZB.out hgr LZB.out.1 hlw)
            replace BM := hid (BM.out.row ZB.out hgr LZB.out.1 hlw)
            replace B1 := hid (below_setRow' B1.out LZB.out.1 b.cs)
            replace ZA := hid (ZA.out.rowOther gB b.cs HAB.out)
            replace ZB := hid (ZB.out.setRow b.cs)
            clear hgr hlw
            refine hK.out _ _ ⟨R1, X1⟩ (fun hHeld => ?_)
            clear hK K
            try simp only [List.getElem_toArray, List.getElem_cons_zero, List.getElem_cons_succ, Act.put, List.setIfInBounds_toArray, List.set_cons_zero, List.set_cons_succ]
            refine wpAnyH_done (by kernel_rfl) ?_ _
            go_wp2_with fail
            go_meet
            case rel => exact ⟨gA, gB, a, b, rfl, rfl, a20, b20, ZA, ZB, AM, BM, AMW, BMW, B1⟩
          · go_simp
            have hzo := ZB.out.lt
            have hr1 := R1.out.lt
            have hx1 := X1.out.lt
            have hb := balloc (Below.refl (w36a).heap.size (w36a)) (.cells Mv.zero.cs 29)
            replace R1 := hid (R1.out.below hb)
            replace X1 := hid (X1.out.below hb)
            replace ZB := hid (ZB.out.below hb)
            replace AM := hid (AM.out.below hb)
            have hB := B1.out.size
            replace B1 := hid (bthen B1.out hb)
            have ZA := hid (Row.new (w36a) 29 Mv.zero.cs)
            have LZA : Hid (w.heap.size ≤ (w36a).heap.size ∧ g1 < (w36a).heap.size ∧ g2 < (w36a).heap.size) := hid ⟨hB, hr1, hx1⟩
            have HAB : Hid ((w36a).heap.size ≠ gB) := hid (by omega)
            clear hb hB hzo hr1 hx1
            refine hK.out _ _ ⟨R1, X1⟩ (fun hHeld => ?_)
            clear hK K
            try simp only [List.getElem_toArray, List.getElem_cons_zero, List.getElem_cons_succ, Act.put, List.setIfInBounds_toArray, List.set_cons_zero, List.set_cons_succ]
            generalize (w36a).alloc (.cells Mv.zero.cs 29) = w40a at *
            generalize (w36a).heap.size = gA at *
            refine wpAnyH_ready (rs := [3]) (by kernel_rfl) (by simp) ?_
            refine AllReadyH.cons (o := _) rfl (fun K hK => ?_) AllReadyH.nil
            go_simp
            refine (cTo_own w x _ HX0.out B1.out HXW.out).mono ?_
            rintro e w41a ⟨⟨b, rfl, b20, h1, h2⟩, hb⟩
            replace R1 := hid (R1.out.below hb)
            replace X1 := hid (X1.out.below hb)
            replace ZA := hid (ZA.out.below hb)
            replace ZB := hid (ZB.out.below hb)
            replace AM := hid (AM.out.below hb)
            replace B1 := hid (bthen B1.out hb)
            have BM := hid h1.out
            have BMW := hid h2.out
            clear h1 h2 hb
            go_wp2_with fail
            refine hK.out _ _ ⟨R1, X1⟩ (fun hHeld => ?_)
            clear hK K
            try simp only [List.getElem_toArray, List.getElem_cons_zero, List.getElem_cons_succ, Act.put, List.setIfInBounds_toArray, List.set_cons_zero, List.set_cons_succ]
            refine wpAnyH_ready (rs := [6]) (by kernel_rfl) (by simp) ?_
            refine AllReadyH.cons (o := _) rfl (fun K hK => ?_) AllReadyH.nil
            refine step_st rfl 29 _ _ rfl gA a.cs rfl rfl 29 Mv.zero.cs ZA.out (by rw [Mv.size AM.out.ro]; exact m29.info) (by rw [Mv.size adr_zeros, Mv.size AM.out.ro]) (Mv.one _) ?_
            have hgr := grownBy_setRow (w41a) gA a.cs
            have hlw := B1.out.size
            replace R1 := hid (R1.out.rowOther gA a.cs (Nat.ne_of_lt LZA.out.2.1))
            replace X1 := hid (X1.out.rowOther gA a.cs (Nat.ne_of_lt LZA.out.2.2))
            replace AM := hid (AM.out.row ZA.out hgr LZA.out.1 hlw)
            replace BM := hid (BM.out.row ZA.out hgr LZA.out.1 hlw)
            replace B1 := hid (below_setRow' B1.out LZA.out.1 a.cs)
            replace ZB := hid (ZB.out.rowOther gA a.cs (fun e => HAB.out e.symm))
            replace ZA := hid (ZA.out.setRow a.cs)
            clear hgr hlw
            refine hK.out _ _ ⟨R1, X1⟩ (fun hHeld => ?_)
            clear hK K
            try simp only [List.getElem_toArray, List.getElem_cons_zero, List.getElem_cons_succ, Act.put, List.setIfInBounds_toArray, List.set_cons_zero, List.set_cons_succ]
            generalize (w41a).setRow gA a.cs = w42a at *
            refine wpAnyH_ready (rs := [7]) (by kernel_rfl) (by simp) ?_
            refine AllReadyH.cons (o := _) rfl (fun K hK => ?_) AllReadyH.nil
            refine step_st rfl 29 _ _ rfl gB b.cs rfl rfl 29 Mv.zero.cs ZB.out (by rw [Mv.size BM.out.ro]; exact m29.info) (by rw [Mv.size adr_zeros, Mv.size BM.out.ro]) (Mv.one _) ?_
            have hgr := grownBy_setRow (w42a) gB b.cs
            have hlw := B1.out.size
            replace R1 := hid (R1.out.rowOther gB b.cs (Nat.ne_of_lt LZB.out.2.1))
            replace X1 := hid (X1.out.rowOther gB b.cs (Nat.ne_of_lt LZB.out.2.2))
            replace AM := hid (AM.out.row ZB.out hgr LZB.out.1 hlw)
            replace BM := hid (BM.out.row ZB.out hgr LZB.out.1 hlw)
            replace B1 := hid (below_setRow' B1.out LZB.out.1 b.cs)
            replace ZA := hid (ZA.out.rowOther gB b.cs HAB.out)
            replace ZB := hid (ZB.out.setRow b.cs)
            clear hgr hlw
            refine hK.out _ _ ⟨R1, X1⟩ (fun hHeld => ?_)
            clear hK K
            try simp only [List.getElem_toArray, List.getElem_cons_zero, List.getElem_cons_succ, Act.put, List.setIfInBounds_toArray, List.set_cons_zero, List.set_cons_succ]
            refine wpAnyH_done (by kernel_rfl) ?_ _
            go_wp2_with fail
            go_meet
            case rel => exact ⟨gA, gB, a, b, rfl, rfl, a20, b20, ZA, ZB, AM, BM, AMW, BMW, B1⟩
        · go_simp
          have hzo := ZB.out.lt
          have hr1 := R1.out.lt
          have hx1 := X1.out.lt
          have hb := balloc (Below.refl (w35a).heap.size (w35a)) (.cells Mv.zero.cs 29)
          replace R1 := hid (R1.out.below hb)
          replace X1 := hid (X1.out.below hb)
          replace ZB := hid (ZB.out.below hb)
          have hB := B1.out.size
          replace B1 := hid (bthen B1.out hb)
          have ZA := hid (Row.new (w35a) 29 Mv.zero.cs)
          have LZA : Hid (w.heap.size ≤ (w35a).heap.size ∧ g1 < (w35a).heap.size ∧ g2 < (w35a).heap.size) := hid ⟨hB, hr1, hx1⟩
          have HAB : Hid ((w35a).heap.size ≠ gB) := hid (by omega)
          clear hb hB hzo hr1 hx1
          refine hK.out _ _ ⟨R1, X1⟩ (fun hHeld => ?_)
          clear hK K
          try simp only [List.getElem_toArray, List.getElem_cons_zero, List.getElem_cons_succ, Act.put, List.setIfInBounds_toArray, List.set_cons_zero, List.set_cons_succ]
          generalize (w35a).alloc (.cells Mv.zero.cs 29) = w43a at *
          generalize (w35a).heap.size = gA at *
          refine wpAnyH_ready (rs := [1]) (by kernel_rfl) (by simp) ?_
          refine AllReadyH.cons (o := _) rfl (fun K hK => ?_) AllReadyH.nil
          go_simp
          refine (cTo_own w m _ HM0.out B1.out HMW.out).mono ?_
          rintro e w44a ⟨⟨a, rfl, a20, h1, h2⟩, hb⟩
          replace R1 := hid (R1.out.below hb)
          replace X1 := hid (X1.out.below hb)
          replace ZA := hid (ZA.out.below hb)
          replace ZB := hid (ZB.out.below hb)
          replace B1 := hid (bthen B1.out hb)
          have AM := hid h1.out
          have AMW := hid h2.out
          clear h1 h2 hb
          go_wp2_with fail
          refine hK.out _ _ ⟨R1, X1⟩ (fun hHeld => ?_)
          clear hK K
          try simp only [List.getElem_toArray, List.getElem_cons_zero, List.getElem_cons_succ, Act.put, List.setIfInBounds_toArray, List.set_cons_zero, List.set_cons_succ]
          refine wpAnyH_ready (rs := [3]) (by kernel_rfl) (by simp) ?_
          refine AllReadyH.cons (o := _) rfl (fun K hK => ?_) AllReadyH.nil
          go_simp
          refine (cTo_own w x _ HX0.out B1.out HXW.out).mono ?_
          rintro e w45a ⟨⟨b, rfl, b20, h1, h2⟩, hb⟩
          replace R1 := hid (R1.out.below hb)
          replace X1 := hid (X1.out.below hb)
          replace ZA := hid (ZA.out.below hb)
          replace ZB := hid (ZB.out.below hb)
          replace AM := hid (AM.out.below hb)
          replace B1 := hid (bthen B1.out hb)
          have BM := hid h1.out
          have BMW := hid h2.out
          clear h1 h2 hb
          go_wp2_with fail
          refine hK.out _ _ ⟨R1, X1⟩ (fun hHeld => ?_)
          clear hK K
          try simp only [List.getElem_toArray, List.getElem_cons_zero, List.getElem_cons_succ, Act.put, List.setIfInBounds_toArray, List.set_cons_zero, List.set_cons_succ]
          refine wpAnyH_ready (rs := [6]) (by kernel_rfl) (by simp) ?_
          refine AllReadyH.cons (o := _) rfl (fun K hK => ?_) AllReadyH.nil
          refine step_st rfl 29 _ _ rfl gA a.cs rfl rfl 29 Mv.zero.cs ZA.out (by rw [Mv.size AM.out.ro]; exact m29.info) (by rw [Mv.size adr_zeros, Mv.size AM.out.ro]) (Mv.one _) ?_
          have hgr := grownBy_setRow (w45a) gA a.cs
          have hlw := B1.out.size
          replace R1 := hid (R1.out.rowOther gA a.cs (Nat.ne_of_lt LZA.out.2.1))
          replace X1 := hid (X1.out.rowOther gA a.cs (Nat.ne_of_lt LZA.out.2.2))
          replace AM := hid (AM.out.row ZA.out hgr LZA.out.1 hlw)
          replace BM := hid (BM.out.row ZA.out hgr LZA.out.1 hlw)
          replace B1 := hid (below_setRow' B1.out LZA.out.1 a.cs)
          replace ZB := hid (ZB.out.rowOther gA a.cs (fun e => HAB.out e.symm))
          replace ZA := hid (ZA.out.setRow a.cs)
          clear hgr hlw
          refine hK.out _ _ ⟨R1, X1⟩ (fun hHeld => ?_)
          clear hK K
          try simp only [List.getElem_toArray, List.getElem_cons_zero, List.getElem_cons_succ, Act.put, List.setIfInBounds_toArray, List.set_cons_zero, List.set_cons_succ]
          generalize (w45a).setRow gA a.cs = w46a at *
          refine wpAnyH_ready (rs := [7]) (by kernel_rfl) (by simp) ?_
          refine AllReadyH.cons (o := _) rfl (fun K hK => ?_) AllReadyH.nil
          refine step_st rfl 29 _ _ rfl gB b.cs rfl rfl 29 Mv.zero.cs ZB.out (by rw [Mv.size BM.out.ro]; exact m29.info) (by rw [Mv.size adr_zeros, Mv.size BM.out.ro]) (Mv.one _) ?_
          have hgr := grownBy_setRow (w46a) gB b.cs
          have hlw := B1.out.size
          replace R1 := hid (R1.out.rowOther gB b.cs (Nat.ne_of_lt LZB.out.2.1))
          replace X1 := hid (X1.out.rowOther gB b.cs (Nat.ne_of_lt LZB.out.2.2))
          replace AM := hid (AM.out.row ZB.out hgr LZB.out.1 hlw)
          replace BM := hid (BM.out.row ZB.out hgr LZB.out.1 hlw)
          replace B1 := hid (below_setRow' B1.out LZB.out.1 b.cs)
          replace ZA := hid (ZA.out.rowOther gB b.cs HAB.out)
          replace ZB := hid (ZB.out.setRow b.cs)
          clear hgr hlw
          refine hK.out _ _ ⟨R1, X1⟩ (fun hHeld => ?_)
          clear hK K
          try simp only [List.getElem_toArray, List.getElem_cons_zero, List.getElem_cons_succ, Act.put, List.setIfInBounds_toArray, List.set_cons_zero, List.set_cons_succ]
          refine wpAnyH_done (by kernel_rfl) ?_ _
          go_wp2_with fail
          go_meet
          case rel => exact ⟨gA, gB, a, b, rfl, rfl, a20, b20, ZA, ZB, AM, BM, AMW, BMW, B1⟩
  case rest =>
    obtain ⟨gA, gB, a, b, rfl, rfl, a20, b20, RA, RB, AM, BM, AW, BW, B⟩ := hcut
    clear HA HX
    have HA := hid AM.out.ro
    have HX := hid BM.out.ro
    have AO := hid AM.out.ok
    have BO := hid BM.out.ok
    have V := hid (V0.out.below B.out)
    have hBs := B.out.size
    clear R1 X1 B1 HM0 HX0 HMW HXW AM BM BW V0 hz
    have HEL := hid (eL_oct AO.out)
    have HBT := hid (fun he => back_trip a.p he HA.out.1 HEL.out (fun q hq => by obtain ⟨o, ho, rfl⟩ := List.mem_map.1 hq; exact (AO.out.o.ok o ho).ad.1))
    have HLe := hid (eL_le a.p)
    have HEb : Hid (True) := trivial
    have HLb : Hid (True) := trivial
    generalize hsb : sameM a.p b.p = sb at *
    have HSB := hid hsb
    have hss : (sb != sb) = false := by cases sb <;> rfl
    clear hsb
    go_wp2_with (refine ldM m29 _ rfl rfl _ _ rfl a HA.out RA.out.part ?_)
    refine (cOf_any a _ AO.out (by omega)).mono ?_
    rintro e w2 ⟨⟨a1, c1, rfl, hO⟩, hb⟩
    have PO := hid hO.out
    replace RA := hid (RA.out.below hb)
    replace RB := hid (RB.out.below hb)
    replace AO := hid (AO.out.below hb)
    replace BO := hid (BO.out.below hb)
    replace V := hid (V.out.below hb)
    replace B := hid (bthen B.out hb)
    clear hb hO
    go_wp2_with fail
    refine (refCheckM_any (a.opt a1 a.on c1 a.L) _ PO.out AW.out (by show a.on ≤ 1000; omega)).mono ?_
    rintro e w3 ⟨rfl, hb⟩
    rw [show (a.opt a1 a.on c1 a.L).p = a.p from rfl]
    replace RA := hid (RA.out.below hb)
    replace RB := hid (RB.out.below hb)
    replace AO := hid (AO.out.below hb)
    replace BO := hid (BO.out.below hb)
    replace V := hid (V.out.below hb)
    replace B := hid (bthen B.out hb)
    clear hb PO
    generalize hcc : chkM a.p = c at *
    have HC := hid hcc
    have hcs : (c != c) = false := by simp
    clear hcc
    go_wp2_with (refine ldM m29 _ rfl rfl _ _ rfl a HA.out RA.out.part ?_)
    refine (cEncode_any a _ AO.out V.out (by omega)).mono ?_
    rintro e w4 ⟨⟨v8, rfl, hown⟩, hb⟩
    obtain ⟨ea, ec, rfl, hl8, _⟩ := owns_lies hown.out
    have O8 := hid hown.out
    replace RA := hid (RA.out.below hb)
    replace RB := hid (RB.out.below hb)
    replace AO := hid (AO.out.below hb)
    replace BO := hid (BO.out.below hb)
    replace V := hid (V.out.below hb)
    replace B := hid (bthen B.out hb)
    clear hb hown hl8
    go_upto_region 4 with fail
    generalize w4 = wc at *
    refine wp_region_held_drew (S := fun w' => Hid (Row w' gA 29 a.cs) ∧ Hid (Row w' gB 29 b.cs)) (by kernel_rfl) ?_ (fun hHeld => ?_)
    · exact ⟨RA, RB⟩
    have hb : Below wc.heap.size wc wc.drew := bdrew (Below.refl _ _) 1
    replace RA := hid (RA.out.below hb)
    replace RB := hid (RB.out.below hb)
    replace AO := hid (AO.out.below hb)
    replace BO := hid (BO.out.below hb)
    replace V := hid (V.out.below hb)
    replace O8 := hid (own_below O8.out hb)
    replace B := hid (bthen B.out hb)
    clear hb
    generalize wc.drew = w40 at *
    refine wpAnyH_take (i := 0) (oi := _) (v := .agg a.cs) rfl (by kernel_rfl) (by kernel_rfl) (by kernel_rfl) (fun _ _ _ h => h) (yldM m29 (by rfl) _ rfl gA 0 rfl a HA.out (fun w h => h.1.out.part)) (by assumption) ?_
    try simp only [List.getElem_toArray, List.getElem_cons_zero, List.getElem_cons_succ, Act.put, List.setIfInBounds_toArray, List.set_cons_zero, List.set_cons_succ]
    refine wpAnyH_take (i := 2) (oi := _) (v := ?vaq1x2) rfl (by kernel_rfl) (by kernel_rfl) (by kernel_rfl) (fun _ _ _ h => h) (Or.inl ⟨by rfl, ?hyaq1x2⟩) (by assumption) ?restaq1x2
    case hyaq1x2 => (intro w hSw; (try dsimp only at hSw); go_split_ands; go_simp; try (with_reducible rfl))
    try simp only [List.getElem_toArray, List.getElem_cons_zero, List.getElem_cons_succ, Act.put, List.setIfInBounds_toArray, List.set_cons_zero, List.set_cons_succ]
    refine wpAnyH_ready (rs := [1]) (by kernel_rfl) (by simp) ?_
    refine AllReadyH.cons (o := _) rfl (fun K hK => ?_) AllReadyH.nil
    go_simp
    refine (cCheck_any a _ AO.out V.out (by omega)).mono ?_
    rintro e w41 ⟨rfl, hb⟩
    replace RA := hid (RA.out.below hb)
    replace RB := hid (RB.out.below hb)
    replace AO := hid (AO.out.below hb)
    replace BO := hid (BO.out.below hb)
    replace V := hid (V.out.below hb)
    replace O8 := hid (own_below O8.out hb)
    replace B := hid (bthen B.out hb)
    rw [HC.out]
    clear hb
    go_wp2_with fail
    refine hK.out _ _ ⟨RA, RB⟩ (fun hHeld => ?_)
    clear hK K
    try simp only [List.getElem_toArray, List.getElem_cons_zero, List.getElem_cons_succ, Act.put, List.setIfInBounds_toArray, List.set_cons_zero, List.set_cons_succ]
    refine wpAnyH_take (i := 3) (oi := _) (v := ?vbq1x3) rfl (by kernel_rfl) (by kernel_rfl) (by kernel_rfl) (fun _ _ _ h => h) (Or.inl ⟨by rfl, ?hybq1x3⟩) (by assumption) ?restbq1x3
    case hybq1x3 => (intro w hSw; (try dsimp only at hSw); go_split_ands; go_simp; try (with_reducible rfl))
    try simp only [List.getElem_toArray, List.getElem_cons_zero, List.getElem_cons_succ, Act.put, List.setIfInBounds_toArray, List.set_cons_zero, List.set_cons_succ]
    refine wpAnyH_take (i := 4) (oi := _) (v := ?vbq1x4) rfl (by kernel_rfl) (by kernel_rfl) (by kernel_rfl) (fun _ _ _ h => h) (Or.inl ⟨by rfl, ?hybq1x4⟩) (by assumption) ?restbq1x4
    case hybq1x4 => (intro w hSw; (try dsimp only at hSw); go_split_ands; go_simp; try (with_reducible rfl))
    try simp only [List.getElem_toArray, List.getElem_cons_zero, List.getElem_cons_succ, Act.put, List.setIfInBounds_toArray, List.set_cons_zero, List.set_cons_succ]
    refine wpAnyH_take (i := 5) (oi := _) (v := .agg a.cs) rfl (by kernel_rfl) (by kernel_rfl) (by kernel_rfl) (fun _ _ _ h => h) (yldM m29 (by rfl) _ rfl gA 0 rfl a HA.out (fun w h => h.1.out.part)) (by assumption) ?_
    try simp only [List.getElem_toArray, List.getElem_cons_zero, List.getElem_cons_succ, Act.put, List.setIfInBounds_toArray, List.set_cons_zero, List.set_cons_succ]
    refine wpAnyH_take (i := 6) (oi := _) (v := .agg b.cs) rfl (by kernel_rfl) (by kernel_rfl) (by kernel_rfl) (fun _ _ _ h => h) (yldM m29 (by rfl) _ rfl gB 0 rfl b HX.out (fun w h => h.2.out.part)) (by assumption) ?_
    try simp only [List.getElem_toArray, List.getElem_cons_zero, List.getElem_cons_succ, Act.put, List.setIfInBounds_toArray, List.set_cons_zero, List.set_cons_succ]
    refine wpAnyH_take (i := 8) (oi := _) (v := .agg a.cs) rfl (by kernel_rfl) (by kernel_rfl) (by kernel_rfl) (fun _ _ _ h => h) (yldM m29 (by rfl) _ rfl gA 0 rfl a HA.out (fun w h => h.1.out.part)) (by assumption) ?_
    try simp only [List.getElem_toArray, List.getElem_cons_zero, List.getElem_cons_succ, Act.put, List.setIfInBounds_toArray, List.set_cons_zero, List.set_cons_succ]
    refine wpAnyH_take (i := 10) (oi := _) (v := .agg b.cs) rfl (by kernel_rfl) (by kernel_rfl) (by kernel_rfl) (fun _ _ _ h => h) (yldM m29 (by rfl) _ rfl gB 0 rfl b HX.out (fun w h => h.2.out.part)) (by assumption) ?_
    try simp only [List.getElem_toArray, List.getElem_cons_zero, List.getElem_cons_succ, Act.put, List.setIfInBounds_toArray, List.set_cons_zero, List.set_cons_succ]
    refine wpAnyH_ready (rs := [7]) (by kernel_rfl) (by simp) ?_
    refine AllReadyH.cons (o := _) rfl (fun K hK => ?_) AllReadyH.nil
    go_simp
    refine (cSame_any a b _ AO.out BO.out).mono ?_
    rintro e w42 ⟨rfl, hb⟩
    replace RA := hid (RA.out.below hb)
    replace RB := hid (RB.out.below hb)
    replace AO := hid (AO.out.below hb)
    replace BO := hid (BO.out.below hb)
    replace V := hid (V.out.below hb)
    replace O8 := hid (own_below O8.out hb)
    replace B := hid (bthen B.out hb)
    rw [HSB.out]
    clear hb
    go_wp2_with fail
    refine hK.out _ _ ⟨RA, RB⟩ (fun hHeld => ?_)
    clear hK K
    try simp only [List.getElem_toArray, List.getElem_cons_zero, List.getElem_cons_succ, Act.put, List.setIfInBounds_toArray, List.set_cons_zero, List.set_cons_succ]
    refine wpAnyH_ready (rs := [9]) (by kernel_rfl) (by simp) ?_
    refine AllReadyH.cons (o := _) rfl (fun K hK => ?_) AllReadyH.nil
    go_simp
    refine (cOf_any a _ AO.out (by omega)).mono ?_
    rintro e w43 ⟨⟨a3, c3, rfl, hO⟩, hb⟩
    replace RA := hid (RA.out.below hb)
    replace RB := hid (RB.out.below hb)
    replace AO := hid (AO.out.below hb)
    replace BO := hid (BO.out.below hb)
    replace V := hid (V.out.below hb)
    replace O8 := hid (own_below O8.out hb)
    replace B := hid (bthen B.out hb)
    have PO := hid hO.out
    clear hO
    clear hb
    go_wp2_with fail
    refine hK.out _ _ ⟨RA, RB⟩ (fun hHeld => ?_)
    clear hK K
    try simp only [List.getElem_toArray, List.getElem_cons_zero, List.getElem_cons_succ, Act.put, List.setIfInBounds_toArray, List.set_cons_zero, List.set_cons_succ]
    refine wpAnyH_ready (rs := [11]) (by kernel_rfl) (by simp) ?_
    refine AllReadyH.cons (o := _) rfl (fun K hK => ?_) AllReadyH.nil
    go_simp
    refine (cOf_any b _ BO.out (by omega)).mono ?_
    rintro e w44 ⟨⟨a4, c4, rfl, hO⟩, hb⟩
    replace RA := hid (RA.out.below hb)
    replace RB := hid (RB.out.below hb)
    replace AO := hid (AO.out.below hb)
    replace BO := hid (BO.out.below hb)
    replace V := hid (V.out.below hb)
    replace PO := hid (PO.out.below hb)
    replace O8 := hid (own_below O8.out hb)
    replace B := hid (bthen B.out hb)
    have QO := hid hO.out
    clear hO
    clear hb
    go_wp2_with fail
    refine hK.out _ _ ⟨RA, RB⟩ (fun hHeld => ?_)
    clear hK K
    try simp only [List.getElem_toArray, List.getElem_cons_zero, List.getElem_cons_succ, Act.put, List.setIfInBounds_toArray, List.set_cons_zero, List.set_cons_succ]
    refine wpAnyH_ready (rs := [12]) (by kernel_rfl) (by simp) ?_
    refine AllReadyH.cons (o := _) rfl (fun K hK => ?_) AllReadyH.nil
    go_simp
    refine (refSameM_any (a.opt a3 a.on c3 a.L) (b.opt a4 b.on c4 b.L) _ PO.out QO.out).mono ?_
    rintro e w45 ⟨rfl, hb⟩
    replace RA := hid (RA.out.below hb)
    replace RB := hid (RB.out.below hb)
    replace AO := hid (AO.out.below hb)
    replace BO := hid (BO.out.below hb)
    replace V := hid (V.out.below hb)
    replace O8 := hid (own_below O8.out hb)
    replace B := hid (bthen B.out hb)
    rw [show (a.opt a3 a.on c3 a.L).p = a.p from rfl, show (b.opt a4 b.on c4 b.L).p = b.p from rfl, HSB.out]
    clear PO QO
    clear hb
    go_wp2_with fail
    refine hK.out _ _ ⟨RA, RB⟩ (fun hHeld => ?_)
    clear hK K
    try simp only [List.getElem_toArray, List.getElem_cons_zero, List.getElem_cons_succ, Act.put, List.setIfInBounds_toArray, List.set_cons_zero, List.set_cons_succ]
    refine wpAnyH_take (i := 13) (oi := _) (v := ?vcq1x13) rfl (by kernel_rfl) (by kernel_rfl) (by kernel_rfl) (fun _ _ _ h => h) (Or.inl ⟨by rfl, ?hycq1x13⟩) (by assumption) ?restcq1x13
    case hycq1x13 => (intro w hSw; (try dsimp only at hSw); go_split_ands; go_simp; try (with_reducible rfl))
    try simp only [List.getElem_toArray, List.getElem_cons_zero, List.getElem_cons_succ, Act.put, List.setIfInBounds_toArray, List.set_cons_zero, List.set_cons_succ]
    refine wpAnyH_take (i := 14) (oi := _) (v := ?vcq1x14) rfl (by kernel_rfl) (by kernel_rfl) (by kernel_rfl) (fun _ _ _ h => h) (Or.inl ⟨by rfl, ?hycq1x14⟩) (by assumption) ?restcq1x14
    case hycq1x14 => (intro w hSw; (try dsimp only at hSw); go_split_ands; go_simp; try (with_reducible rfl))
    try simp only [List.getElem_toArray, List.getElem_cons_zero, List.getElem_cons_succ, Act.put, List.setIfInBounds_toArray, List.set_cons_zero, List.set_cons_succ]
    refine wpAnyH_take (i := 15) (oi := _) (v := ?vcq1x15) rfl (by kernel_rfl) (by kernel_rfl) (by kernel_rfl) (fun _ _ _ h => h) (Or.inl ⟨by rfl, ?hycq1x15⟩) (by assumption) ?restcq1x15
    case hycq1x15 => (intro w hSw; (try dsimp only at hSw); go_split_ands; go_simp; try (with_reducible rfl))
    try simp only [List.getElem_toArray, List.getElem_cons_zero, List.getElem_cons_succ, Act.put, List.setIfInBounds_toArray, List.set_cons_zero, List.set_cons_succ]
    refine wpAnyH_take (i := 16) (oi := _) (v := .agg a.cs) rfl (by kernel_rfl) (by kernel_rfl) (by kernel_rfl) (fun _ _ _ h => h) (yldM m29 (by rfl) _ rfl gA 0 rfl a HA.out (fun w h => h.1.out.part)) (by assumption) ?_
    try simp only [List.getElem_toArray, List.getElem_cons_zero, List.getElem_cons_succ, Act.put, List.setIfInBounds_toArray, List.set_cons_zero, List.set_cons_succ]
    refine wpAnyH_take (i := 17) (oi := _) (v := .agg a.cs) rfl (by kernel_rfl) (by kernel_rfl) (by kernel_rfl) (fun _ _ _ h => h) (yldM m29 (by rfl) _ rfl gA 0 rfl a HA.out (fun w h => h.1.out.part)) (by assumption) ?_
    try simp only [List.getElem_toArray, List.getElem_cons_zero, List.getElem_cons_succ, Act.put, List.setIfInBounds_toArray, List.set_cons_zero, List.set_cons_succ]
    refine wpAnyH_ready (rs := [18]) (by kernel_rfl) (by simp) ?_
    refine AllReadyH.cons (o := _) rfl (fun K hK => ?_) AllReadyH.nil
    go_simp
    refine (cSame_any a a _ AO.out AO.out).mono ?_
    rintro e w46 ⟨rfl, hb⟩
    replace RA := hid (RA.out.below hb)
    replace RB := hid (RB.out.below hb)
    replace AO := hid (AO.out.below hb)
    replace BO := hid (BO.out.below hb)
    replace V := hid (V.out.below hb)
    replace O8 := hid (own_below O8.out hb)
    replace B := hid (bthen B.out hb)
    rw [sameMs]
    clear hb
    go_wp2_with fail
    refine hK.out _ _ ⟨RA, RB⟩ (fun hHeld => ?_)
    clear hK K
    try simp only [List.getElem_toArray, List.getElem_cons_zero, List.getElem_cons_succ, Act.put, List.setIfInBounds_toArray, List.set_cons_zero, List.set_cons_succ]
    refine wpAnyH_take (i := 19) (oi := _) (v := ?vdq1x19) rfl (by kernel_rfl) (by kernel_rfl) (by kernel_rfl) (fun _ _ _ h => h) (Or.inl ⟨by rfl, ?hydq1x19⟩) (by assumption) ?restdq1x19
    case hydq1x19 => (intro w hSw; (try dsimp only at hSw); go_split_ands; go_simp; try (with_reducible rfl))
    try simp only [List.getElem_toArray, List.getElem_cons_zero, List.getElem_cons_succ, Act.put, List.setIfInBounds_toArray, List.set_cons_zero, List.set_cons_succ]
    refine wpAnyH_take (i := 20) (oi := _) (v := ?vdq1x20) rfl (by kernel_rfl) (by kernel_rfl) (by kernel_rfl) (fun _ _ _ h => h) (Or.inl ⟨by rfl, ?hydq1x20⟩) (by assumption) ?restdq1x20
    case hydq1x20 => (intro w hSw; (try dsimp only at hSw); go_split_ands; go_simp; try (with_reducible rfl))
    try simp only [List.getElem_toArray, List.getElem_cons_zero, List.getElem_cons_succ, Act.put, List.setIfInBounds_toArray, List.set_cons_zero, List.set_cons_succ]
    refine wpAnyH_done (by kernel_rfl) ?_ _
    by_cases hc : c = 0
    · subst hc
      clear HEb hcs hss
      go_wp2_with (refine ldM m29 _ rfl rfl _ _ rfl a HA.out RA.out.part ?_)
      refine (cOf_any a _ AO.out (by omega)).mono ?_
      rintro e w5 ⟨⟨a1, c1, rfl, hO⟩, hb⟩
      have PO := hid hO.out
      replace RA := hid (RA.out.below hb)
      replace RB := hid (RB.out.below hb)
      replace AO := hid (AO.out.below hb)
      replace BO := hid (BO.out.below hb)
      replace V := hid (V.out.below hb)
      replace B := hid (bthen B.out hb)
      replace O8 := hid (own_below O8.out hb)
      clear hb hO
      go_wp2_with fail
      refine (refEncodeM_any (a.opt a1 a.on c1 a.L) _ PO.out AW.out (by show a.on ≤ 1000; omega) HC.out).mono ?_
      rintro e w6 ⟨⟨v10, rfl, hown⟩, hb⟩
      rw [show (a.opt a1 a.on c1 a.L).p = a.p from rfl] at hown ⊢
      obtain ⟨ra, rc, rfl, _, _⟩ := owns_lies hown.out
      have O10 := hid hown.out
      replace RA := hid (RA.out.below hb)
      replace RB := hid (RB.out.below hb)
      replace AO := hid (AO.out.below hb)
      replace BO := hid (BO.out.below hb)
      replace V := hid (V.out.below hb)
      replace B := hid (bthen B.out hb)
      replace O8 := hid (own_below O8.out hb)
      clear hb hown PO
      have HL8 : Hid (Lies .u8 w6 ea (eL a.p).length ec (eL a.p)) := by
        obtain ⟨a9, k9, e9, h9, _⟩ := owns_lies O8.out
        cases e9
        exact h9
      have HL10 : Hid (Lies .u8 w6 ra (eL a.p).length rc (eL a.p)) := by
        obtain ⟨a9, k9, e9, h9, _⟩ := owns_lies O10.out
        cases e9
        exact h9
      have hll := HLe.out
      generalize hel : eL a.p = l at *
      have HLE := hid hel
      clear hel
      generalize hn : l.length = n at *
      generalize her : eE a.p = er at *
      have hee : (er != er) = false := by simp
      clear her O8 O10 HLe
      go_wp2_with fail
      refine (same_any ea ra n ec n rc l l _ HL8.out HL10.out).mono ?_
      rintro e w7 ⟨rfl, q, rfl⟩
      rw [beq_self_eq_true]
      have hb : Below w6.heap.size w6 (w6.drewN q) := bdrew (Below.refl _ _) q
      replace RA := hid (RA.out.below hb)
      replace RB := hid (RB.out.below hb)
      replace AO := hid (AO.out.below hb)
      replace BO := hid (BO.out.below hb)
      replace V := hid (V.out.below hb)
      replace B := hid (bthen B.out hb)
      replace HL8 := hid (HL8.out.below hb)
      clear hb HL10
      generalize w6.drewN q = w7 at *
      by_cases he : er = 0
      · have HD := hid (HBT.out he)
        subst he
        clear HBT hee
        have c0 := (RA.out.cell 0).trans a.at0
        go_wp2_with fail
        refine (cDecode_any a.c ea n ec l _ HL8.out HEL.out (by omega) V.out).mono ?_
        rintro e w8 ⟨m3, rfl, hm3, hp3, hb3⟩
        rw [show dE a.c l = 0 from HD.out.1]
        have HP3 : Hid (m3.p = a.p) := by rw [Hid, hp3.out]; exact HD.out.2
        have hb := hb3.out
        have M3 := hid (MOwn.ok hm3.out)
        have H3 := hid hm3.out.ro
        replace RA := hid (RA.out.below hb)
        replace RB := hid (RB.out.below hb)
        replace AO := hid (AO.out.below hb)
        replace BO := hid (BO.out.below hb)
        replace V := hid (V.out.below hb)
        replace B := hid (bthen B.out hb)
        clear hb hb3 hm3 hp3 HL8 c0
        have hz := zmv
        have R3 := hid (layM_new w8 29 m3)
        have hb := layM_below w8 29 m3
        replace RA := hid (RA.out.below hb)
        replace RB := hid (RB.out.below hb)
        replace AO := hid (AO.out.below hb)
        replace BO := hid (BO.out.below hb)
        replace V := hid (V.out.below hb)
        replace B := hid (bthen B.out hb)
        replace M3 := hid (M3.out.below hb)
        clear hb
        go_upto_region 14 with (refine stM m29 _ _ rfl rfl w8.heap.size m3 H3.out rfl rfl 29 Mv.zero adr_zeros (Row.new w8 29 _) ?_)
        generalize (w8.alloc (.cells Mv.zero.cs 29)).setRow w8.heap.size m3.cs = w9 at *
        generalize w8.heap.size = g3 at *
        clear hz
        go_wp2_with fail
        refine (cLawKnown_any _ V.out).mono ?_
        rintro e wk ⟨rfl, hb⟩
        replace RA := hid (RA.out.below hb)
        replace RB := hid (RB.out.below hb)
        replace AO := hid (AO.out.below hb)
        replace BO := hid (BO.out.below hb)
        replace V := hid (V.out.below hb)
        replace B := hid (bthen B.out hb)
        replace M3 := hid (M3.out.below hb)
        replace R3 := hid (R3.out.below hb)
        clear hb
        go_wp2_with (first | (refine ldM m29 _ rfl rfl g3 0 rfl m3 H3.out R3.out.part ?_) | (refine ldM m29 _ rfl rfl gA 0 rfl a HA.out RA.out.part ?_))
        refine (cSame_any m3 a _ M3.out AO.out).mono ?_
        rintro e wz ⟨rfl, hb⟩
        rw [HP3.out, sameMs]
        replace B := hid (bthen B.out hb)
        clear hb
        go_wp2_with fail
        go_ret
        exact ⟨rfl, B.out⟩
      · have heb : (er != 0) = true := bne_iff_ne.2 he
        clear he
        go_wp2_with fail
        refine (cLawKnown_any _ V.out).mono ?_
        rintro e wk ⟨rfl, hb⟩
        replace B := hid (bthen B.out hb)
        clear hb
        go_wp2_with fail
        go_ret
        exact ⟨rfl, B.out⟩
    · have hcb : (c != 0) = true := bne_iff_ne.2 hc
      have hck : chkM a.p ≠ 0 := by rw [HC.out]; exact hc
      have HE : Hid (eE a.p = c) := hid ((eE_bad hck).trans HC.out)
      have HL : Hid (eL a.p = []) := hid (eL_bad (by rw [HE.out]; exact hc))
      rw [HE.out, HL.out, List.length_nil]
      have hcq : (c == c) = true := by simp
      clear hc hck hcs HEb HLb HBT HEL HLe O8
      go_wp2_with fail
      refine (cLawKnown_any _ V.out).mono ?_
      rintro e wk ⟨rfl, hb⟩
      replace B := hid (bthen B.out hb)
      clear hb
      go_wp2_with fail
      go_ret
      exact ⟨rfl, B.out⟩
end Go.Proofs.YtbfjkhafdkhhmaaDoor
