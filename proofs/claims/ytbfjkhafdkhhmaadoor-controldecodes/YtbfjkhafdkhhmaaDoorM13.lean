/- Reading: next, a pad. · Reading: next, what its inner reader is. -/
import Derived.Test.YtbfjkhafdkhhmaaDoorM12
namespace Go.Proofs.YtbfjkhafdkhhmaaDoor
open Go.ChangeShapes Go.WideShapes Go.ChangeAt Go.RowKit Go.Deep
set_option linter.unusedVariables false
set_option linter.unusedSimpArgs false

set_option maxRecDepth 100000 in
set_option maxHeartbeats 1600000 in
theorem next_pad {B base : Nat} (w w0 : World) (p c : Nat) (a : Option Addr) (len cap : Nat) (l : List Int) (at_ : Nat) (gv : Value) (L : List Ov) (h : NxAt base w w0 p c a len cap l at_ 0 gv L) (hV : Vars B w0) (hB : B ≤ base) (hat : at_ < len) (hL : L.length ≤ 16) (h16 : ¬ L.length = 16) (hk : nxK (l.drop at_) = 0) :
    Calls Tryd.prog 99 #[.pointer (some ⟨p, 0, none⟩)] w0 fun e w' => e = .returned (.tuple #[]) ∧ Hid (NxOk base w w' p c a len cap l at_ L) := by
  obtain ⟨ga, gc, rfl⟩ := owns_len h.got
  have H := hid h
  have HV := hid hV
  have p0 := h.r.cell 0
  have p1 := h.r.cell 1
  simp only [List.getElem?_toArray, List.getElem?_cons_zero, List.getElem?_cons_succ] at p0 p1
  have hlen := h.cur.lies.1
  have HE : Hid (nxE L.length (l.drop at_) = chkP ⟨0, [], zeros, []⟩) := by rw [Hid, nxE, if_neg h16, if_neg (by rw [hk]; decide), if_pos hk, nxP, if_pos hk]
  have HK0 := hid hk
  clear hk
  generalize hn : L.length = n at *
  have HN := hid hn
  have hn16 : ((n : Int) == 16) = false := by rw [beq_eq_false_iff_ne]; omega
  clear h hV hn
  go_enter Tryd.func99, Tryd.ntmps99
  go_wp2_with fail
  refine (take_1 _ c a len cap at_ l H.out.cur hat).mono ?_
  rintro e w1 ⟨rfl, hc, hg, hs⟩
  have H1 := hid (H.out.read hc hg)
  have HV1 := hid (HV.out.rd H.out.below H1.out.below hB H1.out.size)
  generalize hx : nxK (l.drop at_) = x at *
  have HX := hid hx
  clear hc hg hs hx
  have hz := zov
  have O2 := hid (layOo_new w1 54 ⟨x, Txt.none, zeros, Txt.none⟩)
  have B2 := hid (layOo_below w1 54 ⟨x, Txt.none, zeros, Txt.none⟩)
  go_simp
  rename_i hKK
  refine hKK _ _ ?_
  refine bdO1 o43 _ rfl rfl x rfl ?_
  simp only [Act.put, List.setIfInBounds_toArray, List.set_cons_zero, List.set_cons_succ]
  clear hKK
  have HXp : Hid (Ov.p ⟨x, Txt.none, zeros, Txt.none⟩ = ⟨x, [], zeros, []⟩) := rfl
  have HXk : Hid ((⟨x, Txt.none, zeros, Txt.none⟩ : Ov).k = x) := rfl
  have HXa : Hid (Adr (⟨x, Txt.none, zeros, Txt.none⟩ : Ov).ad) := adr_zeros
  have HXo : Hid (∀ b w, Own2 b w (⟨x, Txt.none, zeros, Txt.none⟩ : Ov)) := fun b w => ⟨World.ownsRow_nil _ _ _ _, rfl, adr_zeros, World.ownsRow_nil _ _ _ _, rfl, fun x hx => by cases hx⟩
  generalize hX : (⟨x, Txt.none, zeros, Txt.none⟩ : Ov) = X at *
  clear hX
  have q0 := (O2.out.cell 0).trans (Ov.at0 _)
  rw [HXk.out] at q0
  go_wp2_with ((refine stOo o43 _ _ rfl rfl w1.heap.size X HXa.out rfl rfl 54 Ov.zero adr_zeros (Row.new w1 54 _) ?_))

  have H2 := hid (H1.out.on B2.out)
  have HV2 := hid (HV1.out.below B2.out)
  have q1 := H2.out.r.cell 0
  simp only [List.getElem?_toArray, List.getElem?_cons_zero] at q1
  generalize (w1.alloc (.cells Ov.zero.cs 54)).setRow w1.heap.size X.cs = wz at *
  have HGn : Hid ((Value.slice ga n gc).ownBlock ≠ some w1.heap.size) := fun e => by have := (H1.out.got.lt _ e).2; omega
  generalize w1.heap.size = g at *
  refine (isKind_any x _).mono ?_
  rintro e w3 ⟨rfl, rfl⟩
  obtain rfl : x = 0 := HK0.out
  rw [show kndB 0 = true from rfl]
  go_wp2_with fail
  have N0 := H2
  have O0 := O2
  have V0 := HV2
  have W0 := hid (HXo.out base w3)
  have HGne : Hid ((Value.slice ga n gc).ownBlock ≠ some g) := HGn
  generalize hw3 : w3 = wz at *
  clear H2 O2 HV2 H1 HV1 B2 q1 q0
  generalize hat2 : at_ + 1 = at2 at *
  generalize her2 : (0 : Int) = er2 at N0
  refine wp_region_held_drew (S := fun w' => w'.cell? ⟨p, 0, none⟩ = some (.pointer (some ⟨c, 0, none⟩)) ∧ Hid (Row w' g 54 X.cs)) (by kernel_rfl) ?_ (fun hHeld => ?_)
  · exact ⟨N0.out.r.cell 0, O0.out⟩
  refine wpAnyH_take (i := 0) (oi := _) (v := ?va0) rfl (by kernel_rfl) (by kernel_rfl) (by kernel_rfl) (fun _ _ _ h => h) (Or.inl ⟨by rfl, ?hya0⟩) (by assumption) ?resta0
  case hya0 => (intro w hSw; (try dsimp only at hSw); go_split_ands; go_simp; try (with_reducible rfl))
  try simp only [List.getElem_toArray, List.getElem_cons_zero, List.getElem_cons_succ, Act.put, List.setIfInBounds_toArray, List.set_cons_zero, List.set_cons_succ]
  refine wpAnyH_take (i := 1) (oi := _) (v := ?va1) rfl (by kernel_rfl) (by kernel_rfl) (by kernel_rfl) (fun _ _ _ h => h) (Or.inl ⟨by rfl, ?hya1⟩) (by assumption) ?resta1
  case hya1 => (intro w hSw; (try dsimp only at hSw); go_split_ands; go_simp; try (with_reducible rfl))
  try simp only [List.getElem_toArray, List.getElem_cons_zero, List.getElem_cons_succ, Act.put, List.setIfInBounds_toArray, List.set_cons_zero, List.set_cons_succ]
  refine wpAnyH_take (i := 2) (oi := _) (v := ?va2) rfl (by kernel_rfl) (by kernel_rfl) (by kernel_rfl) (fun _ _ _ h => h) (Or.inl ⟨by rfl, ?hya2⟩) (by assumption) ?resta2
  case hya2 => (intro w hSw; (try dsimp only at hSw); go_split_ands; go_simp; try (with_reducible rfl))
  try simp only [List.getElem_toArray, List.getElem_cons_zero, List.getElem_cons_succ, Act.put, List.setIfInBounds_toArray, List.set_cons_zero, List.set_cons_succ]
  refine wpAnyH_take (i := 3) (oi := _) (v := ?va3) rfl (by kernel_rfl) (by kernel_rfl) (by kernel_rfl) (fun _ _ _ h => h) (Or.inl ⟨by rfl, ?hya3⟩) (by assumption) ?resta3
  case hya3 => (intro w hSw; (try dsimp only at hSw); go_split_ands; go_simp; try (with_reducible rfl))
  try simp only [List.getElem_toArray, List.getElem_cons_zero, List.getElem_cons_succ, Act.put, List.setIfInBounds_toArray, List.set_cons_zero, List.set_cons_succ]
  refine wpAnyH_take (i := 4) (oi := _) (v := .agg X.cs) rfl (by kernel_rfl) (by kernel_rfl) (by kernel_rfl) (fun _ _ _ h => h) (yldOo o43 (by rfl) _ rfl g 0 rfl X HXa.out (fun w h => (h.2).out.part)) (by assumption) ?_
  try simp only [List.getElem_toArray, List.getElem_cons_zero, List.getElem_cons_succ, Act.put, List.setIfInBounds_toArray, List.set_cons_zero, List.set_cons_succ]
  refine wpAnyH_ready (rs := [5]) (by kernel_rfl) (by simp) ?_
  refine AllReadyH.cons (o := _) rfl (fun K hK => ?_) AllReadyH.nil
  go_simp
  refine (optCheck_any X _ (W0.out.ok.drewN 1) (V0.out.drewN 1)).mono ?_
  rintro e w6 ⟨rfl, hb6⟩
  have bb := bthen (bdrew (Below.refl wz.heap.size wz) 1) hb6
  have N6 := hid (N0.out.on bb)
  have O6 := hid (O0.out.below bb)
  have W6 := hid (W0.out.below bb)
  have HCk : Hid (chkP X.p = chkP X.p) := rfl
  clear hb6 bb N0 O0 W0
  generalize hck : chkP X.p = ck at *
  have HCK := hid hck
  clear hck HCk
  go_wp2_with fail
  refine hK.out _ _ ⟨N6.out.r.cell 0, O6.out⟩ (fun hHeld => ?_)
  clear hK K
  try simp only [List.getElem_toArray, List.getElem_cons_zero, List.getElem_cons_succ, Act.put, List.setIfInBounds_toArray, List.set_cons_zero, List.set_cons_succ]
  refine wpAnyH_ready (rs := [6]) (by kernel_rfl) (by simp) ?_
  refine AllReadyH.cons (o := _) rfl (fun K hK => ?_) AllReadyH.nil
  go_simp
  refine (spoil_any _ c a len cap at2 l er2 ck N6.out.cur).mono ?_
  rintro e w7 ⟨rfl, hc, hg, hs⟩
  have N7 := hid (N6.out.read hc hg)
  have O7 := hid (O6.out.kept hg (fun e => O6.out.ne N6.out.cur.row (by decide) (Option.some.inj e)))
  have W7 := hid (W6.out.row N6.out.cur.row (by decide) (by decide) hg)
  clear hc hg hs N6 O6 W6
  go_wp2_with fail
  refine hK.out _ _ ⟨N7.out.r.cell 0, O7.out⟩ (fun hHeld => ?_)
  clear hK K
  try simp only [List.getElem_toArray, List.getElem_cons_zero, List.getElem_cons_succ, Act.put, List.setIfInBounds_toArray, List.set_cons_zero, List.set_cons_succ]
  refine wpAnyH_done (by kernel_rfl) ?_ _
  go_wp2_with fail

  refine wp_region_held_drew (S := fun w' => w'.cell? ⟨p, 0, none⟩ = some (.pointer (some ⟨c, 0, none⟩)) ∧ Hid (Row w' g 54 X.cs)) (by kernel_rfl) ?_ (fun hHeld => ?_)
  · exact ⟨N7.out.r.cell 0, O7.out⟩
  have S8 : Hid (Row w7.drew g 54 X.cs) := hid (O7.out.drewN 1)
  have N8a : Hid (NxAt base w w7.drew p c a len cap l at2 (spE er2 ck) (.slice ga n gc) L) := hid (N7.out.drewN 1)
  have W8a : Hid (Own2 base w7.drew X) := hid (W7.out.below (bdrew (Below.refl _ _) 1))
  clear N7 O7 W7
  generalize w7.drew = wd at *
  have O8a := S8
  refine wpAnyH_take (i := 0) (oi := _) (v := ?vb0) rfl (by kernel_rfl) (by kernel_rfl) (by kernel_rfl) (fun _ _ _ h => h) (Or.inl ⟨by rfl, ?hyb0⟩) (by assumption) ?restb0
  case hyb0 => (intro w hSw; (try dsimp only at hSw); go_split_ands; go_simp; try (with_reducible rfl))
  try simp only [List.getElem_toArray, List.getElem_cons_zero, List.getElem_cons_succ, Act.put, List.setIfInBounds_toArray, List.set_cons_zero, List.set_cons_succ]
  refine wpAnyH_take (i := 1) (oi := _) (v := ?vb1) rfl (by kernel_rfl) (by kernel_rfl) (by kernel_rfl) (fun _ _ _ h => h) (Or.inl ⟨by rfl, ?hyb1⟩) (by assumption) ?restb1
  case hyb1 => (intro w hSw; (try dsimp only at hSw); go_split_ands; go_simp; try (with_reducible rfl))
  try simp only [List.getElem_toArray, List.getElem_cons_zero, List.getElem_cons_succ, Act.put, List.setIfInBounds_toArray, List.set_cons_zero, List.set_cons_succ]
  refine wpAnyH_take (i := 2) (oi := _) (v := ?vb2) rfl (by kernel_rfl) (by kernel_rfl) (by kernel_rfl) (fun _ _ _ h => h) (Or.inl ⟨by rfl, ?hyb2⟩) (by assumption) ?restb2
  case hyb2 => (intro w hSw; (try dsimp only at hSw); go_split_ands; go_simp; try (with_reducible rfl))
  try simp only [List.getElem_toArray, List.getElem_cons_zero, List.getElem_cons_succ, Act.put, List.setIfInBounds_toArray, List.set_cons_zero, List.set_cons_succ]
  refine wpAnyH_take (i := 3) (oi := _) (v := ?vb3) rfl (by kernel_rfl) (by kernel_rfl) (by kernel_rfl) (fun _ _ _ h => h) (Or.inl ⟨by rfl, ?hyb3⟩) (by assumption) ?restb3
  case hyb3 => (intro w hSw; (try dsimp only at hSw); go_split_ands; go_simp; try (with_reducible rfl))
  try simp only [List.getElem_toArray, List.getElem_cons_zero, List.getElem_cons_succ, Act.put, List.setIfInBounds_toArray, List.set_cons_zero, List.set_cons_succ]
  refine wpAnyH_take (i := 5) (oi := _) (v := .agg X.cs) rfl (by kernel_rfl) (by kernel_rfl) (by kernel_rfl) (fun _ _ _ h => h) (yldOo o43 (by rfl) _ rfl g 0 rfl X HXa.out (fun w h => (h.2).out.part)) (by assumption) ?_
  try simp only [List.getElem_toArray, List.getElem_cons_zero, List.getElem_cons_succ, Act.put, List.setIfInBounds_toArray, List.set_cons_zero, List.set_cons_succ]
  refine wpAnyH_ready (rs := [4, 6]) (by kernel_rfl) (by simp) ?_
  refine AllReadyH.cons (o := _) rfl (fun K hK => ?_) (AllReadyH.cons (o := _) rfl (fun K hK => ?_) AllReadyH.nil)
  · have cn : wd.cell? ⟨p, 1, none⟩ = some (.slice ga n gc) := (N8a.out.r.cell 1)
    go_simp
    go_wp2_with fail
    refine hK.out _ _ ⟨N8a.out.r.cell 0, S8.out⟩ (fun hHeld => ?_)
    clear hK K
    try simp only [List.getElem_toArray, List.getElem_cons_zero, List.getElem_cons_succ, Act.put, List.setIfInBounds_toArray, List.set_cons_zero, List.set_cons_succ]
    clear cn
    refine wpAnyH_ready (rs := [6]) (by kernel_rfl) (by simp) ?_
    refine AllReadyH.cons (o := _) rfl (fun K hK => ?_) AllReadyH.nil
    have BA := hid (balloc (Below.refl _ _) (.cells X.cs 54) : Below wd.heap.size wd (wd.alloc (.cells X.cs 54)))
    have N8 := hid (N8a.out.on BA.out)
    have O8 := hid (O8a.out.below BA.out)
    have W8 := hid (W8a.out.below BA.out)
    have RX : Hid (Row (wd.alloc (.cells X.cs 54)) wd.heap.size 54 X.cs) := hid (Row.new wd 54 X.cs)
    clear BA
    refine step_bsO s23 rfl _ rfl X HXa.out rfl ?_
    have S8 := O8
    refine hK.out _ _ ⟨N8.out.r.cell 0, S8.out⟩ (fun hHeld => ?_)
    clear hK K
    try simp only [List.getElem_toArray, List.getElem_cons_zero, List.getElem_cons_succ, Act.put, List.setIfInBounds_toArray, List.set_cons_zero, List.set_cons_succ]
    refine wpAnyH_ready (rs := [7]) (by kernel_rfl) (by simp) ?_
    refine AllReadyH.cons (o := _) rfl (fun K hK => ?_) AllReadyH.nil
    refine step_pushO s23 rfl _ _ rfl base n wd.heap.size (.slice ga n gc) (ocs L) rfl (by have := N8.out.got; rwa [HN.out] at this) X HXa.out rfl (by exact RX.out) (by exact N8.out.size) (by omega) ?_
    intro v4 w9 hown4 hg4
    obtain ⟨na, nc, rfl⟩ := owns_len hown4
    have N10 := hid (NxAt.push N8.out hg4 X W8.out (.slice na (n + 1) nc) (by rw [HN.out]; exact hown4))
    obtain ⟨g1, _, _, _, _⟩ := N8.out.app hg4
    have P9 := hid g1
    have O9 := hid (O8.out.kept hg4 (fun e => HGne.out e.symm))
    clear hown4 hg4 g1 N8 O8 W8 RX S8
    refine hK.out _ _ ⟨P9.out.cell 0, O9.out⟩ (fun hHeld => ?_)
    clear hK K
    try simp only [List.getElem_toArray, List.getElem_cons_zero, List.getElem_cons_succ, Act.put, List.setIfInBounds_toArray, List.set_cons_zero, List.set_cons_succ]
    have f1 := P9.out.frozen 1
    have cn : w9.cell? ⟨p, 1, none⟩ = some (.slice ga n gc) := P9.out.cell 1
    refine wpAnyH_take (i := 8) (oi := _) (v := ?vc8) rfl (by kernel_rfl) (by kernel_rfl) (by kernel_rfl) (fun _ _ _ h => h) (Or.inl ⟨by rfl, ?hyc8⟩) (by assumption) ?restc8
    case hyc8 => (intro w hSw; (try dsimp only at hSw); go_split_ands; go_simp; try (with_reducible rfl))
    try simp only [List.getElem_toArray, List.getElem_cons_zero, List.getElem_cons_succ, Act.put, List.setIfInBounds_toArray, List.set_cons_zero, List.set_cons_succ]
    refine wpAnyH_take (i := 9) (oi := _) (v := ?vc9) rfl (by kernel_rfl) (by kernel_rfl) (by kernel_rfl) (fun _ _ _ h => h) (Or.inl ⟨by rfl, ?hyc9⟩) (by assumption) ?restc9
    case hyc9 => (intro w hSw; (try dsimp only at hSw); go_split_ands; go_simp; try (with_reducible rfl))
    try simp only [List.getElem_toArray, List.getElem_cons_zero, List.getElem_cons_succ, Act.put, List.setIfInBounds_toArray, List.set_cons_zero, List.set_cons_succ]
    refine wpAnyH_ready (rs := [10]) (by kernel_rfl) (by simp) ?_
    refine AllReadyH.cons (o := _) rfl (fun K hK => ?_) AllReadyH.nil
    go_simp
    go_wp2_with fail
    refine hK.out _ _ ⟨(P9.out.set 1 _).cell 0, O9.out.other _ _ (O9.out.ne P9.out (by decide))⟩ (fun hHeld => ?_)
    clear hK K
    try simp only [List.getElem_toArray, List.getElem_cons_zero, List.getElem_cons_succ, Act.put, List.setIfInBounds_toArray, List.set_cons_zero, List.set_cons_succ]
    refine wpAnyH_done (by kernel_rfl) ?_ _
    go_wp2_with fail
    go_returns
    refine ⟨rfl, at2, _, _, L ++ [X], N10.out, ?_, ?_, ?_⟩
    · rw [HN.out, HE.out, ← HCK.out, HXp.out, ← her2]; rfl
    · rw [List.length_append, HN.out]; simp; omega
    · intro _
      refine ⟨?_, ?_⟩
      · rw [pos, List.map_append, nxP, if_pos HX.out, ← HXp.out]; rfl
      · rw [nxN, if_pos HX.out, hat2]

  · have BA := hid (balloc (Below.refl _ _) (.cells X.cs 54) : Below wd.heap.size wd (wd.alloc (.cells X.cs 54)))
    have N8 := hid (N8a.out.on BA.out)
    have O8 := hid (O8a.out.below BA.out)
    have W8 := hid (W8a.out.below BA.out)
    have RX : Hid (Row (wd.alloc (.cells X.cs 54)) wd.heap.size 54 X.cs) := hid (Row.new wd 54 X.cs)
    clear BA
    refine step_bsO s23 rfl _ rfl X HXa.out rfl ?_
    have S8 := O8
    refine hK.out _ _ ⟨N8.out.r.cell 0, S8.out⟩ (fun hHeld => ?_)
    clear hK K
    try simp only [List.getElem_toArray, List.getElem_cons_zero, List.getElem_cons_succ, Act.put, List.setIfInBounds_toArray, List.set_cons_zero, List.set_cons_succ]
    refine wpAnyH_ready (rs := [4]) (by kernel_rfl) (by simp) ?_
    refine AllReadyH.cons (o := _) rfl (fun K hK => ?_) AllReadyH.nil
    have cn : (wd.alloc (.cells X.cs 54)).cell? ⟨p, 1, none⟩ = some (.slice ga n gc) := (N8.out.r.cell 1)
    go_simp
    go_wp2_with fail
    refine hK.out _ _ ⟨N8.out.r.cell 0, S8.out⟩ (fun hHeld => ?_)
    clear hK K
    try simp only [List.getElem_toArray, List.getElem_cons_zero, List.getElem_cons_succ, Act.put, List.setIfInBounds_toArray, List.set_cons_zero, List.set_cons_succ]
    clear cn
    refine wpAnyH_ready (rs := [7]) (by kernel_rfl) (by simp) ?_
    refine AllReadyH.cons (o := _) rfl (fun K hK => ?_) AllReadyH.nil
    refine step_pushO s23 rfl _ _ rfl base n wd.heap.size (.slice ga n gc) (ocs L) rfl (by have := N8.out.got; rwa [HN.out] at this) X HXa.out rfl (by exact RX.out) (by exact N8.out.size) (by omega) ?_
    intro v4 w9 hown4 hg4
    obtain ⟨na, nc, rfl⟩ := owns_len hown4
    have N10 := hid (NxAt.push N8.out hg4 X W8.out (.slice na (n + 1) nc) (by rw [HN.out]; exact hown4))
    obtain ⟨g1, _, _, _, _⟩ := N8.out.app hg4
    have P9 := hid g1
    have O9 := hid (O8.out.kept hg4 (fun e => HGne.out e.symm))
    clear hown4 hg4 g1 N8 O8 W8 RX S8
    refine hK.out _ _ ⟨P9.out.cell 0, O9.out⟩ (fun hHeld => ?_)
    clear hK K
    try simp only [List.getElem_toArray, List.getElem_cons_zero, List.getElem_cons_succ, Act.put, List.setIfInBounds_toArray, List.set_cons_zero, List.set_cons_succ]
    have f1 := P9.out.frozen 1
    have cn : w9.cell? ⟨p, 1, none⟩ = some (.slice ga n gc) := P9.out.cell 1
    refine wpAnyH_take (i := 8) (oi := _) (v := ?vd8) rfl (by kernel_rfl) (by kernel_rfl) (by kernel_rfl) (fun _ _ _ h => h) (Or.inl ⟨by rfl, ?hyd8⟩) (by assumption) ?restd8
    case hyd8 => (intro w hSw; (try dsimp only at hSw); go_split_ands; go_simp; try (with_reducible rfl))
    try simp only [List.getElem_toArray, List.getElem_cons_zero, List.getElem_cons_succ, Act.put, List.setIfInBounds_toArray, List.set_cons_zero, List.set_cons_succ]
    refine wpAnyH_take (i := 9) (oi := _) (v := ?vd9) rfl (by kernel_rfl) (by kernel_rfl) (by kernel_rfl) (fun _ _ _ h => h) (Or.inl ⟨by rfl, ?hyd9⟩) (by assumption) ?restd9
    case hyd9 => (intro w hSw; (try dsimp only at hSw); go_split_ands; go_simp; try (with_reducible rfl))
    try simp only [List.getElem_toArray, List.getElem_cons_zero, List.getElem_cons_succ, Act.put, List.setIfInBounds_toArray, List.set_cons_zero, List.set_cons_succ]
    refine wpAnyH_ready (rs := [10]) (by kernel_rfl) (by simp) ?_
    refine AllReadyH.cons (o := _) rfl (fun K hK => ?_) AllReadyH.nil
    go_simp
    go_wp2_with fail
    refine hK.out _ _ ⟨(P9.out.set 1 _).cell 0, O9.out.other _ _ (O9.out.ne P9.out (by decide))⟩ (fun hHeld => ?_)
    clear hK K
    try simp only [List.getElem_toArray, List.getElem_cons_zero, List.getElem_cons_succ, Act.put, List.setIfInBounds_toArray, List.set_cons_zero, List.set_cons_succ]
    refine wpAnyH_done (by kernel_rfl) ?_ _
    go_wp2_with fail
    go_returns
    refine ⟨rfl, at2, _, _, L ++ [X], N10.out, ?_, ?_, ?_⟩
    · rw [HN.out, HE.out, ← HCK.out, HXp.out, ← her2]; rfl
    · rw [List.length_append, HN.out]; simp; omega
    · intro _
      refine ⟨?_, ?_⟩
      · rw [pos, List.map_append, nxP, if_pos HX.out, ← HXp.out]; rfl
      · rw [nxN, if_pos HX.out, hat2]


end Go.Proofs.YtbfjkhafdkhhmaaDoor

namespace Go.Proofs.YtbfjkhafdkhhmaaDoor
open Go.ChangeShapes Go.WideShapes Go.ChangeAt Go.RowKit Go.Deep
set_option linter.unusedVariables false
set_option linter.unusedSimpArgs false

def nxN' (m : List Int) : Nat := 1 + rdN 1 1 (m.length - 1) 0 + nxN2 m
def nxR (m : List Int) : Nat := rdN 1 1 (m.length - 1) 0
theorem take_2 (w : World) (c : Nat) (a : Option Addr) (len cap at_ : Nat) (l : List Int) (h : CurAt w c a len cap l (at_ + 1) 0) :
    Calls Tryd.prog 82 #[.pointer (some ⟨c, 0, none⟩), .int .i64 1] w fun e w' => e = .returned (.int .i64 (nxL (l.drop at_))) ∧
      CurAt w' c a len cap l (at_ + 1 + nxR (l.drop at_)) (nxE1 (l.drop at_)) ∧ w.grownBy w' (some c) ∧ w'.heap.size = w.heap.size := by
  have hl := h.lies.1
  have e1 : len - (at_ + 1) = (l.drop at_).length - 1 := by rw [List.length_drop, hl]; omega
  have := take_any w c a len cap (at_ + 1) l 0 1 h
  have e2 : takeV 1 l (at_ + 1) len 0 = nxL (l.drop at_) := by
    rw [nxL, takeV, takeV, e1, List.drop_drop]
  rw [e2, e1] at this
  exact this
theorem within_2 (w : World) (c : Nat) (a : Option Addr) (len cap at_ : Nat) (l : List Int) (h : CurAt w c a len cap l (at_ + 1 + nxR (l.drop at_)) (nxE1 (l.drop at_))) :
    Calls Tryd.prog 104 #[.pointer (some ⟨c, 0, none⟩), .int .i64 (nxL (l.drop at_))] w fun e w' => ∃ c2 a2 cap2, e = .returned (.pointer (some ⟨c2, 0, none⟩)) ∧
      CurAt w' c2 a2 (nxN2 (l.drop at_)) cap2 (nxC (l.drop at_)) 0 (nxE2 (l.drop at_)) ∧
      CurAt w' c a len cap l (at_ + nxN' (l.drop at_)) (nxE2 (l.drop at_)) ∧ w.grownBy w' (some c) ∧ w.heap.size ≤ c2 ∧ w'.ownsRow w.heap.size 5 1 (.slice a2 (nxN2 (l.drop at_)) cap2) (nxN2 (l.drop at_)) (u8s (nxC (l.drop at_))) := by
  have hl := h.lies.1
  have e1 : len - (at_ + 1 + nxR (l.drop at_)) = (l.drop at_).length - (1 + rdN 1 1 ((l.drop at_).length - 1) 0) := by rw [← nxR, List.length_drop, hl]; omega
  have e2 : (l.drop (at_ + 1 + nxR (l.drop at_))) = (l.drop at_).drop (1 + rdN 1 1 ((l.drop at_).length - 1) 0) := by rw [← nxR, List.drop_drop, Nat.add_assoc]
  have := within_own w c a len cap _ l _ (nxL (l.drop at_)) h
  rw [e1, e2] at this
  have e3 : at_ + nxN' (l.drop at_) = at_ + 1 + nxR (l.drop at_) + nxN2 (l.drop at_) := by unfold nxN' nxR; omega
  rw [e3]
  exact this
/-- The outer reader, while the inner one is made. -/
structure SixA (w1 wi : World) (p c g : Nat) (a : Option Addr) (len cap : Nat) (l : List Int) (at_ : Nat) (er : Int) (gv : Value) (X : Ov) : Prop where
  r : Row wi p 153 #[.pointer (some ⟨c, 0, none⟩), gv]
  cur : CurAt wi c a len cap l at_ er
  gr : w1.grownBy wi (some c)
  o : Row wi g 54 X.cs
  la : ∀ ad, a = some ad → ad.block < w1.heap.size
structure SixB (g : Nat) (wi : World) (c2 : Nat) (a2 : Option Addr) (n2 cap2 : Nat) (lc : List Int) (e2 : Int) : Prop where
  cur : CurAt wi c2 a2 n2 cap2 lc 0 e2
  win : wi.ownsRow g 5 1 (.slice a2 n2 cap2) n2 (u8s lc)
  hc : g ≤ c2
section
variable {w1 wi w' : World} {p c g : Nat} {a : Option Addr} {len cap : Nat} {l : List Int} {at_ : Nat} {er : Int} {gv : Value} {X : Ov} {c2 : Nat} {a2 : Option Addr} {n2 cap2 : Nat} {lc : List Int} {e2 : Int}
theorem SixA.read (h : SixA w1 wi p c g a len cap l at_ er gv X) {at2 : Nat} {er2 : Int} (hc : CurAt w' c a len cap l at2 er2) (hg : wi.grownBy w' (some c)) : SixA w1 w' p c g a len cap l at2 er2 gv X :=
  ⟨h.r.kept hg (fun e => h.r.ne h.cur.row (by decide) (Option.some.inj e)), hc, h.gr.trans hg, h.o.kept hg (fun e => h.o.ne h.cur.row (by decide) (Option.some.inj e)), h.la⟩
theorem SixA.on (h : SixA w1 wi p c g a len cap l at_ er gv X) (hb : Below wi.heap.size wi w') : SixA w1 w' p c g a len cap l at_ er gv X :=
  h.read (h.cur.below hb) ⟨hb.os, hb.tape, hb.output, hb.size, fun k hk _ => hb.block k hk⟩
theorem SixA.drewN (h : SixA w1 wi p c g a len cap l at_ er gv X) (q : Nat) : SixA w1 (wi.drewN q) p c g a len cap l at_ er gv X := h.on (bdrew (Below.refl _ _) q)
/-- A row of the reader's type is laid down anew. -/
theorem SixA.set (h : SixA w1 wi p c g a len cap l at_ er gv X) {p2 : Nat} {cs : Array Value} (ds : Array Value) (hr : Row wi p2 153 cs) (hp : w1.heap.size ≤ p2) (hne : p ≠ p2) : SixA w1 (wi.setRow p2 ds) p c g a len cap l at_ er gv X :=
  ⟨h.r.rowOther _ _ hne, h.cur.other (fun e => h.cur.row.ne hr (by decide) (Option.some.inj e)) (fun ad e e2 => by have := h.la ad e; have := Option.some.inj e2; omega) (grownBy_setRow ..), grown_then h.gr (below_setRow' (Below.refl _ _) hp _), h.o.rowOther _ _ (h.o.ne hr (by decide)), h.la⟩
theorem SixB.on (h : SixB g wi c2 a2 n2 cap2 lc e2) (hb : Below wi.heap.size wi w') : SixB g w' c2 a2 n2 cap2 lc e2 := ⟨h.cur.below hb, own_below h.win hb, h.hc⟩
theorem SixB.set (h : SixB g wi c2 a2 n2 cap2 lc e2) {p2 : Nat} {cs : Array Value} (ds : Array Value) (hr : Row wi p2 153 cs) : SixB g (wi.setRow p2 ds) c2 a2 n2 cap2 lc e2 :=
  ⟨h.cur.other (fun e => h.cur.row.ne hr (by decide) (Option.some.inj e)) (fun ad e => by have := own_row h.win hr (by decide); rw [e] at this; exact this) (grownBy_setRow ..), h.win.kept (grownBy_setRow ..) (.inr (own_row h.win hr (by decide))), h.hc⟩
/-- The readers behind the option's length. -/
def Six (w1 wx : World) (p c g p2 : Nat) (a : Option Addr) (len cap : Nat) (l : List Int) (at_ : Nat) (gv : Value) (X : Ov) (n2 : Nat) (lc : List Int) (e2 : Int) : Prop :=
  ∃ c2 a2 cap2, SixA w1 wx p c g a len cap l at_ e2 gv X ∧ SixB g wx c2 a2 n2 cap2 lc e2 ∧ Row wx p2 153 #[.pointer (some ⟨c2, 0, none⟩), .slice none 0 0] ∧ w1.heap.size ≤ p2
/-- What fill leaves, for the outer reader. -/
theorem six_nx {base : Nat} {w : World} {at0 : Nat} {er0 : Int} {L : List Ov} (h : NxAt base w w1 p c a len cap l at0 er0 gv L) (hA : SixA w1 wi p c g a len cap l at_ er gv X) (hb : Below w1.heap.size wi w') : NxAt base w w' p c a len cap l at_ er gv L :=
  h.read (CurAt.own h.cur hA.cur hA.gr hb) (grown_then hA.gr hb)
end
end Go.Proofs.YtbfjkhafdkhhmaaDoor
