/- Reading: next, an option that is no pad. -/
import Derived.Test.YtbfjkhafdkhhmaaDoorOpSix
namespace Go.Proofs.YtbfjkhafdkhhmaaDoor
open Go.ChangeShapes Go.WideShapes Go.ChangeAt Go.RowKit Go.Deep
set_option linter.unusedVariables false
set_option linter.unusedSimpArgs false

set_option maxRecDepth 100000 in
set_option maxHeartbeats 1600000 in
theorem next_other {B base : Nat} (w w0 : World) (p c : Nat) (a : Option Addr) (len cap : Nat) (l : List Int) (at_ : Nat) (gv : Value) (L : List Ov) (h : NxAt base w w0 p c a len cap l at_ 0 gv L) (hV : Vars B w0) (hB : B ≤ base) (hat : at_ < len) (hL : L.length ≤ 16) (h16 : ¬ L.length = 16) (k : Nat) (hk10 : k < 10) (hk0 : k ≠ 0) (hk : nxK (l.drop at_) = k) :
    Calls Tryd.prog 99 #[.pointer (some ⟨p, 0, none⟩)] w0 fun e w' => e = .returned (.tuple #[]) ∧ Hid (NxOk base w w' p c a len cap l at_ L) := by
  obtain ⟨ga, gc, rfl⟩ := owns_len h.got
  have H := hid h
  have HV := hid hV
  have p0 := h.r.cell 0
  have p1 := h.r.cell 1
  simp only [List.getElem?_toArray, List.getElem?_cons_zero, List.getElem?_cons_succ] at p0 p1
  have hlen := h.cur.lies.1
  have HE : Hid (nxE L.length (l.drop at_) = spE (spE (nxE2 (l.drop at_)) (filE k (nxC (l.drop at_)) (nxE2 (l.drop at_)))) (chkP (filP k (nxC (l.drop at_)) (nxE2 (l.drop at_))))) := by
    have h1 : kndB (k : Int) = true := by simp [kndB]; omega
    have h2 : ¬ ((k : Int) = 0) := by omega
    rw [Hid, nxE, nxP, if_neg h16, hk, h1, if_neg (by decide), if_neg h2, if_neg h2, Int.toNat_natCast]
  have HPn : Hid (nxP (l.drop at_) = filP k (nxC (l.drop at_)) (nxE2 (l.drop at_))) := by rw [Hid, nxP, hk, if_neg (by omega), Int.toNat_natCast]
  have HNn : Hid (nxN (l.drop at_) = nxN' (l.drop at_)) := by rw [Hid, nxN, hk, if_neg (by omega), nxN']
  have HK0 := hid hk
  clear hk
  generalize hn : L.length = n at *
  have HN := hid hn
  have hn16 : ((n : Int) == 16) = false := by rw [beq_eq_false_iff_ne]; omega
  clear h hV hn
  go_enter Tryd.func99, Tryd.ntmps99
  go_wp2_with fail
  refine (take_1 _ c a len cap at_ l H.out.cur hat).mono ?_
  rintro e w1 ⟨rfl, hc, hg, hs⟩
  have H1 := hid (H.out.read hc hg)
  have HV1 := hid (HV.out.rd H.out.below H1.out.below hB H1.out.size)
  generalize hx : nxK (l.drop at_) = x at *
  have HX := hid hx
  clear hc hg hs hx
  have hz := zov
  have O2 := hid (layOo_new w1 54 ⟨x, Txt.none, zeros, Txt.none⟩)
  have B2 := hid (layOo_below w1 54 ⟨x, Txt.none, zeros, Txt.none⟩)
  go_simp
  rename_i hKK
  refine hKK _ _ ?_
  refine bdO1 o43 _ rfl rfl x rfl ?_
  simp only [Act.put, List.setIfInBounds_toArray, List.set_cons_zero, List.set_cons_succ]
  clear hKK
  have HXp : Hid (Ov.p ⟨x, Txt.none, zeros, Txt.none⟩ = ⟨x, [], zeros, []⟩) := rfl
  have HXk : Hid ((⟨x, Txt.none, zeros, Txt.none⟩ : Ov).k = x) := rfl
  have HXa : Hid (Adr (⟨x, Txt.none, zeros, Txt.none⟩ : Ov).ad) := adr_zeros
  have HXo : Hid (∀ b w, Own2 b w (⟨x, Txt.none, zeros, Txt.none⟩ : Ov)) := fun b w => ⟨World.ownsRow_nil _ _ _ _, rfl, adr_zeros, World.ownsRow_nil _ _ _ _, rfl, fun x hx => by cases hx⟩
  generalize hX : (⟨x, Txt.none, zeros, Txt.none⟩ : Ov) = X at *
  clear hX
  have q0 := (O2.out.cell 0).trans (Ov.at0 _)
  rw [HXk.out] at q0
  go_wp2_with ((refine stOo o43 _ _ rfl rfl w1.heap.size X HXa.out rfl rfl 54 Ov.zero adr_zeros (Row.new w1 54 _) ?_))

  have A00 : Hid (SixA w1 ((w1.alloc (.cells Ov.zero.cs 54)).setRow w1.heap.size X.cs) p c w1.heap.size a len cap l (at_ + 1) 0 (.slice ga n gc) X) :=
    ⟨H1.out.r.below B2.out, H1.out.cur.below B2.out, ⟨B2.out.os, B2.out.tape, B2.out.output, B2.out.size, fun k hk _ => B2.out.block k hk⟩, O2.out, fun ad e => (H1.out.win.lt ad.block (by rw [e]; rfl)).2⟩
  have q1 := A00.out.r.cell 0
  simp only [List.getElem?_toArray, List.getElem?_cons_zero] at q1
  generalize (w1.alloc (.cells Ov.zero.cs 54)).setRow w1.heap.size X.cs = wz at *
  have HGn : Hid ((Value.slice ga n gc).ownBlock ≠ some w1.heap.size) := fun e => by have := (H1.out.got.lt _ e).2; omega
  have HGs : Hid (w1.heap.size = w1.heap.size) := rfl
  have HBg : Hid (base ≤ w1.heap.size) := H1.out.size
  have hg0 : w1.heap.size = w1.heap.size := rfl
  generalize hgg : w1.heap.size = g at hg0 A00 q0 HGn HBg O2 ⊢
  clear hg0
  refine (isKind_any x _).mono ?_
  rintro e w3 ⟨rfl, rfl⟩
  obtain rfl : x = k := HK0.out
  have hkk : kndB (k : Int) = true := by simp [kndB]; omega
  have hk0' : ((k : Int) != 0) = true := by simp; omega
  rw [hkk]
  go_wp2_with fail
  clear O2 B2 q1 q0 H HV
  go_cut [3] from 33 to 44 (fun v wx => ∃ p2, v = .pointer (some ⟨p2, 0, none⟩) ∧ Six w1 wx p c g p2 a len cap l (at_ + nxN' (l.drop at_)) (.slice ga n gc) X (nxN2 (l.drop at_)) (nxC (l.drop at_)) (nxE2 (l.drop at_)))
  case first =>
    generalize hw3 : w3 = wz at *
    clear hw3 HE HPn HNn
    refine wp_region_held_drew (S := fun w' => w'.cell? ⟨p, 0, none⟩ = some (.pointer (some ⟨c, 0, none⟩))) (by kernel_rfl) ?_ (fun hHeld => ?_)
    · exact A00.out.r.cell 0
    have A0 : Hid (SixA w1 wz.drew p c g a len cap l (at_ + 1) 0 (.slice ga n gc) X) := A00.out.drewN 1
    clear A00
    generalize wz.drew = wd at *
    refine wpAnyH_take (i := 0) (oi := _) (v := ?va0) rfl (by kernel_rfl) (by kernel_rfl) (by kernel_rfl) (fun _ _ _ h => h) (Or.inl ⟨by rfl, ?hya0⟩) (by assumption) ?resta0
    case hya0 => (intro w hSw; (try dsimp only at hSw); go_split_ands; go_simp; try (with_reducible rfl))
    try simp only [List.getElem_toArray, List.getElem_cons_zero, List.getElem_cons_succ, Act.put, List.setIfInBounds_toArray, List.set_cons_zero, List.set_cons_succ]
    refine wpAnyH_take (i := 1) (oi := _) (v := ?va1) rfl (by kernel_rfl) (by kernel_rfl) (by kernel_rfl) (fun _ _ _ h => h) (Or.inl ⟨by rfl, ?hya1⟩) (by assumption) ?resta1
    case hya1 => (intro w hSw; (try dsimp only at hSw); go_split_ands; go_simp; try (with_reducible rfl))
    try simp only [List.getElem_toArray, List.getElem_cons_zero, List.getElem_cons_succ, Act.put, List.setIfInBounds_toArray, List.set_cons_zero, List.set_cons_succ]
    refine wpAnyH_take (i := 2) (oi := _) (v := ?va2) rfl (by kernel_rfl) (by kernel_rfl) (by kernel_rfl) (fun _ _ _ h => h) (Or.inl ⟨by rfl, ?hya2⟩) (by assumption) ?resta2
    case hya2 => (intro w hSw; (try dsimp only at hSw); go_split_ands; go_simp; try (with_reducible rfl))
    try simp only [List.getElem_toArray, List.getElem_cons_zero, List.getElem_cons_succ, Act.put, List.setIfInBounds_toArray, List.set_cons_zero, List.set_cons_succ]
    refine wpAnyH_take (i := 3) (oi := _) (v := ?va3) rfl (by kernel_rfl) (by kernel_rfl) (by kernel_rfl) (fun _ _ _ h => h) (Or.inl ⟨by rfl, ?hya3⟩) (by assumption) ?resta3
    case hya3 => (intro w hSw; (try dsimp only at hSw); go_split_ands; go_simp; try (with_reducible rfl))
    try simp only [List.getElem_toArray, List.getElem_cons_zero, List.getElem_cons_succ, Act.put, List.setIfInBounds_toArray, List.set_cons_zero, List.set_cons_succ]
    refine wpAnyH_take (i := 4) (oi := _) (v := ?va4) rfl (by kernel_rfl) (by kernel_rfl) (by kernel_rfl) (fun _ _ _ h => h) (Or.inl ⟨by rfl, ?hya4⟩) (by assumption) ?resta4
    case hya4 => (intro w hSw; (try dsimp only at hSw); go_split_ands; go_simp; try (with_reducible rfl))
    try simp only [List.getElem_toArray, List.getElem_cons_zero, List.getElem_cons_succ, Act.put, List.setIfInBounds_toArray, List.set_cons_zero, List.set_cons_succ]
    refine wpAnyH_take (i := 5) (oi := _) (v := ?va5) rfl (by kernel_rfl) (by kernel_rfl) (by kernel_rfl) (fun _ _ _ h => h) (Or.inl ⟨by rfl, ?hya5⟩) (by assumption) ?resta5
    case hya5 => (intro w hSw; (try dsimp only at hSw); go_split_ands; go_simp; try (with_reducible rfl))
    try simp only [List.getElem_toArray, List.getElem_cons_zero, List.getElem_cons_succ, Act.put, List.setIfInBounds_toArray, List.set_cons_zero, List.set_cons_succ]
    refine wpAnyH_take (i := 6) (oi := _) (v := ?va6) rfl (by kernel_rfl) (by kernel_rfl) (by kernel_rfl) (fun _ _ _ h => h) (Or.inl ⟨by rfl, ?hya6⟩) (by assumption) ?resta6
    case hya6 => (intro w hSw; (try dsimp only at hSw); go_split_ands; go_simp; try (with_reducible rfl))
    try simp only [List.getElem_toArray, List.getElem_cons_zero, List.getElem_cons_succ, Act.put, List.setIfInBounds_toArray, List.set_cons_zero, List.set_cons_succ]
    refine wpAnyH_take (i := 7) (oi := _) (v := ?va7) rfl (by kernel_rfl) (by kernel_rfl) (by kernel_rfl) (fun _ _ _ h => h) (Or.inl ⟨by rfl, ?hya7⟩) (by assumption) ?resta7
    case hya7 => (intro w hSw; (try dsimp only at hSw); go_split_ands; go_simp; try (with_reducible rfl))
    try simp only [List.getElem_toArray, List.getElem_cons_zero, List.getElem_cons_succ, Act.put, List.setIfInBounds_toArray, List.set_cons_zero, List.set_cons_succ]
    refine wpAnyH_ready (rs := [8, 11]) (by kernel_rfl) (by simp) ?_
    refine AllReadyH.cons (o := _) rfl (fun K hK => ?_) (AllReadyH.cons (o := _) rfl (fun K hK => ?_) AllReadyH.nil)
    · go_simp
      refine (take_2 _ c a len cap at_ l (A0.out.cur)).mono ?_
      rintro e w2 ⟨rfl, hc, hg, hs⟩
      have A2 := hid (A0.out.read hc hg)
      skip
      clear hc hg hs A0
      go_wp2_with fail
      refine hK.out _ _ (A2.out.r.cell 0) (fun hHeld => ?_)
      clear hK K
      try simp only [List.getElem_toArray, List.getElem_cons_zero, List.getElem_cons_succ, Act.put, List.setIfInBounds_toArray, List.set_cons_zero, List.set_cons_succ]
      have A0 := A2
      clear A2
      refine wpAnyH_ready (rs := [9, 11]) (by kernel_rfl) (by simp) ?_
      refine AllReadyH.cons (o := _) rfl (fun K hK => ?_) (AllReadyH.cons (o := _) rfl (fun K hK => ?_) AllReadyH.nil)
      · go_simp
        refine (within_2 _ c a len cap at_ l (A0.out.cur)).mono ?_
        rintro e w4 ⟨c2, a2, cap2, rfl, hc2, hc, hg, hcc, hw2⟩
        have B4 : Hid (SixB g w4 c2 a2 (nxN2 (l.drop at_)) cap2 (nxC (l.drop at_)) (nxE2 (l.drop at_))) := ⟨hc2, own_mono hw2 (by have := A0.out.gr.size; omega), by have := A0.out.gr.size; omega⟩
        skip
        have A4 := hid (A0.out.read hc hg)
        clear hc2 hc hg hcc hw2 A0
        go_wp2_with fail
        refine hK.out _ _ (A4.out.r.cell 0) (fun hHeld => ?_)
        clear hK K
        try simp only [List.getElem_toArray, List.getElem_cons_zero, List.getElem_cons_succ, Act.put, List.setIfInBounds_toArray, List.set_cons_zero, List.set_cons_succ]
        have A0 := A4
        clear A4
        refine wpAnyH_take (i := 10) (oi := _) (v := ?vb10) rfl (by kernel_rfl) (by kernel_rfl) (by kernel_rfl) (fun _ _ _ h => h) (Or.inl ⟨by rfl, ?hyb10⟩) (by assumption) ?restb10
        case hyb10 => (intro w hSw; (try dsimp only at hSw); go_split_ands; go_simp; try (with_reducible rfl))
        try simp only [List.getElem_toArray, List.getElem_cons_zero, List.getElem_cons_succ, Act.put, List.setIfInBounds_toArray, List.set_cons_zero, List.set_cons_succ]
        refine wpAnyH_ready (rs := [11]) (by kernel_rfl) (by simp) ?_
        refine AllReadyH.cons (o := _) rfl (fun K hK => ?_) AllReadyH.nil
        go_simp
        have BA := hid (balloc (Below.refl _ _) (.cells #[.pointer none, .slice none 0 0] 153) : Below w4.heap.size w4 (w4.alloc (.cells #[.pointer none, .slice none 0 0] 153)))
        have A5 := hid (A0.out.on BA.out)
        have B5 := hid (B4.out.on BA.out)
        clear B4
        have B4 := B5
        clear B5
        have R5 := hid (Row.new w4 153 #[.pointer none, .slice none 0 0])
        have HP2 : w1.heap.size ≤ w4.heap.size := A0.out.gr.size
        have HPn : p ≠ w4.heap.size := by have := A0.out.r.lt; omega
        clear BA A0
        go_wp2_with fail
        refine hK.out _ _ (A5.out.r.cell 0) (fun hHeld => ?_)
        clear hK K
        try simp only [List.getElem_toArray, List.getElem_cons_zero, List.getElem_cons_succ, Act.put, List.setIfInBounds_toArray, List.set_cons_zero, List.set_cons_succ]
        generalize hp2 : w4.heap.size = p2 at *
        generalize w4.alloc (.cells #[.pointer none, .slice none 0 0] 153) = w5 at *
        have A0 := A5
        clear A5 hp2
        refine wpAnyH_ready (rs := [12]) (by kernel_rfl) (by simp) ?_
        refine AllReadyH.cons (o := _) rfl (fun K hK => ?_) AllReadyH.nil
        refine step_st rfl 153 _ _ rfl p2 #[.pointer (some ⟨c2, 0, none⟩), .slice none 0 0] rfl rfl 153 #[.pointer none, .slice none 0 0] R5.out (by kernel_rfl) rfl (by simp [Value.oneCell']) ?_
        have A6 := hid (A0.out.set #[.pointer (some ⟨c2, 0, none⟩), .slice none 0 0] R5.out HP2 HPn)
        have B6 := hid (B4.out.set #[.pointer (some ⟨c2, 0, none⟩), .slice none 0 0] R5.out)
        have R6 := hid (R5.out.setRow #[.pointer (some ⟨c2, 0, none⟩), .slice none 0 0])
        clear A0 B4 R5
        refine hK.out _ _ (A6.out.r.cell 0) (fun hHeld => ?_)
        clear hK K
        try simp only [List.getElem_toArray, List.getElem_cons_zero, List.getElem_cons_succ, Act.put, List.setIfInBounds_toArray, List.set_cons_zero, List.set_cons_succ]
        refine wpAnyH_done (by kernel_rfl) ?_ _
        go_wp2_with fail
        go_meet
        case rel => exact ⟨p2, rfl, _, _, _, A6.out, B6.out, R6.out, HP2⟩
      · go_simp
        have BA := hid (balloc (Below.refl _ _) (.cells #[.pointer none, .slice none 0 0] 153) : Below w2.heap.size w2 (w2.alloc (.cells #[.pointer none, .slice none 0 0] 153)))
        have A5 := hid (A0.out.on BA.out)
        skip
        have R5 := hid (Row.new w2 153 #[.pointer none, .slice none 0 0])
        have HP2 : w1.heap.size ≤ w2.heap.size := A0.out.gr.size
        have HPn : p ≠ w2.heap.size := by have := A0.out.r.lt; omega
        clear BA A0
        go_wp2_with fail
        refine hK.out _ _ (A5.out.r.cell 0) (fun hHeld => ?_)
        clear hK K
        try simp only [List.getElem_toArray, List.getElem_cons_zero, List.getElem_cons_succ, Act.put, List.setIfInBounds_toArray, List.set_cons_zero, List.set_cons_succ]
        generalize hp2 : w2.heap.size = p2 at *
        generalize w2.alloc (.cells #[.pointer none, .slice none 0 0] 153) = w5 at *
        have A0 := A5
        clear A5 hp2
        refine wpAnyH_ready (rs := [9]) (by kernel_rfl) (by simp) ?_
        refine AllReadyH.cons (o := _) rfl (fun K hK => ?_) AllReadyH.nil
        go_simp
        refine (within_2 _ c a len cap at_ l (A0.out.cur)).mono ?_
        rintro e w4 ⟨c2, a2, cap2, rfl, hc2, hc, hg, hcc, hw2⟩
        have B4 : Hid (SixB g w4 c2 a2 (nxN2 (l.drop at_)) cap2 (nxC (l.drop at_)) (nxE2 (l.drop at_))) := ⟨hc2, own_mono hw2 (by have := A0.out.gr.size; omega), by have := A0.out.gr.size; omega⟩
        have R5b := hid (R5.out.kept hg (fun e => R5.out.ne A0.out.cur.row (by decide) (Option.some.inj e)))
        clear R5
        have R5 := R5b
        clear R5b
        have A4 := hid (A0.out.read hc hg)
        clear hc2 hc hg hcc hw2 A0
        go_wp2_with fail
        refine hK.out _ _ (A4.out.r.cell 0) (fun hHeld => ?_)
        clear hK K
        try simp only [List.getElem_toArray, List.getElem_cons_zero, List.getElem_cons_succ, Act.put, List.setIfInBounds_toArray, List.set_cons_zero, List.set_cons_succ]
        have A0 := A4
        clear A4
        refine wpAnyH_take (i := 10) (oi := _) (v := ?vc10) rfl (by kernel_rfl) (by kernel_rfl) (by kernel_rfl) (fun _ _ _ h => h) (Or.inl ⟨by rfl, ?hyc10⟩) (by assumption) ?restc10
        case hyc10 => (intro w hSw; (try dsimp only at hSw); go_split_ands; go_simp; try (with_reducible rfl))
        try simp only [List.getElem_toArray, List.getElem_cons_zero, List.getElem_cons_succ, Act.put, List.setIfInBounds_toArray, List.set_cons_zero, List.set_cons_succ]
        refine wpAnyH_ready (rs := [12]) (by kernel_rfl) (by simp) ?_
        refine AllReadyH.cons (o := _) rfl (fun K hK => ?_) AllReadyH.nil
        refine step_st rfl 153 _ _ rfl p2 #[.pointer (some ⟨c2, 0, none⟩), .slice none 0 0] rfl rfl 153 #[.pointer none, .slice none 0 0] R5.out (by kernel_rfl) rfl (by simp [Value.oneCell']) ?_
        have A6 := hid (A0.out.set #[.pointer (some ⟨c2, 0, none⟩), .slice none 0 0] R5.out HP2 HPn)
        have B6 := hid (B4.out.set #[.pointer (some ⟨c2, 0, none⟩), .slice none 0 0] R5.out)
        have R6 := hid (R5.out.setRow #[.pointer (some ⟨c2, 0, none⟩), .slice none 0 0])
        clear A0 B4 R5
        refine hK.out _ _ (A6.out.r.cell 0) (fun hHeld => ?_)
        clear hK K
        try simp only [List.getElem_toArray, List.getElem_cons_zero, List.getElem_cons_succ, Act.put, List.setIfInBounds_toArray, List.set_cons_zero, List.set_cons_succ]
        refine wpAnyH_done (by kernel_rfl) ?_ _
        go_wp2_with fail
        go_meet
        case rel => exact ⟨p2, rfl, _, _, _, A6.out, B6.out, R6.out, HP2⟩
    · go_simp
      have BA := hid (balloc (Below.refl _ _) (.cells #[.pointer none, .slice none 0 0] 153) : Below wd.heap.size wd (wd.alloc (.cells #[.pointer none, .slice none 0 0] 153)))
      have A5 := hid (A0.out.on BA.out)
      skip
      have R5 := hid (Row.new wd 153 #[.pointer none, .slice none 0 0])
      have HP2 : w1.heap.size ≤ wd.heap.size := A0.out.gr.size
      have HPn : p ≠ wd.heap.size := by have := A0.out.r.lt; omega
      clear BA A0
      go_wp2_with fail
      refine hK.out _ _ (A5.out.r.cell 0) (fun hHeld => ?_)
      clear hK K
      try simp only [List.getElem_toArray, List.getElem_cons_zero, List.getElem_cons_succ, Act.put, List.setIfInBounds_toArray, List.set_cons_zero, List.set_cons_succ]
      generalize hp2 : wd.heap.size = p2 at *
      generalize wd.alloc (.cells #[.pointer none, .slice none 0 0] 153) = w5 at *
      have A0 := A5
      clear A5 hp2
      refine wpAnyH_ready (rs := [8]) (by kernel_rfl) (by simp) ?_
      refine AllReadyH.cons (o := _) rfl (fun K hK => ?_) AllReadyH.nil
      go_simp
      refine (take_2 _ c a len cap at_ l (A0.out.cur)).mono ?_
      rintro e w2 ⟨rfl, hc, hg, hs⟩
      have A2 := hid (A0.out.read hc hg)
      have R5b := hid (R5.out.kept hg (fun e => R5.out.ne A0.out.cur.row (by decide) (Option.some.inj e)))
      clear R5
      have R5 := R5b
      clear R5b
      clear hc hg hs A0
      go_wp2_with fail
      refine hK.out _ _ (A2.out.r.cell 0) (fun hHeld => ?_)
      clear hK K
      try simp only [List.getElem_toArray, List.getElem_cons_zero, List.getElem_cons_succ, Act.put, List.setIfInBounds_toArray, List.set_cons_zero, List.set_cons_succ]
      have A0 := A2
      clear A2
      refine wpAnyH_ready (rs := [9]) (by kernel_rfl) (by simp) ?_
      refine AllReadyH.cons (o := _) rfl (fun K hK => ?_) AllReadyH.nil
      go_simp
      refine (within_2 _ c a len cap at_ l (A0.out.cur)).mono ?_
      rintro e w4 ⟨c2, a2, cap2, rfl, hc2, hc, hg, hcc, hw2⟩
      have B4 : Hid (SixB g w4 c2 a2 (nxN2 (l.drop at_)) cap2 (nxC (l.drop at_)) (nxE2 (l.drop at_))) := ⟨hc2, own_mono hw2 (by have := A0.out.gr.size; omega), by have := A0.out.gr.size; omega⟩
      have R5b := hid (R5.out.kept hg (fun e => R5.out.ne A0.out.cur.row (by decide) (Option.some.inj e)))
      clear R5
      have R5 := R5b
      clear R5b
      have A4 := hid (A0.out.read hc hg)
      clear hc2 hc hg hcc hw2 A0
      go_wp2_with fail
      refine hK.out _ _ (A4.out.r.cell 0) (fun hHeld => ?_)
      clear hK K
      try simp only [List.getElem_toArray, List.getElem_cons_zero, List.getElem_cons_succ, Act.put, List.setIfInBounds_toArray, List.set_cons_zero, List.set_cons_succ]
      have A0 := A4
      clear A4
      refine wpAnyH_take (i := 10) (oi := _) (v := ?vd10) rfl (by kernel_rfl) (by kernel_rfl) (by kernel_rfl) (fun _ _ _ h => h) (Or.inl ⟨by rfl, ?hyd10⟩) (by assumption) ?restd10
      case hyd10 => (intro w hSw; (try dsimp only at hSw); go_split_ands; go_simp; try (with_reducible rfl))
      try simp only [List.getElem_toArray, List.getElem_cons_zero, List.getElem_cons_succ, Act.put, List.setIfInBounds_toArray, List.set_cons_zero, List.set_cons_succ]
      refine wpAnyH_ready (rs := [12]) (by kernel_rfl) (by simp) ?_
      refine AllReadyH.cons (o := _) rfl (fun K hK => ?_) AllReadyH.nil
      refine step_st rfl 153 _ _ rfl p2 #[.pointer (some ⟨c2, 0, none⟩), .slice none 0 0] rfl rfl 153 #[.pointer none, .slice none 0 0] R5.out (by kernel_rfl) rfl (by simp [Value.oneCell']) ?_
      have A6 := hid (A0.out.set #[.pointer (some ⟨c2, 0, none⟩), .slice none 0 0] R5.out HP2 HPn)
      have B6 := hid (B4.out.set #[.pointer (some ⟨c2, 0, none⟩), .slice none 0 0] R5.out)
      have R6 := hid (R5.out.setRow #[.pointer (some ⟨c2, 0, none⟩), .slice none 0 0])
      clear A0 B4 R5
      refine hK.out _ _ (A6.out.r.cell 0) (fun hHeld => ?_)
      clear hK K
      try simp only [List.getElem_toArray, List.getElem_cons_zero, List.getElem_cons_succ, Act.put, List.setIfInBounds_toArray, List.set_cons_zero, List.set_cons_succ]
      refine wpAnyH_done (by kernel_rfl) ?_ _
      go_wp2_with fail
      go_meet
      case rel => exact ⟨p2, rfl, _, _, _, A6.out, B6.out, R6.out, HP2⟩

  case rest =>
    obtain ⟨p2, rfl, c2, a2, cap2, hA, hB6, hR, hp2⟩ := hcut
    have A6 := hid hA
    have B6 := hid hB6
    have R6 := hid hR
    clear hA hB6 hR
    have VX := hid (HV1.out.grown A6.out.gr (Nat.le_trans hB H1.out.hc))
    generalize hn2 : nxN2 (l.drop at_) = n2 at *
    generalize hlc : nxC (l.drop at_) = lc at *
    generalize he2 : nxE2 (l.drop at_) = e2 at *
    generalize hat2 : at_ + nxN' (l.drop at_) = at2 at *
    have HA2 := hid hat2
    clear hn2 hlc he2 hat2
    go_wp2_with fail
    refine (fill_any (B := B) (base := g) k hk10 wc wc p2 c2 g (.slice none 0 0) a2 n2 cap2 lc X e2 ⟨R6.out, B6.out.cur, B6.out.win, A6.out.o, HXo.out _ _, Below.refl _ _, B6.out.hc, Nat.le_refl _⟩ HXp.out VX.out (Nat.le_trans hB HBg.out)).mono ?_
    rintro e wf ⟨rfl, hf⟩
    obtain ⟨at3, er3, Xq, hfr, hfp, hfc⟩ := hf.out
    have F6 := hid hfr
    have HXqp := hid hfp
    have HCl := hid hfc
    have HXqa := hid hfr.own.ad
    have N6 := hid (six_nx H1.out A6.out (w' := wf) (by rw [hgg]; exact hfr.below))
    have V6 := hid (VX.out.rd (Below.refl g wc) hfr.below (Nat.le_trans hB HBg.out) hfr.size)
    clear hfr hfp hfc hf VX A6 B6 R6 H1 HV1 HXo HXp HXa HXk
    generalize hfe : filE k lc e2 = fe at *
    clear hfe
    go_wp2_with fail
    refine wp_region_held_drew (S := fun w' => w'.cell? ⟨p, 0, none⟩ = some (.pointer (some ⟨c, 0, none⟩)) ∧ w'.cell? ⟨p2, 0, none⟩ = some (.pointer (some ⟨c2, 0, none⟩))) (by kernel_rfl) ?_ (fun hHeld => ?_)
    · exact ⟨N6.out.r.cell 0, F6.out.r.cell 0⟩
    refine wpAnyH_take (i := 0) (oi := _) (v := ?ve0) rfl (by kernel_rfl) (by kernel_rfl) (by kernel_rfl) (fun _ _ _ h => h) (Or.inl ⟨by rfl, ?hye0⟩) (by assumption) ?reste0
    case hye0 => (intro w hSw; (try dsimp only at hSw); go_split_ands; go_simp; try (with_reducible rfl))
    try simp only [List.getElem_toArray, List.getElem_cons_zero, List.getElem_cons_succ, Act.put, List.setIfInBounds_toArray, List.set_cons_zero, List.set_cons_succ]
    refine wpAnyH_take (i := 1) (oi := _) (v := ?ve1) rfl (by kernel_rfl) (by kernel_rfl) (by kernel_rfl) (fun _ _ _ h => h) (Or.inl ⟨by rfl, ?hye1⟩) (by assumption) ?reste1
    case hye1 => (intro w hSw; (try dsimp only at hSw); go_split_ands; go_simp; try (with_reducible rfl))
    try simp only [List.getElem_toArray, List.getElem_cons_zero, List.getElem_cons_succ, Act.put, List.setIfInBounds_toArray, List.set_cons_zero, List.set_cons_succ]
    refine wpAnyH_take (i := 2) (oi := _) (v := ?ve2) rfl (by kernel_rfl) (by kernel_rfl) (by kernel_rfl) (fun _ _ _ h => h) (Or.inl ⟨by rfl, ?hye2⟩) (by assumption) ?reste2
    case hye2 => (intro w hSw; (try dsimp only at hSw); go_split_ands; go_simp; try (with_reducible rfl))
    try simp only [List.getElem_toArray, List.getElem_cons_zero, List.getElem_cons_succ, Act.put, List.setIfInBounds_toArray, List.set_cons_zero, List.set_cons_succ]
    refine wpAnyH_take (i := 3) (oi := _) (v := ?ve3) rfl (by kernel_rfl) (by kernel_rfl) (by kernel_rfl) (fun _ _ _ h => h) (Or.inl ⟨by rfl, ?hye3⟩) (by assumption) ?reste3
    case hye3 => (intro w hSw; (try dsimp only at hSw); go_split_ands; go_simp; try (with_reducible rfl))
    try simp only [List.getElem_toArray, List.getElem_cons_zero, List.getElem_cons_succ, Act.put, List.setIfInBounds_toArray, List.set_cons_zero, List.set_cons_succ]
    refine wpAnyH_take (i := 4) (oi := _) (v := ?ve4) rfl (by kernel_rfl) (by kernel_rfl) (by kernel_rfl) (fun _ _ _ h => h) (Or.inl ⟨by rfl, ?hye4⟩) (by assumption) ?reste4
    case hye4 => (intro w hSw; (try dsimp only at hSw); go_split_ands; go_simp; try (with_reducible rfl))
    try simp only [List.getElem_toArray, List.getElem_cons_zero, List.getElem_cons_succ, Act.put, List.setIfInBounds_toArray, List.set_cons_zero, List.set_cons_succ]
    refine wpAnyH_take (i := 5) (oi := _) (v := ?ve5) rfl (by kernel_rfl) (by kernel_rfl) (by kernel_rfl) (fun _ _ _ h => h) (Or.inl ⟨by rfl, ?hye5⟩) (by assumption) ?reste5
    case hye5 => (intro w hSw; (try dsimp only at hSw); go_split_ands; go_simp; try (with_reducible rfl))
    try simp only [List.getElem_toArray, List.getElem_cons_zero, List.getElem_cons_succ, Act.put, List.setIfInBounds_toArray, List.set_cons_zero, List.set_cons_succ]
    refine wpAnyH_ready (rs := [6]) (by kernel_rfl) (by simp) ?_
    refine AllReadyH.cons (o := _) rfl (fun K hK => ?_) AllReadyH.nil
    go_simp
    refine (close_any _ c2 a2 n2 cap2 at3 lc er3 (F6.out.cur.drewN _)).mono ?_
    rintro e w7 ⟨rfl, q, rfl⟩
    rw [HCl.out]
    go_wp2_with fail
    refine hK.out _ _ ⟨N6.out.r.cell 0, F6.out.r.cell 0⟩ (fun hHeld => ?_)
    clear hK K
    try simp only [List.getElem_toArray, List.getElem_cons_zero, List.getElem_cons_succ, Act.put, List.setIfInBounds_toArray, List.set_cons_zero, List.set_cons_succ]
    refine wpAnyH_ready (rs := [7]) (by kernel_rfl) (by simp) ?_
    refine AllReadyH.cons (o := _) rfl (fun K hK => ?_) AllReadyH.nil
    go_simp
    refine (spoil_any _ c a len cap at2 l e2 fe (N6.out.cur.drewN _)).mono ?_
    rintro e w8 ⟨rfl, hc, hg, hs⟩
    have hg2 := (grownBy_drewN wf _ (some c)).trans hg
    have N0 := hid (N6.out.read hc hg2)
    have hcf := N6.out.cur.row
    have O0 := hid (F6.out.row.kept hg2 (fun e => F6.out.row.ne hcf (by decide) (Option.some.inj e)))
    have W0 := hid ((F6.out.own.mono HBg.out).row hcf (by decide) (by decide) hg2)
    have V0 := hid (V6.out.rd N6.out.below N0.out.below hB N0.out.size)
    have PP := hid (F6.out.r.kept hg2 (fun e => F6.out.r.ne hcf (by decide) (Option.some.inj e)))
    clear hc hg hs hg2 hcf
    go_wp2_with fail
    refine hK.out _ _ ⟨N0.out.r.cell 0, PP.out.cell 0⟩ (fun hHeld => ?_)
    clear hK K
    try simp only [List.getElem_toArray, List.getElem_cons_zero, List.getElem_cons_succ, Act.put, List.setIfInBounds_toArray, List.set_cons_zero, List.set_cons_succ]
    refine wpAnyH_done (by kernel_rfl) ?_ _
    go_wp2_with fail
    clear PP N6 F6 V6

    have HGne := HGn
    generalize her2 : spE e2 fe = er2 at N0 HE
    generalize w8 = wz at *
    refine wp_region_held_drew (S := fun w' => w'.cell? ⟨p, 0, none⟩ = some (.pointer (some ⟨c, 0, none⟩)) ∧ Hid (Row w' g 54 Xq.cs)) (by kernel_rfl) ?_ (fun hHeld => ?_)
    · exact ⟨N0.out.r.cell 0, O0.out⟩
    refine wpAnyH_take (i := 0) (oi := _) (v := ?vg0) rfl (by kernel_rfl) (by kernel_rfl) (by kernel_rfl) (fun _ _ _ h => h) (Or.inl ⟨by rfl, ?hyg0⟩) (by assumption) ?restg0
    case hyg0 => (intro w hSw; (try dsimp only at hSw); go_split_ands; go_simp; try (with_reducible rfl))
    try simp only [List.getElem_toArray, List.getElem_cons_zero, List.getElem_cons_succ, Act.put, List.setIfInBounds_toArray, List.set_cons_zero, List.set_cons_succ]
    refine wpAnyH_take (i := 1) (oi := _) (v := ?vg1) rfl (by kernel_rfl) (by kernel_rfl) (by kernel_rfl) (fun _ _ _ h => h) (Or.inl ⟨by rfl, ?hyg1⟩) (by assumption) ?restg1
    case hyg1 => (intro w hSw; (try dsimp only at hSw); go_split_ands; go_simp; try (with_reducible rfl))
    try simp only [List.getElem_toArray, List.getElem_cons_zero, List.getElem_cons_succ, Act.put, List.setIfInBounds_toArray, List.set_cons_zero, List.set_cons_succ]
    refine wpAnyH_take (i := 2) (oi := _) (v := ?vg2) rfl (by kernel_rfl) (by kernel_rfl) (by kernel_rfl) (fun _ _ _ h => h) (Or.inl ⟨by rfl, ?hyg2⟩) (by assumption) ?restg2
    case hyg2 => (intro w hSw; (try dsimp only at hSw); go_split_ands; go_simp; try (with_reducible rfl))
    try simp only [List.getElem_toArray, List.getElem_cons_zero, List.getElem_cons_succ, Act.put, List.setIfInBounds_toArray, List.set_cons_zero, List.set_cons_succ]
    refine wpAnyH_take (i := 3) (oi := _) (v := ?vg3) rfl (by kernel_rfl) (by kernel_rfl) (by kernel_rfl) (fun _ _ _ h => h) (Or.inl ⟨by rfl, ?hyg3⟩) (by assumption) ?restg3
    case hyg3 => (intro w hSw; (try dsimp only at hSw); go_split_ands; go_simp; try (with_reducible rfl))
    try simp only [List.getElem_toArray, List.getElem_cons_zero, List.getElem_cons_succ, Act.put, List.setIfInBounds_toArray, List.set_cons_zero, List.set_cons_succ]
    refine wpAnyH_take (i := 4) (oi := _) (v := .agg Xq.cs) rfl (by kernel_rfl) (by kernel_rfl) (by kernel_rfl) (fun _ _ _ h => h) (yldOo o43 (by rfl) _ rfl g 0 rfl Xq HXqa.out (fun w h => (h.2).out.part)) (by assumption) ?_
    try simp only [List.getElem_toArray, List.getElem_cons_zero, List.getElem_cons_succ, Act.put, List.setIfInBounds_toArray, List.set_cons_zero, List.set_cons_succ]
    refine wpAnyH_ready (rs := [5]) (by kernel_rfl) (by simp) ?_
    refine AllReadyH.cons (o := _) rfl (fun K hK => ?_) AllReadyH.nil
    go_simp
    refine (optCheck_any Xq _ (W0.out.ok.drewN 1) (V0.out.drewN 1)).mono ?_
    rintro e w6 ⟨rfl, hb6⟩
    have bb := bthen (bdrew (Below.refl wz.heap.size wz) 1) hb6
    have N6 := hid (N0.out.on bb)
    have O6 := hid (O0.out.below bb)
    have W6 := hid (W0.out.below bb)
    have HCk : Hid (chkP Xq.p = chkP Xq.p) := rfl
    clear hb6 bb N0 O0 W0
    generalize hck : chkP Xq.p = ck at *
    have HCK := hid hck
    clear hck HCk
    go_wp2_with fail
    refine hK.out _ _ ⟨N6.out.r.cell 0, O6.out⟩ (fun hHeld => ?_)
    clear hK K
    try simp only [List.getElem_toArray, List.getElem_cons_zero, List.getElem_cons_succ, Act.put, List.setIfInBounds_toArray, List.set_cons_zero, List.set_cons_succ]
    refine wpAnyH_ready (rs := [6]) (by kernel_rfl) (by simp) ?_
    refine AllReadyH.cons (o := _) rfl (fun K hK => ?_) AllReadyH.nil
    go_simp
    refine (spoil_any _ c a len cap at2 l er2 ck N6.out.cur).mono ?_
    rintro e w7 ⟨rfl, hc, hg, hs⟩
    have N7 := hid (N6.out.read hc hg)
    have O7 := hid (O6.out.kept hg (fun e => O6.out.ne N6.out.cur.row (by decide) (Option.some.inj e)))
    have W7 := hid (W6.out.row N6.out.cur.row (by decide) (by decide) hg)
    clear hc hg hs N6 O6 W6
    go_wp2_with fail
    refine hK.out _ _ ⟨N7.out.r.cell 0, O7.out⟩ (fun hHeld => ?_)
    clear hK K
    try simp only [List.getElem_toArray, List.getElem_cons_zero, List.getElem_cons_succ, Act.put, List.setIfInBounds_toArray, List.set_cons_zero, List.set_cons_succ]
    refine wpAnyH_done (by kernel_rfl) ?_ _
    go_wp2_with fail

    refine wp_region_held_drew (S := fun w' => w'.cell? ⟨p, 0, none⟩ = some (.pointer (some ⟨c, 0, none⟩)) ∧ Hid (Row w' g 54 Xq.cs)) (by kernel_rfl) ?_ (fun hHeld => ?_)
    · exact ⟨N7.out.r.cell 0, O7.out⟩
    have S8 : Hid (Row w7.drew g 54 Xq.cs) := hid (O7.out.drewN 1)
    have N8a : Hid (NxAt base w w7.drew p c a len cap l at2 (spE er2 ck) (.slice ga n gc) L) := hid (N7.out.drewN 1)
    have W8a : Hid (Own2 base w7.drew Xq) := hid (W7.out.below (bdrew (Below.refl _ _) 1))
    clear N7 O7 W7
    generalize w7.drew = wd at *
    have O8a := S8
    refine wpAnyH_take (i := 0) (oi := _) (v := ?vh0) rfl (by kernel_rfl) (by kernel_rfl) (by kernel_rfl) (fun _ _ _ h => h) (Or.inl ⟨by rfl, ?hyh0⟩) (by assumption) ?resth0
    case hyh0 => (intro w hSw; (try dsimp only at hSw); go_split_ands; go_simp; try (with_reducible rfl))
    try simp only [List.getElem_toArray, List.getElem_cons_zero, List.getElem_cons_succ, Act.put, List.setIfInBounds_toArray, List.set_cons_zero, List.set_cons_succ]
    refine wpAnyH_take (i := 1) (oi := _) (v := ?vh1) rfl (by kernel_rfl) (by kernel_rfl) (by kernel_rfl) (fun _ _ _ h => h) (Or.inl ⟨by rfl, ?hyh1⟩) (by assumption) ?resth1
    case hyh1 => (intro w hSw; (try dsimp only at hSw); go_split_ands; go_simp; try (with_reducible rfl))
    try simp only [List.getElem_toArray, List.getElem_cons_zero, List.getElem_cons_succ, Act.put, List.setIfInBounds_toArray, List.set_cons_zero, List.set_cons_succ]
    refine wpAnyH_take (i := 2) (oi := _) (v := ?vh2) rfl (by kernel_rfl) (by kernel_rfl) (by kernel_rfl) (fun _ _ _ h => h) (Or.inl ⟨by rfl, ?hyh2⟩) (by assumption) ?resth2
    case hyh2 => (intro w hSw; (try dsimp only at hSw); go_split_ands; go_simp; try (with_reducible rfl))
    try simp only [List.getElem_toArray, List.getElem_cons_zero, List.getElem_cons_succ, Act.put, List.setIfInBounds_toArray, List.set_cons_zero, List.set_cons_succ]
    refine wpAnyH_take (i := 3) (oi := _) (v := ?vh3) rfl (by kernel_rfl) (by kernel_rfl) (by kernel_rfl) (fun _ _ _ h => h) (Or.inl ⟨by rfl, ?hyh3⟩) (by assumption) ?resth3
    case hyh3 => (intro w hSw; (try dsimp only at hSw); go_split_ands; go_simp; try (with_reducible rfl))
    try simp only [List.getElem_toArray, List.getElem_cons_zero, List.getElem_cons_succ, Act.put, List.setIfInBounds_toArray, List.set_cons_zero, List.set_cons_succ]
    refine wpAnyH_take (i := 5) (oi := _) (v := .agg Xq.cs) rfl (by kernel_rfl) (by kernel_rfl) (by kernel_rfl) (fun _ _ _ h => h) (yldOo o43 (by rfl) _ rfl g 0 rfl Xq HXqa.out (fun w h => (h.2).out.part)) (by assumption) ?_
    try simp only [List.getElem_toArray, List.getElem_cons_zero, List.getElem_cons_succ, Act.put, List.setIfInBounds_toArray, List.set_cons_zero, List.set_cons_succ]
    refine wpAnyH_ready (rs := [4, 6]) (by kernel_rfl) (by simp) ?_
    refine AllReadyH.cons (o := _) rfl (fun K hK => ?_) (AllReadyH.cons (o := _) rfl (fun K hK => ?_) AllReadyH.nil)
    · have cn : wd.cell? ⟨p, 1, none⟩ = some (.slice ga n gc) := (N8a.out.r.cell 1)
      go_simp
      go_wp2_with fail
      refine hK.out _ _ ⟨N8a.out.r.cell 0, S8.out⟩ (fun hHeld => ?_)
      clear hK K
      try simp only [List.getElem_toArray, List.getElem_cons_zero, List.getElem_cons_succ, Act.put, List.setIfInBounds_toArray, List.set_cons_zero, List.set_cons_succ]
      clear cn
      refine wpAnyH_ready (rs := [6]) (by kernel_rfl) (by simp) ?_
      refine AllReadyH.cons (o := _) rfl (fun K hK => ?_) AllReadyH.nil
      have BA := hid (balloc (Below.refl _ _) (.cells Xq.cs 54) : Below wd.heap.size wd (wd.alloc (.cells Xq.cs 54)))
      have N8 := hid (N8a.out.on BA.out)
      have O8 := hid (O8a.out.below BA.out)
      have W8 := hid (W8a.out.below BA.out)
      have RXq : Hid (Row (wd.alloc (.cells Xq.cs 54)) wd.heap.size 54 Xq.cs) := hid (Row.new wd 54 Xq.cs)
      clear BA
      refine step_bsO s23 rfl _ rfl Xq HXqa.out rfl ?_
      have S8 := O8
      refine hK.out _ _ ⟨N8.out.r.cell 0, S8.out⟩ (fun hHeld => ?_)
      clear hK K
      try simp only [List.getElem_toArray, List.getElem_cons_zero, List.getElem_cons_succ, Act.put, List.setIfInBounds_toArray, List.set_cons_zero, List.set_cons_succ]
      refine wpAnyH_ready (rs := [7]) (by kernel_rfl) (by simp) ?_
      refine AllReadyH.cons (o := _) rfl (fun K hK => ?_) AllReadyH.nil
      refine step_pushO s23 rfl _ _ rfl base n wd.heap.size (.slice ga n gc) (ocs L) rfl (by have := N8.out.got; rwa [HN.out] at this) Xq HXqa.out rfl (by exact RXq.out) (by exact N8.out.size) (by omega) ?_
      intro v4 w9 hown4 hg4
      obtain ⟨na, nc, rfl⟩ := owns_len hown4
      have N10 := hid (NxAt.push N8.out hg4 Xq W8.out (.slice na (n + 1) nc) (by rw [HN.out]; exact hown4))
      obtain ⟨g1, _, _, _, _⟩ := N8.out.app hg4
      have P9 := hid g1
      have O9 := hid (O8.out.kept hg4 (fun e => HGne.out e.symm))
      clear hown4 hg4 g1 N8 O8 W8 RXq S8
      refine hK.out _ _ ⟨P9.out.cell 0, O9.out⟩ (fun hHeld => ?_)
      clear hK K
      try simp only [List.getElem_toArray, List.getElem_cons_zero, List.getElem_cons_succ, Act.put, List.setIfInBounds_toArray, List.set_cons_zero, List.set_cons_succ]
      have f1 := P9.out.frozen 1
      have cn : w9.cell? ⟨p, 1, none⟩ = some (.slice ga n gc) := P9.out.cell 1
      refine wpAnyH_take (i := 8) (oi := _) (v := ?vi8) rfl (by kernel_rfl) (by kernel_rfl) (by kernel_rfl) (fun _ _ _ h => h) (Or.inl ⟨by rfl, ?hyi8⟩) (by assumption) ?resti8
      case hyi8 => (intro w hSw; (try dsimp only at hSw); go_split_ands; go_simp; try (with_reducible rfl))
      try simp only [List.getElem_toArray, List.getElem_cons_zero, List.getElem_cons_succ, Act.put, List.setIfInBounds_toArray, List.set_cons_zero, List.set_cons_succ]
      refine wpAnyH_take (i := 9) (oi := _) (v := ?vi9) rfl (by kernel_rfl) (by kernel_rfl) (by kernel_rfl) (fun _ _ _ h => h) (Or.inl ⟨by rfl, ?hyi9⟩) (by assumption) ?resti9
      case hyi9 => (intro w hSw; (try dsimp only at hSw); go_split_ands; go_simp; try (with_reducible rfl))
      try simp only [List.getElem_toArray, List.getElem_cons_zero, List.getElem_cons_succ, Act.put, List.setIfInBounds_toArray, List.set_cons_zero, List.set_cons_succ]
      refine wpAnyH_ready (rs := [10]) (by kernel_rfl) (by simp) ?_
      refine AllReadyH.cons (o := _) rfl (fun K hK => ?_) AllReadyH.nil
      go_simp
      go_wp2_with fail
      refine hK.out _ _ ⟨(P9.out.set 1 _).cell 0, O9.out.other _ _ (O9.out.ne P9.out (by decide))⟩ (fun hHeld => ?_)
      clear hK K
      try simp only [List.getElem_toArray, List.getElem_cons_zero, List.getElem_cons_succ, Act.put, List.setIfInBounds_toArray, List.set_cons_zero, List.set_cons_succ]
      refine wpAnyH_done (by kernel_rfl) ?_ _
      go_wp2_with fail
      go_returns
      refine ⟨rfl, at2, _, _, L ++ [Xq], N10.out, ?_, ?_, ?_⟩
      · rw [HN.out, HE.out, ← HCK.out, HXqp.out]
      · rw [List.length_append, HN.out]; simp; omega
      · intro _
        refine ⟨?_, ?_⟩
        · rw [pos, List.map_append, HPn.out, ← HXqp.out]; rfl
        · rw [HNn.out, HA2.out]

    · have BA := hid (balloc (Below.refl _ _) (.cells Xq.cs 54) : Below wd.heap.size wd (wd.alloc (.cells Xq.cs 54)))
      have N8 := hid (N8a.out.on BA.out)
      have O8 := hid (O8a.out.below BA.out)
      have W8 := hid (W8a.out.below BA.out)
      have RXq : Hid (Row (wd.alloc (.cells Xq.cs 54)) wd.heap.size 54 Xq.cs) := hid (Row.new wd 54 Xq.cs)
      clear BA
      refine step_bsO s23 rfl _ rfl Xq HXqa.out rfl ?_
      have S8 := O8
      refine hK.out _ _ ⟨N8.out.r.cell 0, S8.out⟩ (fun hHeld => ?_)
      clear hK K
      try simp only [List.getElem_toArray, List.getElem_cons_zero, List.getElem_cons_succ, Act.put, List.setIfInBounds_toArray, List.set_cons_zero, List.set_cons_succ]
      refine wpAnyH_ready (rs := [4]) (by kernel_rfl) (by simp) ?_
      refine AllReadyH.cons (o := _) rfl (fun K hK => ?_) AllReadyH.nil
      have cn : (wd.alloc (.cells Xq.cs 54)).cell? ⟨p, 1, none⟩ = some (.slice ga n gc) := (N8.out.r.cell 1)
      go_simp
      go_wp2_with fail
      refine hK.out _ _ ⟨N8.out.r.cell 0, S8.out⟩ (fun hHeld => ?_)
      clear hK K
      try simp only [List.getElem_toArray, List.getElem_cons_zero, List.getElem_cons_succ, Act.put, List.setIfInBounds_toArray, List.set_cons_zero, List.set_cons_succ]
      clear cn
      refine wpAnyH_ready (rs := [7]) (by kernel_rfl) (by simp) ?_
      refine AllReadyH.cons (o := _) rfl (fun K hK => ?_) AllReadyH.nil
      refine step_pushO s23 rfl _ _ rfl base n wd.heap.size (.slice ga n gc) (ocs L) rfl (by have := N8.out.got; rwa [HN.out] at this) Xq HXqa.out rfl (by exact RXq.out) (by exact N8.out.size) (by omega) ?_
      intro v4 w9 hown4 hg4
      obtain ⟨na, nc, rfl⟩ := owns_len hown4
      have N10 := hid (NxAt.push N8.out hg4 Xq W8.out (.slice na (n + 1) nc) (by rw [HN.out]; exact hown4))
      obtain ⟨g1, _, _, _, _⟩ := N8.out.app hg4
      have P9 := hid g1
      have O9 := hid (O8.out.kept hg4 (fun e => HGne.out e.symm))
      clear hown4 hg4 g1 N8 O8 W8 RXq S8
      refine hK.out _ _ ⟨P9.out.cell 0, O9.out⟩ (fun hHeld => ?_)
      clear hK K
      try simp only [List.getElem_toArray, List.getElem_cons_zero, List.getElem_cons_succ, Act.put, List.setIfInBounds_toArray, List.set_cons_zero, List.set_cons_succ]
      have f1 := P9.out.frozen 1
      have cn : w9.cell? ⟨p, 1, none⟩ = some (.slice ga n gc) := P9.out.cell 1
      refine wpAnyH_take (i := 8) (oi := _) (v := ?vj8) rfl (by kernel_rfl) (by kernel_rfl) (by kernel_rfl) (fun _ _ _ h => h) (Or.inl ⟨by rfl, ?hyj8⟩) (by assumption) ?restj8
      case hyj8 => (intro w hSw; (try dsimp only at hSw); go_split_ands; go_simp; try (with_reducible rfl))
      try simp only [List.getElem_toArray, List.getElem_cons_zero, List.getElem_cons_succ, Act.put, List.setIfInBounds_toArray, List.set_cons_zero, List.set_cons_succ]
      refine wpAnyH_take (i := 9) (oi := _) (v := ?vj9) rfl (by kernel_rfl) (by kernel_rfl) (by kernel_rfl) (fun _ _ _ h => h) (Or.inl ⟨by rfl, ?hyj9⟩) (by assumption) ?restj9
      case hyj9 => (intro w hSw; (try dsimp only at hSw); go_split_ands; go_simp; try (with_reducible rfl))
      try simp only [List.getElem_toArray, List.getElem_cons_zero, List.getElem_cons_succ, Act.put, List.setIfInBounds_toArray, List.set_cons_zero, List.set_cons_succ]
      refine wpAnyH_ready (rs := [10]) (by kernel_rfl) (by simp) ?_
      refine AllReadyH.cons (o := _) rfl (fun K hK => ?_) AllReadyH.nil
      go_simp
      go_wp2_with fail
      refine hK.out _ _ ⟨(P9.out.set 1 _).cell 0, O9.out.other _ _ (O9.out.ne P9.out (by decide))⟩ (fun hHeld => ?_)
      clear hK K
      try simp only [List.getElem_toArray, List.getElem_cons_zero, List.getElem_cons_succ, Act.put, List.setIfInBounds_toArray, List.set_cons_zero, List.set_cons_succ]
      refine wpAnyH_done (by kernel_rfl) ?_ _
      go_wp2_with fail
      go_returns
      refine ⟨rfl, at2, _, _, L ++ [Xq], N10.out, ?_, ?_, ?_⟩
      · rw [HN.out, HE.out, ← HCK.out, HXqp.out]
      · rw [List.length_append, HN.out]; simp; omega
      · intro _
        refine ⟨?_, ?_⟩
        · rw [pos, List.map_append, HPn.out, ← HXqp.out]; rfl
        · rw [HNn.out, HA2.out]


end Go.Proofs.YtbfjkhafdkhhmaaDoor
