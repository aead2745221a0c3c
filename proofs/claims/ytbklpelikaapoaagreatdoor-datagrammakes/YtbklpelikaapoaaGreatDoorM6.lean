/- datagram's copied: the walk. · Headers in memory. · Options in memory. · Fields that are taken out of a number. · Reading: are all bytes that are left 0? · Reading: skipZeros. · Reading: takeParts. -/
import Derived.Test.YtbklpelikaapoaaGreatDoorM5
import Derived.Test.YtbklpelikaapoaaGreatDoorM2
import Derived.Test.YtbklpelikaapoaaGreatDoorM4
import Derived.Test.YtbklpelikaapoaaGreatDoorM3
namespace Go.Proofs.YtbklpelikaapoaaGreatDoor
open Go.ChangeShapes Go.WideShapes Go.ChangeAt Go.RowKit Go.Deep
set_option linter.unusedVariables false
set_option linter.unusedSimpArgs false

/-- The first k options have lists of the call's own; the others are as they were. -/
structure CpAt (w0 : World) (g0 g1 : Nat) (m : Mv) (a : Option Addr) (cap : Nat) (w : World) (L : List Ov) (k : Nat) : Prop where
  r : Row w g0 38 (m.opt a m.on cap L).cs
  z : Row w g1 38 Mv.zero.cs
  o : w.ownsRow w0.heap.size 140 19 (.slice a m.on cap) m.on (ocs L)
  c : L.length = m.on
  v : ∀ j, j < m.on → if j < k then Own2 w0.heap.size w (L.getD j Ov.zero) ∧ (L.getD j Ov.zero).p = (m.L.getD j Ov.zero).p else L.getD j Ov.zero = m.L.getD j Ov.zero
  b : Below w0.heap.size w0 w
theorem CpAt.below {w0 : World} {g0 g1 : Nat} {m : Mv} {a : Option Addr} {cap : Nat} {w w' : World} {L : List Ov} {k : Nat} (h : CpAt w0 g0 g1 m a cap w L k) (hb : Below w.heap.size w w') : CpAt w0 g0 g1 m a cap w' L k := by
  refine ⟨h.r.below hb, h.z.below hb, own_below h.o hb, h.c, fun j hj => ?_, bthen h.b hb⟩
  have := h.v j hj
  split at this
  · rename_i hjk; rw [if_pos hjk]; exact ⟨this.1.below hb, this.2⟩
  · rename_i hjk; rw [if_neg hjk]; exact this
theorem CpAt.adr {w0 : World} {g0 g1 : Nat} {m : Mv} {a : Option Addr} {cap : Nat} {w : World} {L : List Ov} {k : Nat} (h : CpAt w0 g0 g1 m a cap w L k) (hm : m.ok w0) : ∀ o ∈ L, Adr o.ad := by
  intro o ho
  obtain ⟨j, hj, rfl⟩ := List.getElem_of_mem ho
  rw [h.c] at hj
  have e : L.getD j Ov.zero = L[j] := by simp [List.getD_eq_getElem?_getD, h.c, hj]
  have := h.v j hj
  split at this
  · rw [← e]; exact this.1.ad
  · rw [← e, this]; exact (hm.o.at j hj).ad
theorem CpAt.step {w0 : World} {g0 g1 g : Nat} {m : Mv} {cap : Nat} {w : World} {L : List Ov} {k : Nat} (h : CpAt w0 g0 g1 m (some ⟨g, 0, none⟩) cap w L k) (hm : m.ok w0) (hk : k < m.on) {o : Ov} (ho : m.L.getD k Ov.zero = o) {na ta : Option Addr} {nc tc : Nat}
    (hN : w.ownsRow w0.heap.size 3 1 (.slice na o.n.l.length nc) o.n.l.length (i64s o.n.l)) (hT : w.ownsRow w0.heap.size 5 1 (.slice ta o.t.l.length tc) o.t.l.length (u8s o.t.l)) :
    ∃ L', CpAt w0 g0 g1 m (some ⟨g, 0, none⟩) cap ((w.setCell ⟨g, k * 19 + 1, none⟩ (.slice na o.n.l.length nc)).setCell ⟨g, k * 19 + 18, none⟩ (.slice ta o.t.l.length tc)) L' (k + 1) := by
  have hA := h.adr hm
  have hkl : k < L.length := by rw [h.c]; exact hk
  have hLk : L.getD k Ov.zero = o := by have := h.v k hk; rw [if_neg (by omega)] at this; rw [this, ho]
  have hok : o.ok w0 := by rw [← ho]; exact hm.o.at k hk
  have n0 : g ≠ g0 := fun e => own_row h.o h.r (by decide) (by rw [e]; rfl)
  have n1 : g ≠ g1 := fun e => own_row h.o h.z (by decide) (by rw [e]; rfl)
  obtain ⟨g', e, hbg, _⟩ := own_block h.o (by omega)
  cases e
  have s1 : L.set k (o.setN ⟨na, o.n.l.length, nc, o.n.l⟩) = L.set k (o.setN ⟨na, o.n.l.length, nc, o.n.l⟩) := rfl
  have e1 := ocs_set hA k hkl 1 (by decide) (.slice na o.n.l.length nc) (o.setN ⟨na, o.n.l.length, nc, o.n.l⟩) (by rw [hLk]; exact Ov.set1 o ⟨na, o.n.l.length, nc, o.n.l⟩)
  have hA1 : ∀ x ∈ L.set k (o.setN ⟨na, o.n.l.length, nc, o.n.l⟩), Adr x.ad := by
    intro x hx
    rcases List.mem_or_eq_of_mem_set hx with h' | rfl
    · exact hA x h'
    · exact hok.ad
  have g1' : (L.set k (o.setN ⟨na, o.n.l.length, nc, o.n.l⟩)).getD k Ov.zero = o.setN ⟨na, o.n.l.length, nc, o.n.l⟩ := by simp [hkl]
  have e2 := ocs_set hA1 k (by rw [List.length_set]; exact hkl) 18 (by decide) (.slice ta o.t.l.length tc) ((o.setN ⟨na, o.n.l.length, nc, o.n.l⟩).setT ⟨ta, o.t.l.length, tc, o.t.l⟩) (by rw [g1']; exact Ov.set18 (o := o.setN ⟨na, o.n.l.length, nc, o.n.l⟩) hok.ad ⟨ta, o.t.l.length, tc, o.t.l⟩)
  have o1 := own_cell h.o (k * 19 + 1) (.slice na o.n.l.length nc) (by omega)
  rw [e1] at o1
  have o2 := own_cell o1 (k * 19 + 18) (.slice ta o.t.l.length tc) (by omega)
  rw [e2, List.set_set] at o2
  have kp : ∀ {e : TypeId} {v : Value} {n : Nat} {xs : List Value}, e ≠ 140 → w.ownsRow w0.heap.size e 1 v n xs → ((w.setCell ⟨g, k * 19 + 1, none⟩ (.slice na o.n.l.length nc)).setCell ⟨g, k * 19 + 18, none⟩ (.slice ta o.t.l.length tc)).ownsRow w0.heap.size e 1 v n xs := by
    intro e v n xs hne hv
    have hv1 := hv.kept (grownBy_setCell w g (k * 19 + 1) (.slice na o.n.l.length nc)) (own_apart hv h.o hne)
    exact hv1.kept (grownBy_setCell _ g (k * 19 + 18) (.slice ta o.t.l.length tc)) (own_apart hv1 o1 hne)
  refine ⟨L.set k ((o.setN ⟨na, o.n.l.length, nc, o.n.l⟩).setT ⟨ta, o.t.l.length, tc, o.t.l⟩), (h.r.other _ _ (Ne.symm n0)).other _ _ (Ne.symm n0), (h.z.other _ _ (Ne.symm n1)).other _ _ (Ne.symm n1), o2, by rw [List.length_set]; exact h.c, fun j hj => ?_, bset _ _ (bset _ _ h.b hbg) hbg⟩
  by_cases hjk : k = j
  · subst hjk
    rw [if_pos (by omega), show (L.set k ((o.setN ⟨na, o.n.l.length, nc, o.n.l⟩).setT ⟨ta, o.t.l.length, tc, o.t.l⟩)).getD k Ov.zero = (o.setN ⟨na, o.n.l.length, nc, o.n.l⟩).setT ⟨ta, o.t.l.length, tc, o.t.l⟩ by simp [hkl], ho]
    exact ⟨⟨kp (by decide) hN, rfl, hok.ad, kp (by decide) hT, rfl, hok.oct⟩, rfl⟩
  · have e3 : (L.set k ((o.setN ⟨na, o.n.l.length, nc, o.n.l⟩).setT ⟨ta, o.t.l.length, tc, o.t.l⟩)).getD j Ov.zero = L.getD j Ov.zero := by simp [List.getD_eq_getElem?_getD, List.getElem?_set, hjk]
    rw [e3]
    have hv := h.v j hj
    split at hv
    · rw [if_pos (by omega)]
      obtain ⟨hv1, hv2⟩ := hv
      exact ⟨⟨kp (by decide) hv1.n, hv1.nn, hv1.ad, kp (by decide) hv1.t, hv1.tn, hv1.oct⟩, hv2⟩
    · rw [if_neg (by omega)]; exact hv
theorem CpAt.atN {w0 : World} {g0 g1 g : Nat} {m : Mv} {cap : Nat} {w : World} {L : List Ov} {k : Nat} (h : CpAt w0 g0 g1 m (some ⟨g, 0, none⟩) cap w L k) (hm : m.ok w0) (hk : k < m.on) {o : Ov} (ho : m.L.getD k Ov.zero = o) :
    w.cell? ⟨g, k * 19 + 1, none⟩ = some (.slice o.n.a o.n.n o.n.cap) ∧ w.cell? ⟨g, k * 19 + 18, none⟩ = some (.slice o.t.a o.t.n o.t.cap) := by
  have hA := h.adr hm
  have hkl : k < L.length := by rw [h.c]; exact hk
  have hLk : L.getD k Ov.zero = o := by have := h.v k hk; rw [if_neg (by omega)] at this; rw [this, ho]
  have hok : Adr o.ad := by rw [← ho]; exact (hm.o.at k hk).ad
  exact ⟨own_cellAt h.o (by rw [ocs_at hA k hkl 1 (by decide), hLk]; exact o.at1), own_cellAt h.o (by rw [ocs_at hA k hkl 18 (by decide), hLk]; exact Ov.at18 hok)⟩
theorem pos_ext {L M : List Ov} (hl : L.length = M.length) (h : ∀ j, j < L.length → (L.getD j Ov.zero).p = (M.getD j Ov.zero).p) : pos L = pos M := by
  apply List.ext_getElem
  · simp [pos, hl]
  · intro j h1 h2
    have hj : j < L.length := by simpa [pos] using h1
    have := h j hj
    have hj2 : j < M.length := by omega
    simpa [pos, List.getD_eq_getElem?_getD, hj, hj2] using this
theorem CpAt.done {w0 : World} {g0 g1 : Nat} {m : Mv} {a : Option Addr} {cap : Nat} {w : World} {L : List Ov} (h : CpAt w0 g0 g1 m a cap w L m.on) (hm : m.ok w0) : CpM w0.heap.size w (m.opt a m.on cap L) ∧ (m.opt a m.on cap L).p = m.p := by
  refine ⟨⟨hm.ro, h.o, fun o ho => ?_, h.c⟩, ?_⟩
  · obtain ⟨j, hj, rfl⟩ := List.getElem_of_mem (show o ∈ L from ho)
    rw [h.c] at hj
    have e : L.getD j Ov.zero = L[j] := by simp [List.getD_eq_getElem?_getD, h.c, hj]
    have := h.v j hj
    rw [if_pos hj] at this
    rw [← e]; exact this.1
  · have : pos L = pos m.L := pos_ext (by rw [h.c, hm.o.len]) (fun j hj => by have := h.v j (by rw [← h.c]; exact hj); rw [if_pos (by rw [← h.c]; exact hj)] at this; exact this.2)
    simp only [Mv.p, Mv.opt, this]
theorem cell_keep {w : World} {a : Addr} {v : Value} (h : w.cell? a = some v) (b : Addr) (u : Value) (hne : a ≠ b) : (w.setCell b u).cell? a = some v := by
  rw [World.cell?_setCell_other (h := Ne.symm hne)]; exact h
theorem frozen_keep {w : World} {a : Addr} (h : w.frozen? a = false) (b : Addr) (u : Value) : (w.setCell b u).frozen? a = false := by
  rw [World.frozen?_setCell]; exact h
set_option maxRecDepth 100000 in
set_option maxHeartbeats 3200000 in
theorem dgCopied_any (m : Mv) (w : World) (hm : m.ok w) (hn : m.on ≤ 1000) (hs : Sml m.L) : Calls Tryz.prog 48 #[.agg m.cs] w fun e w' => (∃ m' : Mv, e = .returned (.agg m'.cs) ∧ m'.on = m.on ∧ Hid (m'.p = m.p) ∧ Hid (CpM w.heap.size w' m')) ∧ Below w.heap.size w w' := by
  have hz := zmv
  have HM0 := hid hm
  have HA := hid hm.ro
  have HSm := hid hs
  have R1 := hid ((Row.new w 38 m.cs).alloc (.cells Mv.zero.cs 38))
  have Z1 := hid (Row.new (w.alloc (.cells m.cs 38)) 38 Mv.zero.cs)
  have hs1 : (w.alloc (.cells m.cs 38)).heap.size = w.heap.size + 1 := World.size_alloc ..
  have hs2 : ((w.alloc (.cells m.cs 38)).alloc (.cells Mv.zero.cs 38)).heap.size = w.heap.size + 2 := by rw [World.size_alloc, hs1]
  rw [hs1] at Z1
  have B1 := hid (balloc (balloc (Below.refl w.heap.size w) (.cells m.cs 38)) (.cells Mv.zero.cs 38))
  clear hm hs
  go_enter Tryz.func48, Tryz.ntmps48
  go_upto_region 1 with fail
  generalize hw1 : (w.alloc (.cells m.cs 38)).alloc (.cells Mv.zero.cs 38) = w1 at *
  generalize hg1 : w.heap.size + 1 = g1 at *
  have HG1 := hid hg1
  generalize hg0 : w.heap.size = g0 at *
  have HG0 := hid hg0
  rw [← hg0] at B1
  have c27 := (R1.out.cell 27).trans (Mv.at27 HA.out)
  have f27 := R1.out.frozen 27
  clear hw1 hs1 hz hg0 hg1
  go_wp2_with fail
  refine (cloneO_any _ _ _ _ _ (HM0.out.o.below B1.out) hn).mono ?_
  rintro e w2 ⟨v2, rfl, hown, hb⟩
  rw [HM0.out.o.len] at hown
  obtain ⟨oa, oc, rfl⟩ := owns_len hown
  have R2 := hid (R1.out.below hb)
  have Z2 := hid (Z1.out.below hb)
  have B2 := hid (bthen B1.out hb)
  have HS2 := hid hs2
  have O2 := hid (own_set hown (g := g0) (by rw [hs2]; omega) 27 (.slice oa m.on oc))
  clear hb hown R1 Z1 c27 f27
  have c27 := (R2.out.cell 27).trans (Mv.at27 HA.out)
  have f27 := R2.out.frozen 27
  go_upto_region 2 with fail
  have H3 : Hid (CpAt w g0 g1 m oa oc (w2.setCell ⟨g0, 27, none⟩ (.slice oa m.on oc)) m.L 0) := by
    refine ⟨?_, Z2.out.other _ _ (by have := HG1.out; have := HG0.out; show g1 ≠ g0; omega), own_mono O2.out B1.out.size, HM0.out.o.len, fun j hj => by rw [if_neg (by omega)], bset _ _ B2.out (by rw [HG0.out]; exact Nat.le_refl _)⟩
    have := R2.out.set 27 (.slice oa m.on oc)
    rwa [Mv.set27 HA.out oa m.on oc m.L] at this
  generalize w2.setCell ⟨g0, 27, none⟩ (.slice oa m.on oc) = w3 at *
  clear R2 Z2 B2 O2 c27 f27 hs2 HS2
  have c27 : w3.cell? ⟨g0, 27, none⟩ = some (.slice oa m.on oc) := (H3.out.r.cell 27).trans (Mv.at27 (m := m.opt oa m.on oc m.L) HA.out)
  go_wp2_with fail
  go_loopw [12] (fun i wr => ∃ k : Nat, k ≤ m.on ∧ i = .int .i64 k ∧ Hid (∃ L, CpAt w g0 g1 m oa oc wr L k)) (fun i _ => m.on - (intOf i).toNat)
  case atStart => exact ⟨0, by omega, rfl, hid ⟨_, H3.out⟩⟩
  case round =>
    obtain ⟨k, hk, rfl, hX⟩ := hrel
    obtain ⟨L, hX⟩ := hX.out
    have H := hid hX
    clear hX
    by_cases hlt : k < m.on
    · have i1 : (k : Int) < (m.on : Int) := by omega
      obtain ⟨g, rfl, _⟩ := own_block H.out.o (by omega)
      have c27 : wr.cell? ⟨g0, 27, none⟩ = some (.slice (some ⟨g, 0, none⟩) m.on oc) := (H.out.r.cell 27).trans (Mv.at27 (m := m.opt (some ⟨g, 0, none⟩) m.on oc L) HA.out)
      have OK0 := hid (HM0.out.o.at k hlt)
      have hn1 : (m.L.getD k Ov.zero).n.n ≤ 100000 ∧ (m.L.getD k Ov.zero).t.n ≤ 100000 := HSm.out _ (by have := HM0.out.o.len; simp [List.getD_eq_getElem?_getD, show k < m.L.length by omega])
      obtain ⟨hn1, hn2⟩ := hn1
      generalize hoo : m.L.getD k Ov.zero = o at *
      have hoo := hid hoo
      go_upto_region 6 with fail
      refine wp_region_held_drew (S := fun w' => True) (by kernel_rfl) ?_ (fun hHeld => ?_)
      · exact trivial
      replace H : Hid (CpAt w g0 g1 m (some ⟨g, 0, none⟩) oc wr.drew L k) := hid (H.out.below (show Below wr.heap.size wr wr.drew from bdrew (Below.refl _ _) 1))
      generalize wr.drew = wd at *
      refine wpAnyH_take (i := 0) (oi := _) (v := ?va0) rfl (by kernel_rfl) (by kernel_rfl) (by kernel_rfl) (fun _ _ _ h => h) (Or.inl ⟨by rfl, ?hya0⟩) (by assumption) ?resta0
      case hya0 => (intro w hSw; (try dsimp only at hSw); go_split_ands; go_simp; try (with_reducible rfl))
      try simp only [List.getElem_toArray, List.getElem_cons_zero, List.getElem_cons_succ, Act.put, List.setIfInBounds_toArray, List.set_cons_zero, List.set_cons_succ]
      refine wpAnyH_take (i := 1) (oi := _) (v := ?va1) rfl (by kernel_rfl) (by kernel_rfl) (by kernel_rfl) (fun _ _ _ h => h) (Or.inl ⟨by rfl, ?hya1⟩) (by assumption) ?resta1
      case hya1 => (intro w hSw; (try dsimp only at hSw); go_split_ands; go_simp; try (with_reducible rfl))
      try simp only [List.getElem_toArray, List.getElem_cons_zero, List.getElem_cons_succ, Act.put, List.setIfInBounds_toArray, List.set_cons_zero, List.set_cons_succ]
      refine wpAnyH_take (i := 2) (oi := _) (v := ?va2) rfl (by kernel_rfl) (by kernel_rfl) (by kernel_rfl) (fun _ _ _ h => h) (Or.inl ⟨by rfl, ?hya2⟩) (by assumption) ?resta2
      case hya2 => (intro w hSw; (try dsimp only at hSw); go_split_ands; go_simp; try (with_reducible rfl))
      try simp only [List.getElem_toArray, List.getElem_cons_zero, List.getElem_cons_succ, Act.put, List.setIfInBounds_toArray, List.set_cons_zero, List.set_cons_succ]
      refine wpAnyH_take (i := 3) (oi := _) (v := ?va3) rfl (by kernel_rfl) (by kernel_rfl) (by kernel_rfl) (fun _ _ _ h => h) (Or.inl ⟨by rfl, ?hya3⟩) (by assumption) ?resta3
      case hya3 => (intro w hSw; (try dsimp only at hSw); go_split_ands; go_simp; try (with_reducible rfl))
      try simp only [List.getElem_toArray, List.getElem_cons_zero, List.getElem_cons_succ, Act.put, List.setIfInBounds_toArray, List.set_cons_zero, List.set_cons_succ]
      refine wpAnyH_take (i := 4) (oi := _) (v := ?va4) rfl (by kernel_rfl) (by kernel_rfl) (by kernel_rfl) (fun _ _ _ h => h) (Or.inl ⟨by rfl, ?hya4⟩) (by assumption) ?resta4
      case hya4 => (intro w hSw; (try dsimp only at hSw); go_split_ands; go_simp; try (with_reducible rfl))
      try simp only [List.getElem_toArray, List.getElem_cons_zero, List.getElem_cons_succ, Act.put, List.setIfInBounds_toArray, List.set_cons_zero, List.set_cons_succ]
      refine wpAnyH_take (i := 7) (oi := _) (v := ?va7) rfl (by kernel_rfl) (by kernel_rfl) (by kernel_rfl) (fun _ _ _ h => h) (Or.inl ⟨by rfl, ?hya7⟩) (by assumption) ?resta7
      case hya7 => (intro w hSw; (try dsimp only at hSw); go_split_ands; go_simp; try (with_reducible rfl))
      try simp only [List.getElem_toArray, List.getElem_cons_zero, List.getElem_cons_succ, Act.put, List.setIfInBounds_toArray, List.set_cons_zero, List.set_cons_succ]
      refine wpAnyH_take (i := 8) (oi := _) (v := ?va8) rfl (by kernel_rfl) (by kernel_rfl) (by kernel_rfl) (fun _ _ _ h => h) (Or.inl ⟨by rfl, ?hya8⟩) (by assumption) ?resta8
      case hya8 => (intro w hSw; (try dsimp only at hSw); go_split_ands; go_simp; try (with_reducible rfl))
      try simp only [List.getElem_toArray, List.getElem_cons_zero, List.getElem_cons_succ, Act.put, List.setIfInBounds_toArray, List.set_cons_zero, List.set_cons_succ]
      refine wpAnyH_take (i := 9) (oi := _) (v := ?va9) rfl (by kernel_rfl) (by kernel_rfl) (by kernel_rfl) (fun _ _ _ h => h) (Or.inl ⟨by rfl, ?hya9⟩) (by assumption) ?resta9
      case hya9 => (intro w hSw; (try dsimp only at hSw); go_split_ands; go_simp; try (with_reducible rfl))
      try simp only [List.getElem_toArray, List.getElem_cons_zero, List.getElem_cons_succ, Act.put, List.setIfInBounds_toArray, List.set_cons_zero, List.set_cons_succ]
      refine wpAnyH_ready (rs := [5, 10]) (by kernel_rfl) (by simp) ?_
      refine AllReadyH.cons (o := _) rfl (fun K hK => ?_) (AllReadyH.cons (o := _) rfl (fun K hK => ?_) AllReadyH.nil)
      · have cc := (CpAt.atN H.out HM0.out hlt hoo.out).1
        go_simp
        go_wp2_with fail
        refine hK.out _ _ trivial (fun hHeld => ?_)
        clear hK K
        try simp only [List.getElem_toArray, List.getElem_cons_zero, List.getElem_cons_succ, Act.put, List.setIfInBounds_toArray, List.set_cons_zero, List.set_cons_succ]
        clear cc
        refine wpAnyH_ready (rs := [6, 10]) (by kernel_rfl) (by simp) ?_
        refine AllReadyH.cons (o := _) rfl (fun K hK => ?_) (AllReadyH.cons (o := _) rfl (fun K hK => ?_) AllReadyH.nil)
        · go_simp
          refine (clone60_any _ _ _ _ _ (OK0.out.n.below H.out.b) hn1).mono ?_
          rintro e w1c ⟨v6, rfl, hown, hb⟩
          obtain ⟨na, nc, rfl⟩ := owns_len hown
          have NN := hid (own_mono hown H.out.b.size)
          replace H := hid (H.out.below hb)
          clear hb hown
          go_wp2_with fail
          refine hK.out _ _ trivial (fun hHeld => ?_)
          clear hK K
          try simp only [List.getElem_toArray, List.getElem_cons_zero, List.getElem_cons_succ, Act.put, List.setIfInBounds_toArray, List.set_cons_zero, List.set_cons_succ]
          refine wpAnyH_ready (rs := [10]) (by kernel_rfl) (by simp) ?_
          refine AllReadyH.cons (o := _) rfl (fun K hK => ?_) AllReadyH.nil
          have cc := (CpAt.atN H.out HM0.out hlt hoo.out).2
          go_simp
          go_wp2_with fail
          refine hK.out _ _ trivial (fun hHeld => ?_)
          clear hK K
          try simp only [List.getElem_toArray, List.getElem_cons_zero, List.getElem_cons_succ, Act.put, List.setIfInBounds_toArray, List.set_cons_zero, List.set_cons_succ]
          clear cc
          refine wpAnyH_ready (rs := [11]) (by kernel_rfl) (by simp) ?_
          refine AllReadyH.cons (o := _) rfl (fun K hK => ?_) AllReadyH.nil
          go_simp
          refine (clone_any _ _ _ _ _ (OK0.out.t.below H.out.b) hn2).mono ?_
          rintro e w2c ⟨v7, rfl, hown, hb⟩
          obtain ⟨ta, tc, rfl⟩ := owns_len hown
          have TT := hid (own_mono hown H.out.b.size)
          replace NN := hid (own_below NN.out hb)
          replace H := hid (H.out.below hb)
          clear hb hown
          go_wp2_with fail
          refine hK.out _ _ trivial (fun hHeld => ?_)
          clear hK K
          try simp only [List.getElem_toArray, List.getElem_cons_zero, List.getElem_cons_succ, Act.put, List.setIfInBounds_toArray, List.set_cons_zero, List.set_cons_succ]
          have hz1 := own_soft H.out.o (k * 19 + 1)
          have hc1 := (CpAt.atN H.out HM0.out hlt hoo.out).1
          refine wpAnyH_take (i := 12) (oi := _) (v := ?vlw3c12) rfl (by kernel_rfl) (by kernel_rfl) (by kernel_rfl) (fun _ _ _ h => h) (Or.inl ⟨by rfl, ?hylw3c12⟩) (by assumption) ?restlw3c12
          case hylw3c12 => (intro w hSw; (try dsimp only at hSw); go_split_ands; go_simp; try (with_reducible rfl))
          try simp only [List.getElem_toArray, List.getElem_cons_zero, List.getElem_cons_succ, Act.put, List.setIfInBounds_toArray, List.set_cons_zero, List.set_cons_succ]
          refine wpAnyH_take (i := 13) (oi := _) (v := ?vlw3c13) rfl (by kernel_rfl) (by kernel_rfl) (by kernel_rfl) (fun _ _ _ h => h) (Or.inl ⟨by rfl, ?hylw3c13⟩) (by assumption) ?restlw3c13
          case hylw3c13 => (intro w hSw; (try dsimp only at hSw); go_split_ands; go_simp; try (with_reducible rfl))
          try simp only [List.getElem_toArray, List.getElem_cons_zero, List.getElem_cons_succ, Act.put, List.setIfInBounds_toArray, List.set_cons_zero, List.set_cons_succ]
          refine wpAnyH_ready (rs := [14]) (by kernel_rfl) (by simp) ?_
          refine AllReadyH.cons (o := _) rfl (fun K hK => ?_) AllReadyH.nil
          go_simp
          go_wp2_with fail
          have hz2 := frozen_keep (own_soft H.out.o (k * 19 + 18)) ⟨g, k * 19 + 1, none⟩ (.slice na o.n.l.length nc)
          have hc2 := cell_keep (CpAt.atN H.out HM0.out hlt hoo.out).2 ⟨g, k * 19 + 1, none⟩ (.slice na o.n.l.length nc) (by simp)
          refine hK.out _ _ trivial (fun hHeld => ?_)
          clear hK K
          try simp only [List.getElem_toArray, List.getElem_cons_zero, List.getElem_cons_succ, Act.put, List.setIfInBounds_toArray, List.set_cons_zero, List.set_cons_succ]
          clear hz1 hc1
          refine wpAnyH_take (i := 15) (oi := _) (v := ?vlw3c15) rfl (by kernel_rfl) (by kernel_rfl) (by kernel_rfl) (fun _ _ _ h => h) (Or.inl ⟨by rfl, ?hylw3c15⟩) (by assumption) ?restlw3c15
          case hylw3c15 => (intro w hSw; (try dsimp only at hSw); go_split_ands; go_simp; try (with_reducible rfl))
          try simp only [List.getElem_toArray, List.getElem_cons_zero, List.getElem_cons_succ, Act.put, List.setIfInBounds_toArray, List.set_cons_zero, List.set_cons_succ]
          refine wpAnyH_take (i := 16) (oi := _) (v := ?vlw3c16) rfl (by kernel_rfl) (by kernel_rfl) (by kernel_rfl) (fun _ _ _ h => h) (Or.inl ⟨by rfl, ?hylw3c16⟩) (by assumption) ?restlw3c16
          case hylw3c16 => (intro w hSw; (try dsimp only at hSw); go_split_ands; go_simp; try (with_reducible rfl))
          try simp only [List.getElem_toArray, List.getElem_cons_zero, List.getElem_cons_succ, Act.put, List.setIfInBounds_toArray, List.set_cons_zero, List.set_cons_succ]
          refine wpAnyH_ready (rs := [17]) (by kernel_rfl) (by simp) ?_
          refine AllReadyH.cons (o := _) rfl (fun K hK => ?_) AllReadyH.nil
          go_simp
          go_wp2_with fail
          clear hz2 hc2
          refine hK.out _ _ trivial (fun hHeld => ?_)
          clear hK K
          try simp only [List.getElem_toArray, List.getElem_cons_zero, List.getElem_cons_succ, Act.put, List.setIfInBounds_toArray, List.set_cons_zero, List.set_cons_succ]
          refine wpAnyH_done (by kernel_rfl) ?_ _
          go_wp2_with fail
          go_roundw
          case rel => exact ⟨k + 1, by omega, by go_num, hid (CpAt.step H.out HM0.out hlt hoo.out NN.out TT.out)⟩
          case measure => simp [intOf]; omega
        · have cc := (CpAt.atN H.out HM0.out hlt hoo.out).2
          go_simp
          go_wp2_with fail
          refine hK.out _ _ trivial (fun hHeld => ?_)
          clear hK K
          try simp only [List.getElem_toArray, List.getElem_cons_zero, List.getElem_cons_succ, Act.put, List.setIfInBounds_toArray, List.set_cons_zero, List.set_cons_succ]
          clear cc
          refine wpAnyH_ready (rs := [6]) (by kernel_rfl) (by simp) ?_
          refine AllReadyH.cons (o := _) rfl (fun K hK => ?_) AllReadyH.nil
          go_simp
          refine (clone60_any _ _ _ _ _ (OK0.out.n.below H.out.b) hn1).mono ?_
          rintro e w4c ⟨v6, rfl, hown, hb⟩
          obtain ⟨na, nc, rfl⟩ := owns_len hown
          have NN := hid (own_mono hown H.out.b.size)
          replace H := hid (H.out.below hb)
          clear hb hown
          go_wp2_with fail
          refine hK.out _ _ trivial (fun hHeld => ?_)
          clear hK K
          try simp only [List.getElem_toArray, List.getElem_cons_zero, List.getElem_cons_succ, Act.put, List.setIfInBounds_toArray, List.set_cons_zero, List.set_cons_succ]
          refine wpAnyH_ready (rs := [11]) (by kernel_rfl) (by simp) ?_
          refine AllReadyH.cons (o := _) rfl (fun K hK => ?_) AllReadyH.nil
          go_simp
          refine (clone_any _ _ _ _ _ (OK0.out.t.below H.out.b) hn2).mono ?_
          rintro e w5c ⟨v7, rfl, hown, hb⟩
          obtain ⟨ta, tc, rfl⟩ := owns_len hown
          have TT := hid (own_mono hown H.out.b.size)
          replace NN := hid (own_below NN.out hb)
          replace H := hid (H.out.below hb)
          clear hb hown
          go_wp2_with fail
          refine hK.out _ _ trivial (fun hHeld => ?_)
          clear hK K
          try simp only [List.getElem_toArray, List.getElem_cons_zero, List.getElem_cons_succ, Act.put, List.setIfInBounds_toArray, List.set_cons_zero, List.set_cons_succ]
          have hz1 := own_soft H.out.o (k * 19 + 1)
          have hc1 := (CpAt.atN H.out HM0.out hlt hoo.out).1
          refine wpAnyH_take (i := 12) (oi := _) (v := ?vlw6c12) rfl (by kernel_rfl) (by kernel_rfl) (by kernel_rfl) (fun _ _ _ h => h) (Or.inl ⟨by rfl, ?hylw6c12⟩) (by assumption) ?restlw6c12
          case hylw6c12 => (intro w hSw; (try dsimp only at hSw); go_split_ands; go_simp; try (with_reducible rfl))
          try simp only [List.getElem_toArray, List.getElem_cons_zero, List.getElem_cons_succ, Act.put, List.setIfInBounds_toArray, List.set_cons_zero, List.set_cons_succ]
          refine wpAnyH_take (i := 13) (oi := _) (v := ?vlw6c13) rfl (by kernel_rfl) (by kernel_rfl) (by kernel_rfl) (fun _ _ _ h => h) (Or.inl ⟨by rfl, ?hylw6c13⟩) (by assumption) ?restlw6c13
          case hylw6c13 => (intro w hSw; (try dsimp only at hSw); go_split_ands; go_simp; try (with_reducible rfl))
          try simp only [List.getElem_toArray, List.getElem_cons_zero, List.getElem_cons_succ, Act.put, List.setIfInBounds_toArray, List.set_cons_zero, List.set_cons_succ]
          refine wpAnyH_ready (rs := [14]) (by kernel_rfl) (by simp) ?_
          refine AllReadyH.cons (o := _) rfl (fun K hK => ?_) AllReadyH.nil
          go_simp
          go_wp2_with fail
          have hz2 := frozen_keep (own_soft H.out.o (k * 19 + 18)) ⟨g, k * 19 + 1, none⟩ (.slice na o.n.l.length nc)
          have hc2 := cell_keep (CpAt.atN H.out HM0.out hlt hoo.out).2 ⟨g, k * 19 + 1, none⟩ (.slice na o.n.l.length nc) (by simp)
          refine hK.out _ _ trivial (fun hHeld => ?_)
          clear hK K
          try simp only [List.getElem_toArray, List.getElem_cons_zero, List.getElem_cons_succ, Act.put, List.setIfInBounds_toArray, List.set_cons_zero, List.set_cons_succ]
          clear hz1 hc1
          refine wpAnyH_take (i := 15) (oi := _) (v := ?vlw6c15) rfl (by kernel_rfl) (by kernel_rfl) (by kernel_rfl) (fun _ _ _ h => h) (Or.inl ⟨by rfl, ?hylw6c15⟩) (by assumption) ?restlw6c15
          case hylw6c15 => (intro w hSw; (try dsimp only at hSw); go_split_ands; go_simp; try (with_reducible rfl))
          try simp only [List.getElem_toArray, List.getElem_cons_zero, List.getElem_cons_succ, Act.put, List.setIfInBounds_toArray, List.set_cons_zero, List.set_cons_succ]
          refine wpAnyH_take (i := 16) (oi := _) (v := ?vlw6c16) rfl (by kernel_rfl) (by kernel_rfl) (by kernel_rfl) (fun _ _ _ h => h) (Or.inl ⟨by rfl, ?hylw6c16⟩) (by assumption) ?restlw6c16
          case hylw6c16 => (intro w hSw; (try dsimp only at hSw); go_split_ands; go_simp; try (with_reducible rfl))
          try simp only [List.getElem_toArray, List.getElem_cons_zero, List.getElem_cons_succ, Act.put, List.setIfInBounds_toArray, List.set_cons_zero, List.set_cons_succ]
          refine wpAnyH_ready (rs := [17]) (by kernel_rfl) (by simp) ?_
          refine AllReadyH.cons (o := _) rfl (fun K hK => ?_) AllReadyH.nil
          go_simp
          go_wp2_with fail
          clear hz2 hc2
          refine hK.out _ _ trivial (fun hHeld => ?_)
          clear hK K
          try simp only [List.getElem_toArray, List.getElem_cons_zero, List.getElem_cons_succ, Act.put, List.setIfInBounds_toArray, List.set_cons_zero, List.set_cons_succ]
          refine wpAnyH_done (by kernel_rfl) ?_ _
          go_wp2_with fail
          go_roundw
          case rel => exact ⟨k + 1, by omega, by go_num, hid (CpAt.step H.out HM0.out hlt hoo.out NN.out TT.out)⟩
          case measure => simp [intOf]; omega
      · have cc := (CpAt.atN H.out HM0.out hlt hoo.out).2
        go_simp
        go_wp2_with fail
        refine hK.out _ _ trivial (fun hHeld => ?_)
        clear hK K
        try simp only [List.getElem_toArray, List.getElem_cons_zero, List.getElem_cons_succ, Act.put, List.setIfInBounds_toArray, List.set_cons_zero, List.set_cons_succ]
        clear cc
        refine wpAnyH_ready (rs := [5]) (by kernel_rfl) (by simp) ?_
        refine AllReadyH.cons (o := _) rfl (fun K hK => ?_) AllReadyH.nil
        have cc := (CpAt.atN H.out HM0.out hlt hoo.out).1
        go_simp
        go_wp2_with fail
        refine hK.out _ _ trivial (fun hHeld => ?_)
        clear hK K
        try simp only [List.getElem_toArray, List.getElem_cons_zero, List.getElem_cons_succ, Act.put, List.setIfInBounds_toArray, List.set_cons_zero, List.set_cons_succ]
        clear cc
        refine wpAnyH_ready (rs := [6]) (by kernel_rfl) (by simp) ?_
        refine AllReadyH.cons (o := _) rfl (fun K hK => ?_) AllReadyH.nil
        go_simp
        refine (clone60_any _ _ _ _ _ (OK0.out.n.below H.out.b) hn1).mono ?_
        rintro e w7c ⟨v6, rfl, hown, hb⟩
        obtain ⟨na, nc, rfl⟩ := owns_len hown
        have NN := hid (own_mono hown H.out.b.size)
        replace H := hid (H.out.below hb)
        clear hb hown
        go_wp2_with fail
        refine hK.out _ _ trivial (fun hHeld => ?_)
        clear hK K
        try simp only [List.getElem_toArray, List.getElem_cons_zero, List.getElem_cons_succ, Act.put, List.setIfInBounds_toArray, List.set_cons_zero, List.set_cons_succ]
        refine wpAnyH_ready (rs := [11]) (by kernel_rfl) (by simp) ?_
        refine AllReadyH.cons (o := _) rfl (fun K hK => ?_) AllReadyH.nil
        go_simp
        refine (clone_any _ _ _ _ _ (OK0.out.t.below H.out.b) hn2).mono ?_
        rintro e w8c ⟨v7, rfl, hown, hb⟩
        obtain ⟨ta, tc, rfl⟩ := owns_len hown
        have TT := hid (own_mono hown H.out.b.size)
        replace NN := hid (own_below NN.out hb)
        replace H := hid (H.out.below hb)
        clear hb hown
        go_wp2_with fail
        refine hK.out _ _ trivial (fun hHeld => ?_)
        clear hK K
        try simp only [List.getElem_toArray, List.getElem_cons_zero, List.getElem_cons_succ, Act.put, List.setIfInBounds_toArray, List.set_cons_zero, List.set_cons_succ]
        have hz1 := own_soft H.out.o (k * 19 + 1)
        have hc1 := (CpAt.atN H.out HM0.out hlt hoo.out).1
        refine wpAnyH_take (i := 12) (oi := _) (v := ?vlw9c12) rfl (by kernel_rfl) (by kernel_rfl) (by kernel_rfl) (fun _ _ _ h => h) (Or.inl ⟨by rfl, ?hylw9c12⟩) (by assumption) ?restlw9c12
        case hylw9c12 => (intro w hSw; (try dsimp only at hSw); go_split_ands; go_simp; try (with_reducible rfl))
        try simp only [List.getElem_toArray, List.getElem_cons_zero, List.getElem_cons_succ, Act.put, List.setIfInBounds_toArray, List.set_cons_zero, List.set_cons_succ]
        refine wpAnyH_take (i := 13) (oi := _) (v := ?vlw9c13) rfl (by kernel_rfl) (by kernel_rfl) (by kernel_rfl) (fun _ _ _ h => h) (Or.inl ⟨by rfl, ?hylw9c13⟩) (by assumption) ?restlw9c13
        case hylw9c13 => (intro w hSw; (try dsimp only at hSw); go_split_ands; go_simp; try (with_reducible rfl))
        try simp only [List.getElem_toArray, List.getElem_cons_zero, List.getElem_cons_succ, Act.put, List.setIfInBounds_toArray, List.set_cons_zero, List.set_cons_succ]
        refine wpAnyH_ready (rs := [14]) (by kernel_rfl) (by simp) ?_
        refine AllReadyH.cons (o := _) rfl (fun K hK => ?_) AllReadyH.nil
        go_simp
        go_wp2_with fail
        have hz2 := frozen_keep (own_soft H.out.o (k * 19 + 18)) ⟨g, k * 19 + 1, none⟩ (.slice na o.n.l.length nc)
        have hc2 := cell_keep (CpAt.atN H.out HM0.out hlt hoo.out).2 ⟨g, k * 19 + 1, none⟩ (.slice na o.n.l.length nc) (by simp)
        refine hK.out _ _ trivial (fun hHeld => ?_)
        clear hK K
        try simp only [List.getElem_toArray, List.getElem_cons_zero, List.getElem_cons_succ, Act.put, List.setIfInBounds_toArray, List.set_cons_zero, List.set_cons_succ]
        clear hz1 hc1
        refine wpAnyH_take (i := 15) (oi := _) (v := ?vlw9c15) rfl (by kernel_rfl) (by kernel_rfl) (by kernel_rfl) (fun _ _ _ h => h) (Or.inl ⟨by rfl, ?hylw9c15⟩) (by assumption) ?restlw9c15
        case hylw9c15 => (intro w hSw; (try dsimp only at hSw); go_split_ands; go_simp; try (with_reducible rfl))
        try simp only [List.getElem_toArray, List.getElem_cons_zero, List.getElem_cons_succ, Act.put, List.setIfInBounds_toArray, List.set_cons_zero, List.set_cons_succ]
        refine wpAnyH_take (i := 16) (oi := _) (v := ?vlw9c16) rfl (by kernel_rfl) (by kernel_rfl) (by kernel_rfl) (fun _ _ _ h => h) (Or.inl ⟨by rfl, ?hylw9c16⟩) (by assumption) ?restlw9c16
        case hylw9c16 => (intro w hSw; (try dsimp only at hSw); go_split_ands; go_simp; try (with_reducible rfl))
        try simp only [List.getElem_toArray, List.getElem_cons_zero, List.getElem_cons_succ, Act.put, List.setIfInBounds_toArray, List.set_cons_zero, List.set_cons_succ]
        refine wpAnyH_ready (rs := [17]) (by kernel_rfl) (by simp) ?_
        refine AllReadyH.cons (o := _) rfl (fun K hK => ?_) AllReadyH.nil
        go_simp
        go_wp2_with fail
        clear hz2 hc2
        refine hK.out _ _ trivial (fun hHeld => ?_)
        clear hK K
        try simp only [List.getElem_toArray, List.getElem_cons_zero, List.getElem_cons_succ, Act.put, List.setIfInBounds_toArray, List.set_cons_zero, List.set_cons_succ]
        refine wpAnyH_done (by kernel_rfl) ?_ _
        go_wp2_with fail
        go_roundw
        case rel => exact ⟨k + 1, by omega, by go_num, hid (CpAt.step H.out HM0.out hlt hoo.out NN.out TT.out)⟩
        case measure => simp [intOf]; omega
    · have i1 : ¬ (k : Int) < (m.on : Int) := by omega
      obtain rfl : k = m.on := by omega
      obtain ⟨hC, hP⟩ := H.out.done HM0.out
      have HC := hid hC
      have HPP := hid hP
      have HAX : Hid (Adr (m.opt oa m.on oc L).ro) := HA
      have Z5 := hid (H.out.z.setRow (m.opt oa m.on oc L).cs)
      have BW := hid (below_setRow' H.out.b (g := g1) (by have := HG1.out; have := HG0.out; omega) (m.opt oa m.on oc L).cs)
      have C5 : Hid (CpM w.heap.size (wr.setRow g1 (m.opt oa m.on oc L).cs) (m.opt oa m.on oc L)) := hid ⟨HA.out, own_setRowT HC.out.own H.out.z (by decide), fun o ho => ⟨own_setRowT (HC.out.own2 o ho).n H.out.z (by decide), (HC.out.own2 o ho).nn, (HC.out.own2 o ho).ad, own_setRowT (HC.out.own2 o ho).t H.out.z (by decide), (HC.out.own2 o ho).tn, (HC.out.own2 o ho).oct⟩, HC.out.len⟩
      clear hC hP
      go_wp2_with (first | (refine ldM m29 _ rfl rfl g0 0 rfl (m.opt oa m.on oc L) HAX.out H.out.r.part ?_) | (refine stM m29 _ _ rfl rfl g1 (m.opt oa m.on oc L) HAX.out rfl rfl 38 Mv.zero adr_zeros H.out.z ?_))
      exact bodyPost_ret (resM m29 rfl _ _ g1 38 (m.opt oa m.on oc L) HAX.out rfl Z5.out) rfl ⟨⟨_, rfl, rfl, HPP, C5⟩, BW.out⟩
end Go.Proofs.YtbklpelikaapoaaGreatDoor

namespace Go.Proofs.YtbklpelikaapoaaGreatDoor
open Go.ChangeShapes Go.WideShapes Go.ChangeAt Go.RowKit
set_option linter.unusedVariables false
set_option linter.unusedSimpArgs false

/-- A header. -/
structure Hd where
  c : Int
  fl : Int
  ln : Int
  nx : Int
  hp : Int
  f : List Int
  t : List Int
/-- Its cells. -/
def Hd.cs (h : Hd) : Array Value := #[.int .i64 h.c, .int .i64 h.fl, .int .i64 h.ln, .int .i64 h.nx, .int .i64 h.hp] ++ (arr h.f ++ arr h.t)
def Hd.ok (h : Hd) : Prop := Adr h.f ∧ Adr h.t
def Hd.zero : Hd := ⟨0, 0, 0, 0, 0, zeros, zeros⟩
theorem Hd.zero_ok : Hd.zero.ok := ⟨adr_zeros, adr_zeros⟩
def Hd.setLn (h : Hd) (x : Int) : Hd := ⟨h.c, h.fl, x, h.nx, h.hp, h.f, h.t⟩
def Hd.setHp (h : Hd) (x : Int) : Hd := ⟨h.c, h.fl, h.ln, h.nx, x, h.f, h.t⟩
def Hd.setNx (h : Hd) (x : Int) : Hd := ⟨h.c, h.fl, h.ln, x, h.hp, h.f, h.t⟩
def Hd.setF (h : Hd) (x : List Int) : Hd := ⟨h.c, h.fl, h.ln, h.nx, h.hp, x, h.t⟩
def Hd.setT (h : Hd) (x : List Int) : Hd := ⟨h.c, h.fl, h.ln, h.nx, h.hp, h.f, x⟩
theorem Hd.setLn_ok {h : Hd} (k : h.ok) (x : Int) : (h.setLn x).ok := k
theorem Hd.setNx_ok {h : Hd} (k : h.ok) (x : Int) : (h.setNx x).ok := k
theorem Hd.setF_ok {h : Hd} (k : h.ok) {x : List Int} (hx : Adr x) : (h.setF x).ok := ⟨hx, k.2⟩
theorem Hd.setT_ok {h : Hd} (k : h.ok) {x : List Int} (hx : Adr x) : (h.setT x).ok := ⟨k.1, hx⟩
theorem Hd.size {h : Hd} (k : h.ok) : h.cs.size = 37 := by simp [Hd.cs, arr_size, k.1.1, k.2.1]
theorem Hd.one (h : Hd) : h.cs.all (·.oneCell') = true := by simp [Hd.cs, Array.all_append, arr, u8s, Value.oneCell']
theorem Hd.at0 (h : Hd) : h.cs[0]? = some (.int .i64 h.c) := by simp [Hd.cs, Array.getElem?_append]
theorem Hd.at1 (h : Hd) : h.cs[1]? = some (.int .i64 h.fl) := by simp [Hd.cs, Array.getElem?_append]
theorem Hd.at2 (h : Hd) : h.cs[2]? = some (.int .i64 h.ln) := by simp [Hd.cs, Array.getElem?_append]
theorem Hd.at3 (h : Hd) : h.cs[3]? = some (.int .i64 h.nx) := by simp [Hd.cs, Array.getElem?_append]
theorem Hd.at4 (h : Hd) : h.cs[4]? = some (.int .i64 h.hp) := by simp [Hd.cs, Array.getElem?_append]
theorem Hd.atF {h : Hd} (k : h.ok) (j : Nat) (hj : j < 16) : h.cs[5 + j]? = some (.int .u8 (h.f.getD j 0)) := by
  rw [Hd.cs, Array.getElem?_append_right (by simp), show 5 + j - Array.size #[Value.int .i64 h.c, .int .i64 h.fl, .int .i64 h.ln, .int .i64 h.nx, .int .i64 h.hp] = j by simp, Array.getElem?_append_left (by rw [arr_size, k.1.1]; exact hj), arr_at _ _ (by rw [k.1.1]; exact hj)]
theorem Hd.atT {h : Hd} (k : h.ok) (j : Nat) (hj : j < 16) : h.cs[21 + j]? = some (.int .u8 (h.t.getD j 0)) := by
  rw [Hd.cs, Array.getElem?_append_right (by simp; omega), show 21 + j - Array.size #[Value.int .i64 h.c, .int .i64 h.fl, .int .i64 h.ln, .int .i64 h.nx, .int .i64 h.hp] = 16 + j by simp; omega, Array.getElem?_append_right (by rw [arr_size, k.1.1]; omega), arr_size, k.1.1, show 16 + j - 16 = j by omega, arr_at _ _ (by rw [k.2.1]; exact hj)]
theorem Hd.set2 (h : Hd) (x : Int) : h.cs.setIfInBounds 2 (.int .i64 x) = (h.setLn x).cs := by
  apply Array.ext'; simp [Hd.cs, Hd.setLn, List.set_append]
theorem Hd.set3 (h : Hd) (x : Int) : h.cs.setIfInBounds 3 (.int .i64 x) = (h.setNx x).cs := by
  apply Array.ext'; simp [Hd.cs, Hd.setNx, List.set_append]
theorem Hd.set4 (h : Hd) (x : Int) : h.cs.setIfInBounds 4 (.int .i64 x) = (h.setHp x).cs := by
  apply Array.ext'; simp [Hd.cs, Hd.setHp, List.set_append]
theorem Row.partF {w : World} {b : Nat} {t : TypeId} {h : Hd} (k : h.ok) (r : Row w b t h.cs) : Part w b 5 (arr h.f) := fun j v hv => by
  have hj : j < 16 := by have := (Array.getElem?_eq_some_iff.1 hv).1; rw [arr_size, k.1.1] at this; exact this
  rw [r.cell, Hd.atF k j hj, ← hv, arr_at _ _ (by rw [k.1.1]; exact hj)]
theorem Row.partT {w : World} {b : Nat} {t : TypeId} {h : Hd} (k : h.ok) (r : Row w b t h.cs) : Part w b 21 (arr h.t) := fun j v hv => by
  have hj : j < 16 := by have := (Array.getElem?_eq_some_iff.1 hv).1; rw [arr_size, k.2.1] at this; exact this
  rw [r.cell, Hd.atT k j hj, ← hv, arr_at _ _ (by rw [k.2.1]; exact hj)]
theorem sizeAr : (Tryz.prog.info? 22).map (·.size) = some 16 := by kernel_rfl
theorem sizeAd : (Tryz.prog.info? 33).map (·.size) = some 16 := by kernel_rfl
theorem sizeHd : (Tryz.prog.info? 35).map (·.size) = some 37 := by kernel_rfl
theorem ldAr {ops : Array Oper} {rest : List Oper} {o : Oper} {a : Act} {w : World} {Q : Exit → Act → World → Prop} (x : Operand) (ho : o.op = .load 22 x) (hw : Region.wanted o (yielded ops a.tmps) = true) (g off : Nat) (hx : a.eval x = .pointer (some ⟨g, off, none⟩)) (l : List Int) (hl : l.length = 16) (hg : Part w g off (arr l))
    (h : wpList Tryz.prog ops Q rest (a.put o.dst (.agg (arr l))) w) : wpList Tryz.prog ops Q (o :: rest) a w :=
  wp_ld 22 x ho hw g off hx (arr l) _ Tryz.underlying22 rfl (by rw [arr_size, hl]; exact sizeAr) hg h
theorem ldAd {ops : Array Oper} {rest : List Oper} {o : Oper} {a : Act} {w : World} {Q : Exit → Act → World → Prop} (x : Operand) (ho : o.op = .load 33 x) (hw : Region.wanted o (yielded ops a.tmps) = true) (g off : Nat) (hx : a.eval x = .pointer (some ⟨g, off, none⟩)) (l : List Int) (hl : l.length = 16) (hg : Part w g off (arr l))
    (h : wpList Tryz.prog ops Q rest (a.put o.dst (.agg (arr l))) w) : wpList Tryz.prog ops Q (o :: rest) a w :=
  wp_ld 33 x ho hw g off hx (arr l) _ Tryz.underlying33 rfl (by rw [arr_size, hl]; exact sizeAd) hg h
theorem ldHd {ops : Array Oper} {rest : List Oper} {o : Oper} {a : Act} {w : World} {Q : Exit → Act → World → Prop} (x : Operand) (ho : o.op = .load 35 x) (hw : Region.wanted o (yielded ops a.tmps) = true) (g : Nat) (hx : a.eval x = .pointer (some ⟨g, 0, none⟩)) (h : Hd) (k : h.ok) (t : TypeId) (hg : Row w g t h.cs)
    (hn : wpList Tryz.prog ops Q rest (a.put o.dst (.agg h.cs)) w) : wpList Tryz.prog ops Q (o :: rest) a w :=
  wp_ld 35 x ho hw g 0 hx h.cs _ Tryz.underlying35 rfl (by rw [Hd.size k]; exact sizeHd) hg.part hn
theorem stHd {ops : Array Oper} {rest : List Oper} {o : Oper} {a : Act} {w : World} {Q : Exit → Act → World → Prop} (x y : Operand) (ho : o.op = .store 35 x y) (hgd : o.guard = none) (g : Nat) (h : Hd) (k : h.ok) (hx : a.eval x = .pointer (some ⟨g, 0, none⟩)) (hy : a.eval y = .agg h.cs) (t : TypeId) (old : Hd) (ko : old.ok) (hg : Row w g t old.cs)
    (hn : wpList Tryz.prog ops Q rest (a.put o.dst undef) (w.setRow g h.cs)) : wpList Tryz.prog ops Q (o :: rest) a w :=
  wp_st 35 x y ho hgd g h.cs hx hy (by rw [Hd.size k]; exact sizeHd) h.one t old.cs (by rw [Hd.size k, Hd.size ko]) hg hn
theorem resHd {fn : Func} {p : Tmp} (hf : fn.results = #[.cell p 35]) (tmps : Array Value) (w : World) (g : Nat) (t : TypeId) (h : Hd) (k : h.ok)
    (hp : tmps.getD p undef = .pointer (some ⟨g, 0, none⟩)) (hg : Row w g t h.cs) : (results fn tmps).run Tryz.prog w = .ok (.agg h.cs) w :=
  results_cell_row hf tmps w g t h.cs (0, 0) _ hp hg Tryz.underlying35 rfl (by rw [Hd.size k]; exact sizeHd)
theorem resHdf {fn : Func} {p u x : Tmp} (hf : fn.results = #[.cell p 35, .tmp u, .tmp x]) (tmps : Array Value) (w : World) (g : Nat) (t : TypeId) (h : Hd) (k : h.ok) (v y : Value)
    (hp : tmps.getD p undef = .pointer (some ⟨g, 0, none⟩)) (hu : tmps.getD u undef = v) (hx : tmps.getD x undef = y) (hg : Row w g t h.cs) : (results fn tmps).run Tryz.prog w = .ok (.tuple #[.agg h.cs, v, y]) w := by
  have hp' : tmps[p]?.getD undef = .pointer (some ⟨g, 0, none⟩) := by simpa using hp
  have hu' : tmps[u]?.getD undef = v := by simpa using hu
  have hx' : tmps[x]?.getD undef = y := by simpa using hx
  simp only [results, hf]
  simp [Sem.run_bind, Result.andThen, hp', hu', hx', asAddr, run_loadVar_row w g t 35 h.cs (0, 0) _ hg Tryz.underlying35 rfl (by rw [Hd.size k]; exact sizeHd)]
theorem builtHdz : Tryz.prog.built 35 [] = some Hd.zero.cs := by kernel_rfl
theorem bdHdz {ops : Array Oper} {rest : List Oper} {o : Oper} {a : Act} {w : World} {Q : Exit → Act → World → Prop} (ho : o.op = .build 35 #[]) (hg : o.guard = none)
    (hn : wpList Tryz.prog ops Q rest (a.put o.dst (.agg Hd.zero.cs)) w) : wpList Tryz.prog ops Q (o :: rest) a w :=
  wp_bd 35 _ ho hg Hd.zero.cs (by simp only [List.map_toArray, List.map_nil]; exact builtHdz) hn
theorem builtHdb (c fl : Int) : Tryz.prog.built 35 [(0, .int .i64 c), (1, .int .i64 fl)] = some (Hd.cs ⟨c, fl, 0, 0, 0, zeros, zeros⟩) := by kernel_rfl
theorem bdHdb {ops : Array Oper} {rest : List Oper} {o : Oper} {a : Act} {w : World} {Q : Exit → Act → World → Prop} (x0 x1 : Operand) (ho : o.op = .build 35 #[(0, x0), (1, x1)]) (hg : o.guard = none)
    (c fl : Int) (h0 : a.eval x0 = .int .i64 c) (h1 : a.eval x1 = .int .i64 fl)
    (hn : wpList Tryz.prog ops Q rest (a.put o.dst (.agg (Hd.cs ⟨c, fl, 0, 0, 0, zeros, zeros⟩))) w) : wpList Tryz.prog ops Q (o :: rest) a w :=
  wp_bd 35 _ ho hg _ (by simp only [List.map_toArray, List.map_cons, List.map_nil, h0, h1]; exact builtHdb c fl) hn
theorem zhd : (List.toArray (Value.int .i64 0 :: Value.int .i64 0 :: Value.int .i64 0 :: Value.int .i64 0 :: Value.int .i64 0 :: Value.int .u8 0 :: Value.int .u8 0 :: Value.int .u8 0 :: Value.int .u8 0 :: Value.int .u8 0 :: Value.int .u8 0 :: Value.int .u8 0 :: Value.int .u8 0 :: Value.int .u8 0 :: Value.int .u8 0 :: Value.int .u8 0 :: Value.int .u8 0 :: Value.int .u8 0 :: Value.int .u8 0 :: Value.int .u8 0 :: Value.int .u8 0 :: Value.int .u8 0 :: Value.int .u8 0 :: Value.int .u8 0 :: Value.int .u8 0 :: Value.int .u8 0 :: Value.int .u8 0 :: Value.int .u8 0 :: Value.int .u8 0 :: Value.int .u8 0 :: Value.int .u8 0 :: Value.int .u8 0 :: Value.int .u8 0 :: Value.int .u8 0 :: Value.int .u8 0 :: Value.int .u8 0 :: Value.int .u8 0 :: []) : Array Value) = Hd.zero.cs := rfl
end Go.Proofs.YtbklpelikaapoaaGreatDoor

namespace Go.Proofs.YtbklpelikaapoaaGreatDoor
open Go.ChangeShapes Go.WideShapes Go.ChangeAt Go.RowKit
set_option linter.unusedVariables false
set_option linter.unusedSimpArgs false

/-- An option. -/
structure Ho where
  d : Bool
  w : Bool
  f : Bool
  i : Int
  r : Int
/-- Its cells. -/
def Ho.cs (o : Ho) : Array Value := #[.bool o.d, .bool o.w, .bool o.f, .int .i64 o.i, .int .i64 o.r]
def Ho.zero : Ho := ⟨false, false, false, 0, 0⟩
def Ho.setD (o : Ho) (x : Bool) : Ho := ⟨x, o.w, o.f, o.i, o.r⟩
def Ho.setW (o : Ho) (x : Bool) : Ho := ⟨o.d, x, o.f, o.i, o.r⟩
def Ho.setF (o : Ho) (x : Bool) : Ho := ⟨o.d, o.w, x, o.i, o.r⟩
def Ho.setI (o : Ho) (x : Int) : Ho := ⟨o.d, o.w, o.f, x, o.r⟩
def Ho.setR (o : Ho) (x : Int) : Ho := ⟨o.d, o.w, o.f, o.i, x⟩
theorem Ho.size (o : Ho) : o.cs.size = 5 := rfl
theorem Ho.one (o : Ho) : o.cs.all (·.oneCell') = true := by simp [Ho.cs, Value.oneCell']
theorem Ho.at0 (o : Ho) : o.cs[0]? = some (.bool o.d) := rfl
theorem Ho.at1 (o : Ho) : o.cs[1]? = some (.bool o.w) := rfl
theorem Ho.at2 (o : Ho) : o.cs[2]? = some (.bool o.f) := rfl
theorem Ho.at3 (o : Ho) : o.cs[3]? = some (.int .i64 o.i) := rfl
theorem Ho.at4 (o : Ho) : o.cs[4]? = some (.int .i64 o.r) := rfl
theorem Ho.set0 (o : Ho) (x : Bool) : o.cs.setIfInBounds 0 (.bool x) = (o.setD x).cs := rfl
theorem Ho.set1 (o : Ho) (x : Bool) : o.cs.setIfInBounds 1 (.bool x) = (o.setW x).cs := rfl
theorem Ho.set2 (o : Ho) (x : Bool) : o.cs.setIfInBounds 2 (.bool x) = (o.setF x).cs := rfl
theorem Ho.set3 (o : Ho) (x : Int) : o.cs.setIfInBounds 3 (.int .i64 x) = (o.setI x).cs := rfl
theorem Ho.set4 (o : Ho) (x : Int) : o.cs.setIfInBounds 4 (.int .i64 x) = (o.setR x).cs := rfl
theorem zho : (#[Value.bool false, .bool false, .bool false, .int .i64 0, .int .i64 0] : Array Value) = Ho.zero.cs := rfl
/-- A type of options. -/
structure OT (t : TypeId) : Prop where
  desc : ∃ fs, Tryz.prog.underlying t = some (.struct fs)
  info : (Tryz.prog.info? t).map (·.size) = some 5
  full : ∀ (o : Ho), Tryz.prog.built t [(0, .bool o.d), (1, .bool o.w), (2, .bool o.f), (3, .int .i64 o.i), (4, .int .i64 o.r)] = some o.cs
  bare : Tryz.prog.built t [] = some Ho.zero.cs
theorem built39 (d w f : Bool) (i r : Int) : Tryz.prog.built 39 [(0, .bool d), (1, .bool w), (2, .bool f), (3, .int .i64 i), (4, .int .i64 r)] = some #[.bool d, .bool w, .bool f, .int .i64 i, .int .i64 r] := by kernel_rfl
theorem built29 (d w f : Bool) (i r : Int) : Tryz.prog.built 29 [(0, .bool d), (1, .bool w), (2, .bool f), (3, .int .i64 i), (4, .int .i64 r)] = some #[.bool d, .bool w, .bool f, .int .i64 i, .int .i64 r] := by kernel_rfl
theorem oh : OT 39 := ⟨⟨_, Tryz.underlying39⟩, by kernel_rfl, fun o => built39 o.d o.w o.f o.i o.r, by kernel_rfl⟩
theorem or_ : OT 29 := ⟨⟨_, Tryz.underlying29⟩, by kernel_rfl, fun o => built29 o.d o.w o.f o.i o.r, by kernel_rfl⟩
theorem ldO {ops : Array Oper} {rest : List Oper} {o : Oper} {a : Act} {w : World} {Q : Exit → Act → World → Prop} {t : TypeId} (ht : OT t) (x : Operand) (ho : o.op = .load t x) (hw : Region.wanted o (yielded ops a.tmps) = true) (g : Nat) (hx : a.eval x = .pointer (some ⟨g, 0, none⟩)) (h : Ho) (t' : TypeId) (hg : Row w g t' h.cs)
    (hn : wpList Tryz.prog ops Q rest (a.put o.dst (.agg h.cs)) w) : wpList Tryz.prog ops Q (o :: rest) a w := by
  obtain ⟨fs, h1⟩ := ht.desc
  exact wp_ld t x ho hw g 0 hx h.cs _ h1 rfl ht.info hg.part hn
theorem stO {ops : Array Oper} {rest : List Oper} {o : Oper} {a : Act} {w : World} {Q : Exit → Act → World → Prop} {t : TypeId} (ht : OT t) (x y : Operand) (ho : o.op = .store t x y) (hgd : o.guard = none) (g : Nat) (h : Ho) (hx : a.eval x = .pointer (some ⟨g, 0, none⟩)) (hy : a.eval y = .agg h.cs) (t' : TypeId) (old : Ho) (hg : Row w g t' old.cs)
    (hn : wpList Tryz.prog ops Q rest (a.put o.dst undef) (w.setRow g h.cs)) : wpList Tryz.prog ops Q (o :: rest) a w :=
  wp_st t x y ho hgd g h.cs hx hy ht.info h.one t' old.cs rfl hg hn
theorem bdO {ops : Array Oper} {rest : List Oper} {o : Oper} {a : Act} {w : World} {Q : Exit → Act → World → Prop} {t : TypeId} (ht : OT t) (x0 x1 x2 x3 x4 : Operand) (ho : o.op = .build t #[(0, x0), (1, x1), (2, x2), (3, x3), (4, x4)]) (hg : o.guard = none)
    (h : Ho) (h0 : a.eval x0 = .bool h.d) (h1 : a.eval x1 = .bool h.w) (h2 : a.eval x2 = .bool h.f) (h3 : a.eval x3 = .int .i64 h.i) (h4 : a.eval x4 = .int .i64 h.r)
    (hn : wpList Tryz.prog ops Q rest (a.put o.dst (.agg h.cs)) w) : wpList Tryz.prog ops Q (o :: rest) a w :=
  wp_bd t _ ho hg h.cs (by simp only [List.map_toArray, List.map_cons, List.map_nil, h0, h1, h2, h3, h4]; exact ht.full h) hn
theorem bdOz {ops : Array Oper} {rest : List Oper} {o : Oper} {a : Act} {w : World} {Q : Exit → Act → World → Prop} {t : TypeId} (ht : OT t) (ho : o.op = .build t #[]) (hg : o.guard = none)
    (hn : wpList Tryz.prog ops Q rest (a.put o.dst (.agg Ho.zero.cs)) w) : wpList Tryz.prog ops Q (o :: rest) a w :=
  wp_bd t _ ho hg Ho.zero.cs (by simp only [List.map_toArray, List.map_nil]; exact ht.bare) hn
/-- A load of an option in a drawn region. -/
theorem yldO {ops : Array Oper} {S : World → Prop} {op : Oper} {a : Act} {t : TypeId} (ht : OT t) (hw : Region.wanted op (yielded ops a.tmps) = true) (x : Operand) (ho : op.op = .load t x)
    (g : Nat) (hx : a.eval x = .pointer (some ⟨g, 0, none⟩)) (h : Ho) (t' : TypeId) (hS : ∀ w, S w → Row w g t' h.cs) : YieldsIf Tryz.prog ops S op (.agg h.cs) a := by
  obtain ⟨fs, h1⟩ := ht.desc
  exact yields_ld hw t x ho g hx h.cs _ (fun w k => (hS w k).part) h1 rfl ht.info
theorem ldRun {t : TypeId} (ht : OT t) (w : World) (g : Nat) (t' : TypeId) (h : Ho) (hg : Row w g t' h.cs) : (loadVar t ⟨g, 0, none⟩).run Tryz.prog w = .ok (.agg h.cs) w := by
  obtain ⟨fs, h1⟩ := ht.desc
  exact run_loadVar_row w g t' t h.cs (0, 0) _ hg h1 rfl ht.info
theorem resO {fn : Func} {p : Tmp} {t : TypeId} (ht : OT t) (hf : fn.results = #[.cell p t]) (tmps : Array Value) (w : World) (g : Nat) (t' : TypeId) (h : Ho)
    (hp : tmps.getD p undef = .pointer (some ⟨g, 0, none⟩)) (hg : Row w g t' h.cs) : (results fn tmps).run Tryz.prog w = .ok (.agg h.cs) w := by
  obtain ⟨fs, h1⟩ := ht.desc
  exact results_cell_row hf tmps w g t' h.cs (0, 0) _ hp hg h1 rfl ht.info
theorem resOd {fn : Func} {p u x y : Tmp} {t : TypeId} (ht : OT t) (hf : fn.results = #[.tmp u, .cell p t, .tmp x, .tmp y]) (tmps : Array Value) (w : World) (g : Nat) (t' : TypeId) (h : Ho) (v1 v2 v3 : Value)
    (hp : tmps.getD p undef = .pointer (some ⟨g, 0, none⟩)) (hu : tmps.getD u undef = v1) (hx : tmps.getD x undef = v2) (hy : tmps.getD y undef = v3) (hg : Row w g t' h.cs) : (results fn tmps).run Tryz.prog w = .ok (.tuple #[v1, .agg h.cs, v2, v3]) w := by
  have hp' : tmps[p]?.getD undef = .pointer (some ⟨g, 0, none⟩) := by simpa using hp
  have hu' : tmps[u]?.getD undef = v1 := by simpa using hu
  have hx' : tmps[x]?.getD undef = v2 := by simpa using hx
  have hy' : tmps[y]?.getD undef = v3 := by simpa using hy
  simp only [results, hf]
  simp [Sem.run_bind, Result.andThen, hp', hu', hx', hy', asAddr, ldRun ht w g t' h hg]
/-- Are two options the same? -/
def Ho.eqB (a b : Ho) : Bool := a.d == b.d && (a.w == b.w && (a.f == b.f && (a.i == b.i && a.r == b.r)))
theorem Ho.eqB_self (a : Ho) : a.eqB a = true := by simp [Ho.eqB]
theorem eqFieldsO (fs : List Field) (hf : fs.map (fun f => (f.name == "_", f.type, f.offset)) = [(false, 4, 0), (false, 4, 1), (false, 4, 2), (false, 3, 3), (false, 3, 4)]) (a b : Ho) (w : World) :
    (Op.eqFields 9999 a.cs b.cs fs).run Tryz.prog w = .ok (a.eqB b) w := by
  have hlen : fs.length = 5 := by have := congrArg List.length hf; simpa using this
  match fs, hlen, hf with
  | [f0, f1, f2, f3, f4], _, hf =>
    simp only [List.map_cons, List.map_nil, List.cons.injEq, Prod.mk.injEq, and_true, beq_eq_false_iff_ne] at hf
    obtain ⟨⟨n0, t0, o0⟩, ⟨n1, t1, o1⟩, ⟨n2, t2, o2⟩, ⟨n3, t3, o3⟩, n4, t4, o4⟩ := hf
    have a3 : (isAgg 3).run Tryz.prog w = .ok false w := by unfold isAgg; rw [Sem.run_bind, run_underlying Tryz.underlying3 w]; rfl
    have a4 : (isAgg 4).run Tryz.prog w = .ok false w := by unfold isAgg; rw [Sem.run_bind, run_underlying Tryz.underlying4 w]; rfl
    have hq : ∀ (h : Ho) (j : Nat) (n : Int), h.cs[j]? = some (.int .i64 n) → (part 3 h.cs j).run Tryz.prog w = .ok (.int .i64 n) w := by
      intro h j n e
      simp only [part, Sem.run_bind, a3, Result.andThen_ok, Bool.false_eq_true, if_false, e, Sem.run_pure]
    have hb : ∀ (h : Ho) (j : Nat) (n : Bool), h.cs[j]? = some (.bool n) → (part 4 h.cs j).run Tryz.prog w = .ok (.bool n) w := by
      intro h j n e
      simp only [part, Sem.run_bind, a4, Result.andThen_ok, Bool.false_eq_true, if_false, e, Sem.run_pure]
    have e3 : ∀ n m : Int, (Op.equalIn 9999 3 (.int .i64 n) (.int .i64 m)).run Tryz.prog w = .ok (n == m) w := fun n m => run_equalIn_int (P := Tryz.prog) w 9998 3 .i64 .i64 n m Tryz.underlying3
    have e4 : ∀ n m : Bool, (Op.equalIn 9999 4 (.bool n) (.bool m)).run Tryz.prog w = .ok (n == m) w := fun n m => run_equalIn_bool (P := Tryz.prog) w 9998 4 n m Tryz.underlying4
    unfold Ho.eqB
    rw [Op.eqFields, if_pos n0, t0, o0, Sem.run_bind, hb a 0 _ a.at0, Result.andThen_ok, Sem.run_bind, hb b 0 _ b.at0, Result.andThen_ok, Sem.run_bind, e4, Result.andThen_ok]
    cases a.d == b.d
    · rfl
    simp only [Bool.not_true, Bool.false_eq_true, if_false, Bool.true_and]
    rw [Op.eqFields, if_pos n1, t1, o1, Sem.run_bind, hb a 1 _ a.at1, Result.andThen_ok, Sem.run_bind, hb b 1 _ b.at1, Result.andThen_ok, Sem.run_bind, e4, Result.andThen_ok]
    cases a.w == b.w
    · rfl
    simp only [Bool.not_true, Bool.false_eq_true, if_false, Bool.true_and]
    rw [Op.eqFields, if_pos n2, t2, o2, Sem.run_bind, hb a 2 _ a.at2, Result.andThen_ok, Sem.run_bind, hb b 2 _ b.at2, Result.andThen_ok, Sem.run_bind, e4, Result.andThen_ok]
    cases a.f == b.f
    · rfl
    simp only [Bool.not_true, Bool.false_eq_true, if_false, Bool.true_and]
    rw [Op.eqFields, if_pos n3, t3, o3, Sem.run_bind, hq a 3 _ a.at3, Result.andThen_ok, Sem.run_bind, hq b 3 _ b.at3, Result.andThen_ok, Sem.run_bind, e3, Result.andThen_ok]
    cases a.i == b.i
    · rfl
    simp only [Bool.not_true, Bool.false_eq_true, if_false, Bool.true_and]
    rw [Op.eqFields, if_pos n4, t4, o4, Sem.run_bind, hq a 4 _ a.at4, Result.andThen_ok, Sem.run_bind, hq b 4 _ b.at4, Result.andThen_ok, Sem.run_bind, e3, Result.andThen_ok]
    cases a.r == b.r
    · rfl
    rfl
theorem fieldsRo : Tryz.prog.underlying 29 = some (.struct (Tryz.prog.fieldsOf 29)) := by kernel_rfl
theorem heldRo : Tryz.prog.stoodInHeld 29 = false := by kernel_rfl
theorem fsRo : (Tryz.prog.fieldsOf 29).toList.map (fun f => (f.name == "_", f.type, f.offset)) = [(false, 4, 0), (false, 4, 1), (false, 4, 2), (false, 3, 3), (false, 3, 4)] := by kernel_rfl
theorem eqRo (a b : Ho) : ∀ w : World, (Op.equalIn 10000 29 (.agg a.cs) (.agg b.cs)).run Tryz.prog w = .ok (a.eqB b) w := fun w => by
  rw [run_equalIn_struct w 9999 29 _ _ fieldsRo heldRo]
  exact eqFieldsO _ fsRo a b w
end Go.Proofs.YtbklpelikaapoaaGreatDoor

namespace Go.Proofs.YtbklpelikaapoaaGreatDoor
open Go.ChangeShapes Go.WideShapes Go.ChangeAt Go.RowKit Go.Deep
set_option linter.unusedVariables false
set_option linter.unusedSimpArgs false

theorem and_field (a s t : Nat) : a &&& ((2 ^ t - 1) * 2 ^ s) = a / 2 ^ s % 2 ^ t * 2 ^ s := by
  apply Nat.eq_of_testBit_eq
  intro i
  rw [Nat.testBit_and, ← Nat.shiftLeft_eq, ← Nat.shiftLeft_eq, Nat.testBit_shiftLeft, Nat.testBit_shiftLeft, Nat.testBit_two_pow_sub_one, Nat.testBit_mod_two_pow, Nat.testBit_div_two_pow]
  by_cases h : s ≤ i
  · have e : i - s + s = i := by omega
    have e2 : s + (i - s) = i := by omega
    simp [h, e, e2, Bool.and_comm]
  · simp [h]
theorem not_part (a m : Nat) (ha : a < 18446744073709551616) (hm : m < 18446744073709551616) : (a &&& (18446744073709551615 - m)) + (a &&& m) = a := by
  have h1 : (BitVec.ofNat 64 a &&& ~~~BitVec.ofNat 64 m) &&& (BitVec.ofNat 64 a &&& BitVec.ofNat 64 m) = 0#64 := by
    ext i hi
    simp
    intro _ h2 _
    exact h2
  have h2 := BitVec.add_eq_or_of_and_eq_zero _ _ h1
  have h3 : (BitVec.ofNat 64 a &&& ~~~BitVec.ofNat 64 m) ||| (BitVec.ofNat 64 a &&& BitVec.ofNat 64 m) = BitVec.ofNat 64 a := by
    ext i hi
    simp
    cases (BitVec.ofNat 64 a)[i] <;> cases (BitVec.ofNat 64 m)[i] <;> simp
  rw [h3] at h2
  have h4 := congrArg BitVec.toNat h2
  rw [BitVec.toNat_add, BitVec.toNat_and, BitVec.toNat_and, BitVec.toNat_not, BitVec.toNat_ofNat, BitVec.toNat_ofNat, Nat.mod_eq_of_lt (by omega : a < 2 ^ 64), Nat.mod_eq_of_lt (by omega : m < 2 ^ 64)] at h4
  have e : 2 ^ 64 - 1 - m = 18446744073709551615 - m := by omega
  rw [e] at h4
  have l1 : a &&& m ≤ a := Nat.and_le_left
  have l2 : a &&& (18446744073709551615 - m) ≤ a := Nat.and_le_left
  by_cases hlt : (a &&& (18446744073709551615 - m)) + (a &&& m) < 2 ^ 64
  · rw [Nat.mod_eq_of_lt hlt] at h4; exact h4
  · exfalso
    omega
/-- A field's value, and what is left. -/
def fval (n : Int) (f : Fl) : Int := n / 2 ^ f.s % ((f.l : Int) + 1)
def fleft (n : Int) (f : Fl) : Int := n - fval n f * 2 ^ f.s
theorem fval_bd (n : Int) (f : Fl) : 0 ≤ fval n f ∧ fval n f ≤ f.l := by
  unfold fval
  have h1 := Int.emod_nonneg (n / 2 ^ f.s) (show ((f.l : Int) + 1) ≠ 0 by omega)
  have h2 := Int.emod_lt_of_pos (n / 2 ^ f.s) (show (0 : Int) < (f.l : Int) + 1 by omega)
  omega
/-- A field of a number below 65536. -/
def FOk (f : Fl) : Prop := ∃ t, f.l + 1 = 2 ^ t ∧ f.s + t ≤ 16
theorem fval_and (n : Int) (f : Fl) (hf : FOk f) (h0 : 0 ≤ n) (h1 : n < 65536) : bits .and .i64 (n / 2 ^ f.s) (f.l : Int) = fval n f := by
  obtain ⟨t, ht, hs⟩ := hf
  obtain ⟨A, rfl⟩ := Int.eq_ofNat_of_zero_le h0
  have hd : ((A : Nat) : Int) / 2 ^ f.s = ((A / 2 ^ f.s : Nat) : Int) := by simp
  have hA : A / 2 ^ f.s ≤ A := Nat.div_le_self _ _
  have hl : f.l = 2 ^ t - 1 := by omega
  have ht16 : 2 ^ t ≤ 2 ^ 16 := Nat.pow_le_pow_right (by decide) (by omega)
  rw [hd, i64_and _ _ (by omega) (by omega), hl, Nat.and_two_pow_sub_one_eq_mod, fval, hd]
  have : (((2 ^ t - 1 : Nat) : Int)) + 1 = ((2 ^ t : Nat) : Int) := by have := Nat.two_pow_pos t; omega
  rw [hl, this]; simp
theorem fleft_bd (n : Int) (f : Fl) (hf : FOk f) (h0 : 0 ≤ n) (h1 : n < 65536) : 0 ≤ fleft n f ∧ fleft n f < 65536 ∧ bits .andNot .i64 n (wrap64 ((f.l : Int) * 2 ^ f.s)) = fleft n f := by
  obtain ⟨t, ht, hs⟩ := hf
  obtain ⟨A, rfl⟩ := Int.eq_ofNat_of_zero_le h0
  have hA : A < 65536 := by omega
  have hl : f.l = 2 ^ t - 1 := by omega
  have hpos : 0 < 2 ^ f.s := Nat.two_pow_pos _
  have hm : (2 ^ t - 1) * 2 ^ f.s < 65536 := by
    have h3 : 2 ^ t * 2 ^ f.s ≤ 2 ^ 16 := by rw [← Nat.pow_add]; exact Nat.pow_le_pow_right (by decide) (by omega)
    have h4 : (2 ^ t - 1) * 2 ^ f.s + 2 ^ f.s = 2 ^ t * 2 ^ f.s := by
      rw [Nat.sub_mul, Nat.one_mul]
      have : 2 ^ f.s ≤ 2 ^ t * 2 ^ f.s := Nat.le_mul_of_pos_left _ (Nat.two_pow_pos t)
      omega
    omega
  have hfield := and_field A f.s t
  have hsum := not_part A ((2 ^ t - 1) * 2 ^ f.s) (by omega) (by omega)
  have hv : fval (A : Int) f = ((A / 2 ^ f.s % 2 ^ t : Nat) : Int) := by
    rw [fval, hl]
    have : (((2 ^ t - 1 : Nat) : Int)) + 1 = ((2 ^ t : Nat) : Int) := by have := Nat.two_pow_pos t; omega
    rw [this]; simp
  have hcast : ((f.l : Int) * 2 ^ f.s) = (((2 ^ t - 1) * 2 ^ f.s : Nat) : Int) := by rw [hl]; simp
  have hle : A / 2 ^ f.s % 2 ^ t * 2 ^ f.s ≤ A := by rw [← hfield]; exact Nat.and_le_left
  have hfl : fleft (A : Int) f = ((A - A / 2 ^ f.s % 2 ^ t * 2 ^ f.s : Nat) : Int) := by
    rw [fleft, hv, Int.ofNat_sub hle]; simp
  refine ⟨by rw [hfl]; omega, by rw [hfl]; omega, ?_⟩
  rw [hcast, w64s _ (by omega) (by omega), i64_andNot _ _ (by omega) (by omega), hfl]
  congr 1
  omega
theorem cpa_fok : ∀ k, k < 4 → ∀ p ∈ cpa k, (p.z = 1 ∨ p.z = 2) ∧ ∀ f ∈ p.f, FOk f := by
  have h1 : FOk ⟨0, 0, 255⟩ ∧ FOk ⟨1, 0, 255⟩ ∧ FOk ⟨2, 0, 65535⟩ ∧ FOk ⟨3, 7, 1⟩ ∧ FOk ⟨4, 3, 7⟩ ∧ FOk ⟨5, 0, 7⟩ ∧ FOk ⟨6, 0, 255⟩ ∧ FOk ⟨7, 7, 1⟩ ∧ FOk ⟨10, 6, 1⟩ ∧ FOk ⟨8, 0, 255⟩ ∧ FOk ⟨10, 7, 1⟩ ∧ FOk ⟨9, 0, 255⟩ :=
    ⟨⟨8, rfl, by decide⟩, ⟨8, rfl, by decide⟩, ⟨16, rfl, by decide⟩, ⟨1, rfl, by decide⟩, ⟨3, rfl, by decide⟩, ⟨3, rfl, by decide⟩, ⟨8, rfl, by decide⟩, ⟨1, rfl, by decide⟩, ⟨1, rfl, by decide⟩, ⟨8, rfl, by decide⟩, ⟨1, rfl, by decide⟩, ⟨8, rfl, by decide⟩⟩
  intro k hk
  have hk' : k = 0 ∨ k = 1 ∨ k = 2 ∨ k = 3 := by omega
  rcases hk' with rfl | rfl | rfl | rfl <;> simp [cpa, cpas, h1]
/-- Fields taken one behind the other: what is left, and the values. -/
def rdFs (fs : List Fl) (s : Int × List Int) : Int × List Int := fs.foldl (fun s f => (fleft s.1 f, s.2.set f.p (fval s.1 f))) s
theorem rdFs_succ (fs : List Fl) (s : Int × List Int) (j : Nat) (h : j < fs.length) : rdFs (fs.take (j + 1)) s = (fleft (rdFs (fs.take j) s).1 (fs.getD j Fl.none), (rdFs (fs.take j) s).2.set (fs.getD j Fl.none).p (fval (rdFs (fs.take j) s).1 (fs.getD j Fl.none))) := by
  rw [rdFs, rdFs, List.take_succ_eq_append_getElem h, List.foldl_append]; simp [h]
theorem rdFs_bd (fs : List Fl) (hf : ∀ f ∈ fs, FOk f) : ∀ s : Int × List Int, 0 ≤ s.1 → s.1 < 65536 → 0 ≤ (rdFs fs s).1 ∧ (rdFs fs s).1 < 65536 ∧ (rdFs fs s).2.length = s.2.length := by
  induction fs with
  | nil => intro s h0 h1; exact ⟨h0, h1, rfl⟩
  | cons f fs ih =>
    intro s h0 h1
    have hb := fleft_bd s.1 f (hf f (by simp)) h0 h1
    have := ih (fun x hx => hf x (by simp [hx])) (fleft s.1 f, s.2.set f.p (fval s.1 f)) hb.1 hb.2.1
    refine ⟨this.1, this.2.1, ?_⟩
    rw [show rdFs (f :: fs) s = rdFs fs (fleft s.1 f, s.2.set f.p (fval s.1 f)) from rfl, this.2.2]
    simp
end Go.Proofs.YtbklpelikaapoaaGreatDoor

namespace Go.Proofs.YtbklpelikaapoaaGreatDoor
open Go.ChangeShapes Go.WideShapes Go.ChangeAt Go.RowKit Go.Deep
set_option linter.unusedVariables false
set_option linter.unusedSimpArgs false

/-- Are there bytes other than 0? -/
def anyN (l : List Int) : Bool := l.any (fun x => x != 0)
theorem isn0_any (x : Int) (w : World) : Calls Tryz.prog 170 #[.int .u8 x] w fun e w' => e = .returned (.bool (x != 0)) ∧ w' = w := by
  go_enter Tryz.func170, Tryz.ntmps170
  go_wp2_with fail
  go_ret
  exact ⟨rfl, rfl⟩
theorem indexFunc8_any (a : Option Addr) (n cap : Nat) (l : List Int) (w : World) (h : Lies .u8 w a n cap l) :
    Calls Tryz.prog 172 #[.slice a n cap, .func (.func 170) #[] #[]] w fun e w' => (∃ r : Int, e = .returned (.int .i64 r) ∧ decide (0 ≤ r) = anyN l) ∧ w' = w := by
  obtain ⟨hl, hlc, hcm, _, hc⟩ := h
  unfold maxLen at hcm
  have HC : Hid _ := hc
  have HL : Hid (l.length = n) := hl
  clear hc hl
  go_enter Tryz.func172, Tryz.ntmps172
  go_wp2_with fail
  go_loop [8] (fun i => ∃ k : Nat, k ≤ n ∧ i = .int .i64 k ∧ Hid (anyN (l.take k) = false)) (fun i => n - (intOf i).toNat)
  case atStart => exact ⟨0, Nat.zero_le _, rfl, by rw [Hid]; simp [anyN]⟩
  case round =>
    obtain ⟨k, hk, rfl, hno⟩ := hrel
    by_cases hlt : k < n
    · obtain ⟨b, off, rfl, hcell⟩ := HC.out k hlt
      have hlt' : (k : Int) < (n : Int) := by omega
      have HM : Hid (l.getD k 0 ∈ l) := by rw [Hid]; simp [show k < l.length by rw [HL.out]; exact hlt]
      have HN : Hid ((l.getD k 0 != 0) = false → anyN (l.take (k + 1)) = false) := by
        intro hz
        rw [anyN, List.take_add_one, List.any_append, show (l.take k).any (fun x => x != 0) = false from hno.out]
        have hk' : k < l.length := by rw [HL.out]; exact hlt
        simp [hk'] at hz ⊢
        exact hz
      generalize l.getD k 0 = z at *
      go_wp2_with fail
      refine (isn0_any z _).mono ?_
      rintro e w1 ⟨rfl, rfl⟩
      cases hz : (z != 0)
      · go_wp2_with fail
        go_round
        case rel => exact ⟨k + 1, by omega, by go_num, HN.out hz⟩
        case measure => simp [intOf]; omega
      · go_wp2_with fail
        go_ret
        refine ⟨⟨_, rfl, ?_⟩, rfl⟩
        have : anyN l = true := List.any_eq_true.2 ⟨z, HM.out, hz⟩
        rw [this]; simp
    · obtain rfl : k = n := by omega
      go_wp2_with fail
      go_ret
      refine ⟨⟨_, rfl, ?_⟩, rfl⟩
      have := hno.out
      rw [List.take_of_length_le (by rw [HL.out]; exact Nat.le_refl _)] at this
      simp [this]
theorem containsFunc8_any (a : Option Addr) (n cap : Nat) (l : List Int) (w : World) (h : Lies .u8 w a n cap l) :
    Calls Tryz.prog 171 #[.slice a n cap, .func (.func 170) #[] #[]] w fun e w' => e = .returned (.bool (anyN l)) ∧ w' = w := by
  have HL := hid h
  clear h
  go_enter Tryz.func171, Tryz.ntmps171
  go_wp2_with fail
  refine (indexFunc8_any a n cap l _ HL.out).mono ?_
  rintro e w1 ⟨⟨r, rfl, hr⟩, rfl⟩
  have HR := hid hr
  clear hr
  go_wp2_with fail
  go_ret
  exact ⟨ret_bool HR.out, rfl⟩
end Go.Proofs.YtbklpelikaapoaaGreatDoor

namespace Go.Proofs.YtbklpelikaapoaaGreatDoor
open Go.ChangeShapes Go.WideShapes Go.ChangeAt Go.RowKit Go.Deep
set_option linter.unusedVariables false
set_option linter.unusedSimpArgs false

/-- What is wrong with a cursor behind Spoil. -/
def spE (er e : Int) : Int := if er = 0 then e else er
theorem spoil_any (w : World) (c : Nat) (a : Option Addr) (len cap at_ : Nat) (l : List Int) (er e : Int) (h : CurAt w c a len cap l at_ er) :
    Calls Tryz.prog 132 #[.pointer (some ⟨c, 0, none⟩), .int .i64 e] w fun e' w' => e' = .returned (.tuple #[]) ∧ CurAt w' c a len cap l at_ (spE er e) ∧ w.grownBy w' (some c) ∧ w'.heap.size = w.heap.size := by
  by_cases her : er = 0
  · subst her
    have : spE 0 e = e := by simp [spE]
    rw [this]
    exact spoil_now w c a len cap at_ l e h
  · have : spE er e = er := by simp [spE, her]
    rw [this]
    refine (spoil_was w c er e h.cell2 her).mono ?_
    rintro e' w' ⟨rfl, rfl⟩
    exact ⟨rfl, h, grownBy_drewN w' 0 _, rfl⟩
theorem rd_all (len at_ : Nat) (h : at_ ≤ len) : rdE 1 ((len : Int) - at_) (len - at_) 0 = 0 ∧ rdN 1 ((len : Int) - at_) (len - at_) 0 = len - at_ := by
  have h1 : rdE 1 ((len : Int) - at_) (len - at_) 0 = 0 := by
    unfold rdE
    have hz : sizeB 1 = true := by decide
    rw [if_pos rfl, if_neg (by rw [hz]; simp; omega), if_neg (by omega)]
  refine ⟨h1, ?_⟩
  rw [rdN, if_pos h1]; omega
/-- bytes(left) with nothing wrong. -/
theorem bytes_left (w : World) (c : Nat) (a : Option Addr) (len cap at_ : Nat) (l : List Int) (h : CurAt w c a len cap l at_ 0) :
    Calls Tryz.prog 67 #[.pointer (some ⟨c, 0, none⟩), .int .i64 ((len : Int) - at_)] w fun e w' => ∃ b cp, e = .returned (.slice b (len - at_) cp) ∧ w'.ownsRow w.heap.size 5 1 (.slice b (len - at_) cp) (len - at_) (u8s (l.drop at_)) ∧
      Lies .u8 w' b (len - at_) cp (l.drop at_) ∧ CurAt w' c a len cap l len 0 ∧ w.grownBy w' (some c) := by
  have hle := h.le
  obtain ⟨hE, hN⟩ := rd_all len at_ h.le
  have hll := h.lies.1
  have hd : (l.drop at_).take (len - at_) = l.drop at_ := List.take_of_length_le (by rw [List.length_drop]; omega)
  have hdl : (l.drop at_).length = len - at_ := by rw [List.length_drop]; omega
  have := bytes_any w c a len cap at_ l 0 ((len : Int) - at_) h
  rw [hE, hN, hd] at this
  refine this.mono ?_
  rintro e w' ⟨v, rfl, hown, hc, hg⟩
  have hown' := ownsRow_u8 hown hdl.symm rfl
  obtain ⟨b, cp, rfl, hl, _⟩ := owns_lies hown'
  rw [hdl] at hl ⊢
  rw [show at_ + (len - at_) = len by omega] at hc
  rw [hdl] at hown
  exact ⟨b, cp, rfl, hown, hl, hc, hg⟩
def zerE (l : List Int) : Int := if anyN l = true then 3 else 0
theorem skipZeros_any (w : World) (p c : Nat) (a : Option Addr) (len cap at_ : Nat) (l : List Int) (gv : Value) (hr : Row w p 243 #[.pointer (some ⟨c, 0, none⟩), gv]) (h : CurAt w c a len cap l at_ 0) :
    Calls Tryz.prog 167 #[.pointer (some ⟨p, 0, none⟩)] w fun e w' => e = .returned (.tuple #[]) ∧ CurAt w' c a len cap l len (zerE (l.drop at_)) ∧ w.grownBy w' (some c) := by
  have hpc : p ≠ c := by
    intro e
    subst e
    have := h.block
    rw [hr] at this
    simp at this
  have R0 := hid hr
  have C0 := hid h
  clear hr h
  go_enter Tryz.func167, Tryz.ntmps167
  go_wp2_with fail
  refine wp_region_held_drew (S := fun w' => w'.cell? ⟨p, 0, none⟩ = some (.pointer (some ⟨c, 0, none⟩))) (by kernel_rfl) ?_ (fun hHeld => ?_)
  · exact R0.out.cell 0
  refine wpAnyH_take (i := 0) (oi := _) (v := ?va0) rfl (by kernel_rfl) (by kernel_rfl) (by kernel_rfl) (fun _ _ _ h => h) (Or.inl ⟨by rfl, ?hya0⟩) (by assumption) ?resta0
  case hya0 => (intro w hSw; (try dsimp only at hSw); go_split_ands; go_simp; try (with_reducible rfl))
  try simp only [List.getElem_toArray, List.getElem_cons_zero, List.getElem_cons_succ, Act.put, List.setIfInBounds_toArray, List.set_cons_zero, List.set_cons_succ]
  refine wpAnyH_take (i := 1) (oi := _) (v := ?va1) rfl (by kernel_rfl) (by kernel_rfl) (by kernel_rfl) (fun _ _ _ h => h) (Or.inl ⟨by rfl, ?hya1⟩) (by assumption) ?resta1
  case hya1 => (intro w hSw; (try dsimp only at hSw); go_split_ands; go_simp; try (with_reducible rfl))
  try simp only [List.getElem_toArray, List.getElem_cons_zero, List.getElem_cons_succ, Act.put, List.setIfInBounds_toArray, List.set_cons_zero, List.set_cons_succ]
  refine wpAnyH_take (i := 2) (oi := _) (v := ?va2) rfl (by kernel_rfl) (by kernel_rfl) (by kernel_rfl) (fun _ _ _ h => h) (Or.inl ⟨by rfl, ?hya2⟩) (by assumption) ?resta2
  case hya2 => (intro w hSw; (try dsimp only at hSw); go_split_ands; go_simp; try (with_reducible rfl))
  try simp only [List.getElem_toArray, List.getElem_cons_zero, List.getElem_cons_succ, Act.put, List.setIfInBounds_toArray, List.set_cons_zero, List.set_cons_succ]
  refine wpAnyH_take (i := 3) (oi := _) (v := ?va3) rfl (by kernel_rfl) (by kernel_rfl) (by kernel_rfl) (fun _ _ _ h => h) (Or.inl ⟨by rfl, ?hya3⟩) (by assumption) ?resta3
  case hya3 => (intro w hSw; (try dsimp only at hSw); go_split_ands; go_simp; try (with_reducible rfl))
  try simp only [List.getElem_toArray, List.getElem_cons_zero, List.getElem_cons_succ, Act.put, List.setIfInBounds_toArray, List.set_cons_zero, List.set_cons_succ]
  refine wpAnyH_take (i := 4) (oi := _) (v := ?va4) rfl (by kernel_rfl) (by kernel_rfl) (by kernel_rfl) (fun _ _ _ h => h) (Or.inl ⟨by rfl, ?hya4⟩) (by assumption) ?resta4
  case hya4 => (intro w hSw; (try dsimp only at hSw); go_split_ands; go_simp; try (with_reducible rfl))
  try simp only [List.getElem_toArray, List.getElem_cons_zero, List.getElem_cons_succ, Act.put, List.setIfInBounds_toArray, List.set_cons_zero, List.set_cons_succ]
  refine wpAnyH_take (i := 5) (oi := _) (v := ?va5) rfl (by kernel_rfl) (by kernel_rfl) (by kernel_rfl) (fun _ _ _ h => h) (Or.inl ⟨by rfl, ?hya5⟩) (by assumption) ?resta5
  case hya5 => (intro w hSw; (try dsimp only at hSw); go_split_ands; go_simp; try (with_reducible rfl))
  try simp only [List.getElem_toArray, List.getElem_cons_zero, List.getElem_cons_succ, Act.put, List.setIfInBounds_toArray, List.set_cons_zero, List.set_cons_succ]
  refine wpAnyH_take (i := 6) (oi := _) (v := ?va6) rfl (by kernel_rfl) (by kernel_rfl) (by kernel_rfl) (fun _ _ _ h => h) (Or.inl ⟨by rfl, ?hya6⟩) (by assumption) ?resta6
  case hya6 => (intro w hSw; (try dsimp only at hSw); go_split_ands; go_simp; try (with_reducible rfl))
  try simp only [List.getElem_toArray, List.getElem_cons_zero, List.getElem_cons_succ, Act.put, List.setIfInBounds_toArray, List.set_cons_zero, List.set_cons_succ]
  refine wpAnyH_take (i := 7) (oi := _) (v := ?va7) rfl (by kernel_rfl) (by kernel_rfl) (by kernel_rfl) (fun _ _ _ h => h) (Or.inl ⟨by rfl, ?hya7⟩) (by assumption) ?resta7
  case hya7 => (intro w hSw; (try dsimp only at hSw); go_split_ands; go_simp; try (with_reducible rfl))
  try simp only [List.getElem_toArray, List.getElem_cons_zero, List.getElem_cons_succ, Act.put, List.setIfInBounds_toArray, List.set_cons_zero, List.set_cons_succ]
  refine wpAnyH_take (i := 10) (oi := _) (v := ?va10) rfl (by kernel_rfl) (by kernel_rfl) (by kernel_rfl) (fun _ _ _ h => h) (Or.inl ⟨by rfl, ?hya10⟩) (by assumption) ?resta10
  case hya10 => (intro w hSw; (try dsimp only at hSw); go_split_ands; go_simp; try (with_reducible rfl))
  try simp only [List.getElem_toArray, List.getElem_cons_zero, List.getElem_cons_succ, Act.put, List.setIfInBounds_toArray, List.set_cons_zero, List.set_cons_succ]
  refine wpAnyH_ready (rs := [8]) (by kernel_rfl) (by simp) ?_
  refine AllReadyH.cons (o := _) rfl (fun K hK => ?_) AllReadyH.nil
  go_simp
  refine (left_any _ c a len cap at_ l 0 (C0.out.drewN _)).mono ?_
  rintro e w1 ⟨rfl, q, rfl⟩
  go_wp2_with fail
  refine hK.out _ _ (R0.out.cell 0) (fun hHeld => ?_)
  clear hK K
  try simp only [List.getElem_toArray, List.getElem_cons_zero, List.getElem_cons_succ, Act.put, List.setIfInBounds_toArray, List.set_cons_zero, List.set_cons_succ]
  refine wpAnyH_ready (rs := [9]) (by kernel_rfl) (by simp) ?_
  refine AllReadyH.cons (o := _) rfl (fun K hK => ?_) AllReadyH.nil
  go_simp
  refine (bytes_left _ c a len cap at_ l (C0.out.drewN _)).mono ?_
  rintro e w2 ⟨b, cp, rfl, hown, hl, hc, hg⟩
  have R2 := hid ((R0.out.drewN _).kept hg (by simp [hpc]))
  have L2 := hid hl
  have C2 := hid hc
  have G2 := hid ((grownBy_drewN w _ (some c)).trans hg)
  clear hown hl hc hg
  go_wp2_with fail
  refine hK.out _ _ (R2.out.cell 0) (fun hHeld => ?_)
  clear hK K
  try simp only [List.getElem_toArray, List.getElem_cons_zero, List.getElem_cons_succ, Act.put, List.setIfInBounds_toArray, List.set_cons_zero, List.set_cons_succ]
  refine wpAnyH_ready (rs := [11]) (by kernel_rfl) (by simp) ?_
  refine AllReadyH.cons (o := _) rfl (fun K hK => ?_) AllReadyH.nil
  go_simp
  refine (containsFunc8_any _ _ _ _ _ L2.out).mono ?_
  rintro e w3 ⟨rfl, rfl⟩
  go_wp2_with fail
  refine hK.out _ _ (R2.out.cell 0) (fun hHeld => ?_)
  clear hK K
  try simp only [List.getElem_toArray, List.getElem_cons_zero, List.getElem_cons_succ, Act.put, List.setIfInBounds_toArray, List.set_cons_zero, List.set_cons_succ]
  refine wpAnyH_done (by kernel_rfl) ?_ _
  cases hz : anyN (l.drop at_)
  · have HZ : Hid (zerE (l.drop at_) = 0) := by simp [Hid, zerE, hz]
    go_wp2_with fail
    go_returns
    exact ⟨rfl, by rw [HZ.out]; exact C2.out, G2.out⟩
  · have HZ : Hid (zerE (l.drop at_) = 3) := by simp [Hid, zerE, hz]
    go_wp2_with fail
    refine (spoil_any _ c a len cap len l 0 3 C2.out).mono ?_
    rintro e w4 ⟨rfl, hc, hg, hs⟩
    have C4 := hid hc
    have G4 := hid (G2.out.trans hg)
    clear hc hg hs
    go_wp2_with fail
    go_returns
    exact ⟨rfl, by rw [HZ.out]; exact C4.out, G4.out⟩
end Go.Proofs.YtbklpelikaapoaaGreatDoor

namespace Go.Proofs.YtbklpelikaapoaaGreatDoor
open Go.ChangeShapes Go.WideShapes Go.ChangeAt Go.RowKit Go.Deep
set_option linter.unusedVariables false
set_option linter.unusedSimpArgs false

def Ov.setA (o : Ov) (F : List Int) : Ov := ⟨o.k, o.n, F, o.t⟩
theorem splice_A {o : Ov} {F : List Int} (h : Adr o.ad) (hF : F.length = 16) : (o.cs.toList.take 2 ++ u8s F ++ o.cs.toList.drop (2 + (u8s F).length)).toArray = (o.setA F).cs := by
  have e : o.cs.toList = [.int .i64 o.k, o.n.v] ++ (u8s o.ad ++ [o.t.v]) := by simp [Ov.cs, arr]
  have l1 : (u8s o.ad).length = 16 := by rw [u8s_len, h.1]
  have l2 : (u8s F).length = 16 := by rw [u8s_len, hF]
  apply Array.ext'
  rw [e, l2]
  have e1 : ([Value.int .i64 o.k, o.n.v] ++ (u8s o.ad ++ [o.t.v])).take 2 = [.int .i64 o.k, o.n.v] := rfl
  have e2 : ([Value.int .i64 o.k, o.n.v] ++ (u8s o.ad ++ [o.t.v])).drop (2 + 16) = [o.t.v] := by
    rw [show 2 + 16 = ([Value.int .i64 o.k, o.n.v] ++ u8s o.ad).length by simp [l1], ← List.append_assoc, List.drop_left]
  rw [e1, e2]
  simp [Ov.cs, Ov.setA, arr]
/-- copy(o.Addr[:], ..) as one step of a region that draws its order. -/
theorem step_copyA {ops : Array Oper} {op : Oper} {a : Act} {w : World} {K : Act → World → Prop} {Q : Exit → Act → World → Prop} {E : Prop} (hgd : op.guard = none) (d s : Operand)
    (hop : op.op = .call { callee := .builtin .copy, args := #[d, s], argTypes := #[30, 30] }) (g dCap sCap : Nat) (sp : Option Addr) (hd : a.eval d = .slice (some ⟨g, 2, none⟩) 16 dCap) (hs : a.eval s = .slice sp 16 sCap)
    (o : Ov) (hA : Adr o.ad) (hr : Row w g 140 o.cs) (F : List Int) (hl : Lies .u8 w sp 16 sCap F)
    (h : K (a.put op.dst (goInt 16)) (w.setRow g (o.setA F).cs)) :
    if Region.wanted op (yielded ops a.tmps) = true then Oper.wp Tryz.prog op a w K Q else E := by
  have hw : Region.wanted op (yielded ops a.tmps) = true := by simp [Region.wanted, hgd]
  rw [if_pos hw]
  have hF : F.length = 16 := hl.1
  have l2 : (u8s F).length = 16 := by rw [u8s_len, hF]
  obtain ⟨b, off, e, _⟩ := hl.2.2.2.2 0 (by omega)
  subst e
  have hrun := run_copy_row (P := Tryz.prog) w 30 30 op.type 5 g 2 16 dCap ⟨b, off, none⟩ 16 sCap o.cs 140 (u8s F) Tryz.underlying30 (by kernel_rfl) hr (by rw [l2]; rfl) (hl.cells _ rfl) (by rw [l2, Ov.size hA]; decide) (ints_oneCell8 F .u8)
  rw [splice_A hA hF, l2] at hrun
  unfold Oper.wp
  simp [execOp, hop, resolve, invoke, builtin, hd, hs, hrun, Result.andThen]
  exact h
/-- Reading one part more: how many bytes were read, the numbers, the address. -/
def stp (l : List Int) (s : Nat × List Int × List Int) (p : Int × Int) : Nat × List Int × List Int :=
  if (p.1 == 16) = true then (s.1 + 16, s.2.1, (l.drop s.1).take 16) else (s.1 + p.1.toNat, s.2.1 ++ [numOf ((l.drop s.1).take p.1.toNat)], s.2.2)
def stps (l : List Int) (P : List (Int × Int)) : Nat × List Int × List Int := P.foldl (stp l) (0, [], zeros)
theorem stps_succ (l : List Int) (P : List (Int × Int)) (j : Nat) (h : j < P.length) : stps l (P.take (j + 1)) = stp l (stps l (P.take j)) (P.getD j (0, 0)) := by
  rw [List.take_succ_eq_append_getElem h, stps, List.foldl_append]; simp [stps, h]
theorem stps_at (l : List Int) (P : List (Int × Int)) (h : ∀ p ∈ P, (p.1 == 16) = true ∨ sizeB p.1 = true) (j : Nat) (hj : j ≤ P.length) : ((stps l (P.take j)).1 : Int) = sumP (P.take j) := by
  induction j with
  | zero => rfl
  | succ j ih =>
    have hj' : j < P.length := by omega
    rw [stps_succ l P j hj', sumP_succ P j hj', ← ih (by omega)]
    have hm : P.getD j (0, 0) ∈ P := by simp [hj']
    rcases h _ hm with hp | hp
    · rw [stp, if_pos hp]
      have : (P.getD j (0, 0)).1 = 16 := by simpa using hp
      rw [this]; simp
    · have hne : ¬ ((P.getD j (0, 0)).1 == 16) = true := by rcases sizeB_cases hp with e | e | e <;> rw [e] <;> decide
      rw [stp, if_neg hne]
      rcases sizeB_cases hp with e | e | e <;> rw [e] <;> simp
theorem stps_adr (l : List Int) (P : List (Int × Int)) (h : ∀ p ∈ P, (p.1 == 16) = true ∨ sizeB p.1 = true) (ho : Oct l) (hl : sumP P = l.length) (j : Nat) (hj : j ≤ P.length) (hle : ∀ i, i ≤ P.length → sumP (P.take i) ≤ sumP P) : Adr (stps l (P.take j)).2.2 := by
  induction j with
  | zero => exact adr_zeros
  | succ j ih =>
    have hj' : j < P.length := by omega
    have ha := stps_at l P h j (by omega)
    have hs := sumP_succ P j hj'
    have hb := hle (j + 1) hj
    rw [stps_succ l P j hj', stp]
    split
    · rename_i h16
      have : (P.getD j (0, 0)).1 = 16 := by simpa using h16
      refine ⟨?_, ho.cut _ _⟩
      rw [List.length_take, List.length_drop]
      omega
    · exact ih (by omega)
theorem rd_n (size : Int) (len at_ : Nat) (hz : sizeB size = true) (h : (at_ : Int) + size ≤ len) : rdE size 1 (len - at_) 0 = 0 ∧ rdN size 1 (len - at_) 0 = size.toNat := by
  have h1 : rdE size 1 (len - at_) 0 = 0 := by
    unfold rdE
    rw [if_pos rfl, if_neg (by rw [hz]; simp), if_neg (by omega)]
  refine ⟨h1, ?_⟩
  rw [rdN, if_pos h1]; simp
theorem rd_b (n len at_ : Nat) (h : at_ + n ≤ len) : rdE 1 n (len - at_) 0 = 0 ∧ rdN 1 n (len - at_) 0 = n := by
  have h1 : rdE 1 n (len - at_) 0 = 0 := by
    unfold rdE
    have hz : sizeB 1 = true := by decide
    rw [if_pos rfl, if_neg (by rw [hz]; simp), if_neg (by omega)]
  refine ⟨h1, ?_⟩
  rw [rdN, if_pos h1]; simp
end Go.Proofs.YtbklpelikaapoaaGreatDoor
