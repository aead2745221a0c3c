/- The law's options: To. · The document's body: what it answers. -/
import Derived.Test.YtbgogeojdibmkaaDoorM7
import Derived.Test.YtbgogeojdibmkaaDoorM16
namespace Go.Proofs.YtbgogeojdibmkaaDoor
open Go.ChangeShapes Go.WideShapes Go.ChangeAt Go.RowKit Go.Deep
set_option linter.unusedVariables false
set_option linter.unusedSimpArgs false

/-- At most twelve numbers, at most 100 bytes. -/
def cutP (p : Po) : Po := ⟨p.k, p.n.take 12, p.ad, p.t.take 100⟩
/-- An option with numbers of the call's own and a text that was there. -/
structure Mine (w0 w : World) (o : Ov) : Prop where
  n : w.ownsRow w0.heap.size 3 1 o.n.v o.n.l.length (i64s o.n.l)
  nn : o.n.n = o.n.l.length
  ad : Adr o.ad
  t : Lies .u8 w0 o.t.a o.t.n o.t.cap o.t.l
  oct : Oct o.t.l
theorem Mine.ok {w0 w : World} {o : Ov} (h : Mine w0 w o) (hb : Below w0.heap.size w0 w) : o.ok w := by
  refine ⟨?_, h.ad, h.t.below hb, h.oct⟩
  obtain ⟨a, cap, e, hl⟩ := owns_liesk h.n
  have e1 : Value.slice o.n.a o.n.n o.n.cap = .slice a o.n.l.length cap := e
  injection e1 with e2 e3 e4
  rw [e2, e3, e4]; exact hl
theorem Mine.below {w0 w w' : World} {o : Ov} (h : Mine w0 w o) (hb : Below w.heap.size w w') : Mine w0 w' o := ⟨own_below h.n hb, h.nn, h.ad, h.t, h.oct⟩
theorem Mine.kept {w0 w w' : World} {o : Ov} {v : Value} {n : Nat} {xs : List Value} (h : Mine w0 w o) (ho : w.ownsRow w0.heap.size 43 19 v n xs) (hg : w.grownBy w' v.ownBlock) : Mine w0 w' o :=
  ⟨h.n.kept hg (own_apart h.n ho (by decide)), h.nn, h.ad, h.t, h.oct⟩
theorem own_kept3 {w w' : World} {b b' : Nat} {v v' : Value} {n n' : Nat} {xs xs' : List Value} (h : w.ownsRow b 43 19 v n xs) (ho : w.ownsRow b' 3 1 v' n' xs') (hg : w.grownBy w' v'.ownBlock) : w'.ownsRow b 43 19 v n xs :=
  h.kept hg (own_apart h ho (by decide))
theorem Mine.new {w0 w w' : World} {o : Ov} {x : Obj} (h : Mine w0 w o) (hg : (w.alloc x).grownBy w' (some w.heap.size)) : Mine w0 w' o :=
  ⟨(h.n.alloc x).kept hg (by
    cases hv : o.n.v.ownBlock with
    | none => exact .inl rfl
    | some j => exact .inr (fun e => by have := Option.some.inj e; have := (h.n.lt j hv).2; omega)), h.nn, h.ad, h.t, h.oct⟩
theorem take_min' (l : List Int) (n m : Nat) (h : l.length = n) : l.take (min n m) = l.take m := by rw [Nat.min_comm, ← List.take_take, List.take_of_length_le (l := l) (by omega)]
theorem ocs_snoc (L : List Ov) (o : Ov) : ocs (L ++ [o]) = ocs L ++ o.cs.toList := by simp [ocs]

def ToOk (w : World) (n : Nat) (L : List Ov) (e : Ending) (w' : World) : Prop := ∃ a' cap' L', e = .returned (.slice a' (min n 20) cap') ∧ Opts w' a' (min n 20) cap' L' ∧ pos L' = ((pos L).take 20).map cutP ∧ Below w.heap.size w w'
set_option maxRecDepth 100000 in
set_option maxHeartbeats 3200000 in
theorem to_any (a : Option Addr) (n cap : Nat) (L : List Ov) (w : World) (hL : Opts w a n cap L) :
    Calls Tryd.prog 7 #[.slice a n cap] w (ToOk w n L) := by
  have hz := zov
  have HL := hid hL
  have hlen := hL.len
  have HLen := hid hlen
  have hncap := hL.le
  have hcm := hL.max
  unfold maxLen at hcm
  obtain ⟨m, hm⟩ : ∃ m, min n 20 = m := ⟨_, rfl⟩
  have m1 : m ≤ n := by omega
  have m2 : m ≤ 20 := by omega
  have HM3 : Hid (∀ k, k < m ↔ k < n ∧ k < 20) := by intro k; omega
  have HM := hid hm
  clear hL hlen hm
  go_enter Tryd.func7, Tryd.ntmps7
  go_wp2_with fail
  go_loopw [3, 4] (fun v i wr => ∃ (k : Nat) (L' : List Ov), k ≤ m ∧ i = .int .i64 k ∧ Hid (L'.length = k) ∧ Hid (pos L' = ((pos L).take k).map cutP) ∧ Hid (wr.ownsRow w.heap.size 43 19 v k (ocs L')) ∧ Hid (∀ o ∈ L', Mine w wr o) ∧ Hid (Below w.heap.size w wr)) (fun _ i _ => m - (intOf i).toNat)
  case atStart => exact ⟨0, [], by omega, rfl, rfl, rfl, World.ownsRow_nil _ _ _ _, (fun o ho => by cases ho), Below.refl _ _⟩
  case round =>
    obtain ⟨k, L', hk, rfl, HLL, HPL, HO, HMi, HB⟩ := hrel
    by_cases hlt : k < m
    · have i1 : (k : Int) < (n : Int) := by omega
      have i2 : (k : Int) < 20 := by omega
      have i3 : k < n := by omega
      have hL1 := HL.out.below HB.out
      obtain ⟨b, off, rfl, hp⟩ := hL1.cell k i3
      have hkl : k < L.length := by rw [HLen.out]; exact i3
      have hok0 := HL.out.at k i3
      have HPS : Hid ((pos L).take (k + 1) = (pos L).take k ++ [(L.getD k Ov.zero).p]) := by
        rw [Hid, List.take_succ_eq_append_getElem (by rw [pos_len]; exact hkl)]; simp [pos, hkl]
      generalize hoo : L.getD k Ov.zero = o at *
      have PP := hid hp
      have OK0 := hid hok0
      have HA := hid hok0.ad
      clear hL1 hp hok0 hoo hkl
      have R2 := hid (layO_new wr 38 o)
      have B2 := hid (layO_below wr 38 o)
      obtain ⟨q1, hq1⟩ : ∃ q1, min o.n.n 12 = q1 := ⟨_, rfl⟩
      obtain ⟨q2, hq2⟩ : ∃ q2, min o.t.n 100 = q2 := ⟨_, rfl⟩
      have hmin1 : (if (12 : Int) < (o.n.n : Int) then (12 : Int) else (o.n.n : Int)) = (q1 : Int) := by split <;> omega
      have hmin2 : (if (100 : Int) < (o.t.n : Int) then (100 : Int) else (o.t.n : Int)) = (q2 : Int) := by split <;> omega
      have hnc := OK0.out.n.2.1
      have hnm := OK0.out.n.2.2.1
      have htc := OK0.out.t.2.1
      have htm := OK0.out.t.2.2.1
      unfold maxLen at hnm htm
      have hq1n : q1 ≤ o.n.n := by omega
      have hq2n : q2 ≤ o.t.n := by omega
      have hq12 : q1 ≤ 12 := by omega
      have hq1c : (q1 : Int) ≤ (o.n.cap : Int) := by omega
      have hq2c : (q2 : Int) ≤ (o.t.cap : Int) := by omega
      have HQ1 := hid hq1
      have HQ2 := hid hq2
      clear hq1 hq2
      go_upto_region 6 with (first | (refine ldO o38 _ rfl rfl _ _ rfl o HA.out PP.out ?_) | (refine stO o38 _ _ rfl rfl wr.heap.size o HA.out rfl rfl 38 Ov.zero adr_zeros (Row.new wr 38 _) ?_))
      generalize hw2 : (wr.alloc (.cells Ov.zero.cs 38)).setRow wr.heap.size o.cs = w2 at *
      have O2 := hid (own_below HO.out B2.out)
      have M2 := hid (fun o ho => (HMi.out o ho).below B2.out)
      have B3 := hid (bthen HB.out B2.out)
      have LN := hid ((OK0.out.n.below B3.out).pre q1 hq1n)
      have LN0 := hid OK0.out.n.1
      have LT0 := hid OK0.out.t.1
      have BA0 := hid (balloc (Below.refl w2.heap.size w2) (.cells #[] 3))
      have R3 := hid (R2.out.alloc (.cells #[] 3))
      have O3 := hid (O2.out.alloc (.cells #[] 3))
      have B4 := hid (bthen B3.out BA0.out)
      have OW := hid (World.ownsRow_made (e := 3) (size := 1) (base := w.heap.size) w2 #[] 0 B3.out.size (by decide) (by simp))
      have LN3 := hid (LN.out.below BA0.out)
      generalize hgs : wr.heap.size = g at *
      clear hw2 hgs PP B2 HO HMi hz
      refine wp_region_held_drew (S := fun w' => w'.cell? ⟨g, 0, none⟩ = some (.int .i64 o.k) ∧ (w'.cell? ⟨g, 1, none⟩ = some (.slice o.n.a o.n.n o.n.cap) ∧ (w'.cell? ⟨g, 18, none⟩ = some (.slice o.t.a o.t.n o.t.cap) ∧ Hid (Row w' g 38 o.cs)))) (by kernel_rfl) ?_ (fun hHeld => ?_)
      · exact ⟨(R2.out.cell 0).trans o.at0, (R2.out.cell 1).trans o.at1, (R2.out.cell 18).trans (Ov.at18 HA.out), R2.out⟩
      refine wpAnyH_take (i := 0) (oi := _) (v := ?va0) rfl (by kernel_rfl) (by kernel_rfl) (by kernel_rfl) (fun _ _ _ h => h) (Or.inl ⟨by rfl, ?hya0⟩) (by assumption) ?resta0
      case hya0 => (intro w hSw; (try dsimp only at hSw); go_split_ands; go_simp; try (with_reducible rfl))
      try simp only [List.getElem_toArray, List.getElem_cons_zero, List.getElem_cons_succ, Act.put, List.setIfInBounds_toArray, List.set_cons_zero, List.set_cons_succ]
      refine wpAnyH_take (i := 1) (oi := _) (v := ?va1) rfl (by kernel_rfl) (by kernel_rfl) (by kernel_rfl) (fun _ _ _ h => h) (Or.inl ⟨by rfl, ?hya1⟩) (by assumption) ?resta1
      case hya1 => (intro w hSw; (try dsimp only at hSw); go_split_ands; go_simp; try (with_reducible rfl))
      try simp only [List.getElem_toArray, List.getElem_cons_zero, List.getElem_cons_succ, Act.put, List.setIfInBounds_toArray, List.set_cons_zero, List.set_cons_succ]
      refine wpAnyH_take (i := 2) (oi := _) (v := ?va2) rfl (by kernel_rfl) (by kernel_rfl) (by kernel_rfl) (fun _ _ _ h => h) (Or.inl ⟨by rfl, ?hya2⟩) (by assumption) ?resta2
      case hya2 => (intro w hSw; (try dsimp only at hSw); go_split_ands; go_simp; try (with_reducible rfl))
      try simp only [List.getElem_toArray, List.getElem_cons_zero, List.getElem_cons_succ, Act.put, List.setIfInBounds_toArray, List.set_cons_zero, List.set_cons_succ]
      refine wpAnyH_take (i := 4) (oi := _) (v := ?va4) rfl (by kernel_rfl) (by kernel_rfl) (by kernel_rfl) (fun _ _ _ h => h) (Or.inl ⟨by rfl, ?hya4⟩) (by assumption) ?resta4
      case hya4 => (intro w hSw; (try dsimp only at hSw); go_split_ands; go_simp; try (with_reducible rfl))
      try simp only [List.getElem_toArray, List.getElem_cons_zero, List.getElem_cons_succ, Act.put, List.setIfInBounds_toArray, List.set_cons_zero, List.set_cons_succ]
      refine wpAnyH_take (i := 5) (oi := _) (v := ?va5) rfl (by kernel_rfl) (by kernel_rfl) (by kernel_rfl) (fun _ _ _ h => h) (Or.inl ⟨by rfl, ?hya5⟩) (by assumption) ?resta5
      case hya5 => (intro w hSw; (try dsimp only at hSw); go_split_ands; go_simp; try (with_reducible rfl))
      try simp only [List.getElem_toArray, List.getElem_cons_zero, List.getElem_cons_succ, Act.put, List.setIfInBounds_toArray, List.set_cons_zero, List.set_cons_succ]
      refine wpAnyH_take (i := 6) (oi := _) (v := ?va6) rfl (by kernel_rfl) (by kernel_rfl) (by kernel_rfl) (fun _ _ _ h => h) (Or.inl ⟨by rfl, ?hya6⟩) (by assumption) ?resta6
      case hya6 => (intro w hSw; (try dsimp only at hSw); go_split_ands; go_simp; try (with_reducible rfl))
      try simp only [List.getElem_toArray, List.getElem_cons_zero, List.getElem_cons_succ, Act.put, List.setIfInBounds_toArray, List.set_cons_zero, List.set_cons_succ]
      refine wpAnyH_take (i := 7) (oi := _) (v := ?va7) rfl (by kernel_rfl) (by kernel_rfl) (by kernel_rfl) (fun _ _ _ h => h) (Or.inl ⟨by rfl, ?hya7⟩) (by assumption) ?resta7
      case hya7 => (intro w hSw; (try dsimp only at hSw); go_split_ands; go_simp; try (with_reducible rfl))
      try simp only [List.getElem_toArray, List.getElem_cons_zero, List.getElem_cons_succ, Act.put, List.setIfInBounds_toArray, List.set_cons_zero, List.set_cons_succ]
      refine wpAnyH_take (i := 8) (oi := _) (v := ?va8) rfl (by kernel_rfl) (by kernel_rfl) (by kernel_rfl) (fun _ _ _ h => h) (Or.inl ⟨by rfl, ?hya8⟩) (by assumption) ?resta8
      case hya8 => (intro w hSw; (try dsimp only at hSw); go_split_ands; go_simp; try (with_reducible rfl))
      try simp only [List.getElem_toArray, List.getElem_cons_zero, List.getElem_cons_succ, Act.put, List.setIfInBounds_toArray, List.set_cons_zero, List.set_cons_succ]
      refine wpAnyH_take (i := 9) (oi := _) (v := ?va9) rfl (by kernel_rfl) (by kernel_rfl) (by kernel_rfl) (fun _ _ _ h => h) (Or.inl ⟨by rfl, ?hya9⟩) (by assumption) ?resta9
      case hya9 => (intro w hSw; (try dsimp only at hSw); go_split_ands; go_simp; try (with_reducible rfl))
      try simp only [List.getElem_toArray, List.getElem_cons_zero, List.getElem_cons_succ, Act.put, List.setIfInBounds_toArray, List.set_cons_zero, List.set_cons_succ]
      refine wpAnyH_take (i := 10) (oi := _) (v := ?va10) rfl (by kernel_rfl) (by kernel_rfl) (by kernel_rfl) (fun _ _ _ h => h) (Or.inl ⟨by rfl, ?hya10⟩) (by assumption) ?resta10
      case hya10 => (intro w hSw; (try dsimp only at hSw); go_split_ands; go_simp; try (with_reducible rfl))
      try simp only [List.getElem_toArray, List.getElem_cons_zero, List.getElem_cons_succ, Act.put, List.setIfInBounds_toArray, List.set_cons_zero, List.set_cons_succ]
      refine wpAnyH_take (i := 12) (oi := _) (v := ?va12) rfl (by kernel_rfl) (by kernel_rfl) (by kernel_rfl) (fun _ _ _ h => h) (Or.inl ⟨by rfl, ?hya12⟩) (by assumption) ?resta12
      case hya12 => (intro w hSw; (try dsimp only at hSw); go_split_ands; go_simp; try (with_reducible rfl))
      try simp only [List.getElem_toArray, List.getElem_cons_zero, List.getElem_cons_succ, Act.put, List.setIfInBounds_toArray, List.set_cons_zero, List.set_cons_succ]
      refine wpAnyH_take (i := 13) (oi := _) (v := .agg (arr o.ad)) rfl (by kernel_rfl) (by kernel_rfl) (by kernel_rfl) (fun _ _ _ h => h) (yld36 (by rfl) _ rfl g 2 rfl o.ad HA.out (fun w h => by have := h.2.2.2.out.part.ovA HA.out; exact this)) (by assumption) ?_
      try simp only [List.getElem_toArray, List.getElem_cons_zero, List.getElem_cons_succ, Act.put, List.setIfInBounds_toArray, List.set_cons_zero, List.set_cons_succ]
      refine wpAnyH_take (i := 14) (oi := _) (v := ?va14) rfl (by kernel_rfl) (by kernel_rfl) (by kernel_rfl) (fun _ _ _ h => h) (Or.inl ⟨by rfl, ?hya14⟩) (by assumption) ?resta14
      case hya14 => (intro w hSw; (try dsimp only at hSw); go_split_ands; go_simp; try (with_reducible rfl))
      try simp only [List.getElem_toArray, List.getElem_cons_zero, List.getElem_cons_succ, Act.put, List.setIfInBounds_toArray, List.set_cons_zero, List.set_cons_succ]
      refine wpAnyH_take (i := 15) (oi := _) (v := ?va15) rfl (by kernel_rfl) (by kernel_rfl) (by kernel_rfl) (fun _ _ _ h => h) (Or.inl ⟨by rfl, ?hya15⟩) (by assumption) ?resta15
      case hya15 => (intro w hSw; (try dsimp only at hSw); go_split_ands; go_simp; try (with_reducible rfl))
      try simp only [List.getElem_toArray, List.getElem_cons_zero, List.getElem_cons_succ, Act.put, List.setIfInBounds_toArray, List.set_cons_zero, List.set_cons_succ]
      refine wpAnyH_take (i := 16) (oi := _) (v := ?va16) rfl (by kernel_rfl) (by kernel_rfl) (by kernel_rfl) (fun _ _ _ h => h) (Or.inl ⟨by rfl, ?hya16⟩) (by assumption) ?resta16
      case hya16 => (intro w hSw; (try dsimp only at hSw); go_split_ands; go_simp; try (with_reducible rfl))
      try simp only [List.getElem_toArray, List.getElem_cons_zero, List.getElem_cons_succ, Act.put, List.setIfInBounds_toArray, List.set_cons_zero, List.set_cons_succ]
      refine wpAnyH_take (i := 17) (oi := _) (v := ?va17) rfl (by kernel_rfl) (by kernel_rfl) (by kernel_rfl) (fun _ _ _ h => h) (Or.inl ⟨by rfl, ?hya17⟩) (by assumption) ?resta17
      case hya17 => (intro w hSw; (try dsimp only at hSw); go_split_ands; go_simp; try (with_reducible rfl))
      try simp only [List.getElem_toArray, List.getElem_cons_zero, List.getElem_cons_succ, Act.put, List.setIfInBounds_toArray, List.set_cons_zero, List.set_cons_succ]
      refine wpAnyH_take (i := 18) (oi := _) (v := ?va18) rfl (by kernel_rfl) (by kernel_rfl) (by kernel_rfl) (fun _ _ _ h => h) (Or.inl ⟨by rfl, ?hya18⟩) (by assumption) ?resta18
      case hya18 => (intro w hSw; (try dsimp only at hSw); go_split_ands; go_simp; try (with_reducible rfl))
      try simp only [List.getElem_toArray, List.getElem_cons_zero, List.getElem_cons_succ, Act.put, List.setIfInBounds_toArray, List.set_cons_zero, List.set_cons_succ]
      refine wpAnyH_take (i := 19) (oi := _) (v := ?va19) rfl (by kernel_rfl) (by kernel_rfl) (by kernel_rfl) (fun _ _ _ h => h) (Or.inl ⟨by rfl, ?hya19⟩) (by assumption) ?resta19
      case hya19 => (intro w hSw; (try dsimp only at hSw); go_split_ands; go_simp; try (with_reducible rfl))
      try simp only [List.getElem_toArray, List.getElem_cons_zero, List.getElem_cons_succ, Act.put, List.setIfInBounds_toArray, List.set_cons_zero, List.set_cons_succ]
      refine wpAnyH_take (i := 20) (oi := _) (v := ?va20) rfl (by kernel_rfl) (by kernel_rfl) (by kernel_rfl) (fun _ _ _ h => h) (Or.inl ⟨by rfl, ?hya20⟩) (by assumption) ?resta20
      case hya20 => (intro w hSw; (try dsimp only at hSw); go_split_ands; go_simp; try (with_reducible rfl))
      try simp only [List.getElem_toArray, List.getElem_cons_zero, List.getElem_cons_succ, Act.put, List.setIfInBounds_toArray, List.set_cons_zero, List.set_cons_succ]
      refine wpAnyH_ready (rs := [3]) (by kernel_rfl) (by simp) ?_
      refine AllReadyH.cons (o := _) rfl (fun K hK => ?_) AllReadyH.nil
      go_simp
      go_wp2_with fail
      refine hK.out _ _ ⟨(R3.out.cell 0).trans o.at0, (R3.out.cell 1).trans o.at1, (R3.out.cell 18).trans (Ov.at18 HA.out), R3.out⟩ (fun hHeld => ?_)
      clear hK K
      try simp only [List.getElem_toArray, List.getElem_cons_zero, List.getElem_cons_succ, Act.put, List.setIfInBounds_toArray, List.set_cons_zero, List.set_cons_succ]
      refine wpAnyH_ready (rs := [11]) (by kernel_rfl) (by simp) ?_
      refine AllReadyH.cons (o := _) rfl (fun K hK => ?_) AllReadyH.nil
      refine step_appI (base := w.heap.size) (n := 0) (m := q1) (xs := []) (l := o.n.l.take q1) rfl _ _ rfl rfl rfl (by exact OW.out) (by exact LN3.out) (by exact B4.out.size) (by omega) ?_
      intro v4 w4 hown4 hg4
      have hg4 : (w2.alloc (.cells #[] 3)).grownBy w4 (some w2.heap.size) := ⟨hg4.os, hg4.tape, hg4.output, hg4.size, hg4.block⟩
      rw [Nat.zero_add, List.nil_append] at hown4
      have R4 := hid (R3.out.kept hg4 (fun e => by have := Option.some.inj e; have := R2.out.lt; omega))
      have O4 := hid (own_kept3 O3.out OW.out hg4)
      have M4 := hid (fun o ho => (M2.out o ho).new hg4)
      have B5 := hid (Below.grown B4.out hg4 B4.out.size (fun k hk => by have := Option.some.inj hk; have := B3.out.size; omega))
      obtain ⟨na, nc, rfl⟩ := owns_len hown4
      have N4 := hid hown4
      clear hown4 hg4
      refine hK.out _ _ ⟨(R4.out.cell 0).trans o.at0, (R4.out.cell 1).trans o.at1, (R4.out.cell 18).trans (Ov.at18 HA.out), R4.out⟩ (fun hHeld => ?_)
      clear hK K
      try simp only [List.getElem_toArray, List.getElem_cons_zero, List.getElem_cons_succ, Act.put, List.setIfInBounds_toArray, List.set_cons_zero, List.set_cons_succ]
      refine wpAnyH_take (i := 21) (oi := _) (v := .agg (Ov.cs (⟨o.k, ⟨na, q1, nc, o.n.l.take q1⟩, o.ad, ⟨o.t.a, q2, o.t.cap, o.t.l.take q2⟩⟩ : Ov))) rfl (by kernel_rfl) (by kernel_rfl) (by kernel_rfl) (fun _ _ _ h => h) (ybdO o43 (by rfl) _ _ _ _ rfl (⟨o.k, ⟨na, q1, nc, o.n.l.take q1⟩, o.ad, ⟨o.t.a, q2, o.t.cap, o.t.l.take q2⟩⟩ : Ov) HA.out rfl rfl rfl rfl) (by assumption) ?_
      try simp only [List.getElem_toArray, List.getElem_cons_zero, List.getElem_cons_succ, Act.put, List.setIfInBounds_toArray, List.set_cons_zero, List.set_cons_succ]
      have MX : Hid (Mine w w4 (⟨o.k, ⟨na, q1, nc, o.n.l.take q1⟩, o.ad, ⟨o.t.a, q2, o.t.cap, o.t.l.take q2⟩⟩ : Ov)) := ⟨ownsRow_i64 N4.out rfl (by rw [List.length_take, LN0.out]; omega) rfl, by simp only [List.length_take, LN0.out]; omega, HA.out, OK0.out.t.pre q2 hq2n, oct_take OK0.out.oct _⟩
      have PX : Hid (Ov.p (⟨o.k, ⟨na, q1, nc, o.n.l.take q1⟩, o.ad, ⟨o.t.a, q2, o.t.cap, o.t.l.take q2⟩⟩ : Ov) = cutP o.p) := by rw [Hid, ← HQ1.out, ← HQ2.out]; simp only [Ov.p, cutP, take_min' _ _ _ LN0.out, take_min' _ _ _ LT0.out]
      generalize hX : (⟨o.k, ⟨na, q1, nc, o.n.l.take q1⟩, o.ad, ⟨o.t.a, q2, o.t.cap, o.t.l.take q2⟩⟩ : Ov) = X at *
      clear hX
      refine wpAnyH_ready (rs := [22]) (by kernel_rfl) (by simp) ?_
      refine AllReadyH.cons (o := _) rfl (fun K hK => ?_) AllReadyH.nil
      refine step_bsO s23 rfl _ rfl X MX.out.ad rfl ?_
      have R5 := hid (R4.out.alloc (.cells X.cs 43))
      have O5 := hid (O4.out.alloc (.cells X.cs 43))
      have BA := hid (balloc (Below.refl w4.heap.size w4) (.cells X.cs 43))
      have M5 := hid (fun o ho => (M4.out o ho).below BA.out)
      have MX5 := hid (MX.out.below BA.out)
      have B6 := hid (bthen B5.out BA.out)
      have RX := hid (Row.new w4 43 X.cs)
      refine hK.out _ _ ⟨(R5.out.cell 0).trans o.at0, (R5.out.cell 1).trans o.at1, (R5.out.cell 18).trans (Ov.at18 HA.out), R5.out⟩ (fun hHeld => ?_)
      clear hK K
      try simp only [List.getElem_toArray, List.getElem_cons_zero, List.getElem_cons_succ, Act.put, List.setIfInBounds_toArray, List.set_cons_zero, List.set_cons_succ]
      generalize hw5 : w4.alloc (.cells X.cs 43) = w5 at *
      generalize hg5 : w4.heap.size = g5 at *
      clear hw5 hg5
      refine wpAnyH_ready (rs := [23]) (by kernel_rfl) (by simp) ?_
      refine AllReadyH.cons (o := _) rfl (fun K hK => ?_) AllReadyH.nil
      refine step_pushO s23 rfl _ _ rfl w.heap.size k g5 _ (ocs L') rfl O5.out X MX5.out.ad rfl RX.out (by exact B6.out.size) (by omega) ?_
      intro v6 w6 hown6 hg6
      have R6 := hid (R5.out.kept hg6 (fun e => own_row O5.out R5.out (by decide) e.symm))
      have M6 := hid (fun o ho => (M5.out o ho).kept O5.out hg6)
      have MX6 := hid (MX5.out.kept O5.out hg6)
      have B7 := hid (Below.grown B6.out hg6 B6.out.size (fun j hj => (O5.out.lt j hj).1))
      have O6 := hid hown6
      clear hown6 hg6
      refine hK.out _ _ ⟨(R6.out.cell 0).trans o.at0, (R6.out.cell 1).trans o.at1, (R6.out.cell 18).trans (Ov.at18 HA.out), R6.out⟩ (fun hHeld => ?_)
      clear hK K
      try simp only [List.getElem_toArray, List.getElem_cons_zero, List.getElem_cons_succ, Act.put, List.setIfInBounds_toArray, List.set_cons_zero, List.set_cons_succ]
      refine wpAnyH_take (i := 24) (oi := _) (v := ?va24) rfl (by kernel_rfl) (by kernel_rfl) (by kernel_rfl) (fun _ _ _ h => h) (Or.inl ⟨by rfl, ?hya24⟩) (by assumption) ?resta24
      case hya24 => (intro w hSw; (try dsimp only at hSw); go_split_ands; go_simp; try (with_reducible rfl))
      try simp only [List.getElem_toArray, List.getElem_cons_zero, List.getElem_cons_succ, Act.put, List.setIfInBounds_toArray, List.set_cons_zero, List.set_cons_succ]
      refine wpAnyH_done (by kernel_rfl) ?_ _
      go_wp2_with fail
      go_roundw
      case rel =>
        refine ⟨k + 1, L' ++ [X], by omega, by go_num, ?_, ?_, ?_, ?_, B7.out⟩
        · rw [Hid, List.length_append, HLL.out]; rfl
        · rw [Hid, HPS.out, pos, List.map_append, List.map_append, ← HPL.out]; simp [pos, PX.out]
        · rw [Hid, ocs_snoc]; exact O6.out
        · intro o ho
          rcases List.mem_append.1 ho with h | h
          · exact M6.out o h
          · rw [List.mem_singleton.1 h]; exact MX6.out
      case measure => simp [intOf]; omega
    · obtain rfl : k = m := by omega
      have hcase : ¬ ((k : Int) < (n : Int)) ∨ ((k : Int) < (n : Int) ∧ ¬ (k : Int) < 20) := by
        by_cases hn : k < n
        · have : ¬ k < 20 := fun h => absurd ((HM3.out k).2 ⟨hn, h⟩) (Nat.lt_irrefl _)
          omega
        · omega
      have HOK := hid (fun o ho => (HMi.out o ho).ok HB.out)
      obtain ⟨va, vc, hv, hop⟩ := owns_opts (by rw [HLL.out]; exact HO.out) HOK.out
      subst hv
      rw [HLL.out] at hop
      have HOP := hid hop
      have HPF : Hid (pos L' = ((pos L).take 20).map cutP) := by
        rw [Hid, HPL.out, ← HM.out]
        congr 1
        have := pos_len L
        rw [HLen.out] at this
        rw [Nat.min_comm, ← List.take_take, List.take_of_length_le (l := pos L) (by omega)]
      rw [HLL.out]
      clear hop
      rcases hcase with h | ⟨h, h'⟩
      · go_wp2_with fail
        go_ret
        unfold ToOk
        exact ⟨va, vc, L', by rw [HM.out]; rfl, by rw [HM.out]; exact HOP.out, HPF.out, HB.out⟩
      · go_wp2_with fail
        go_ret
        unfold ToOk
        exact ⟨va, vc, L', by rw [HM.out]; rfl, by rw [HM.out]; exact HOP.out, HPF.out, HB.out⟩
end Go.Proofs.YtbgogeojdibmkaaDoor

namespace Go.Proofs.YtbgogeojdibmkaaDoor
open Go.ChangeShapes Go.WideShapes Go.ChangeAt Go.RowKit Go.Deep
set_option linter.unusedVariables false
set_option linter.unusedSimpArgs false

/-- What body answers. -/
def BodyOk (w : World) (a : Option Addr) (k : Nat) (l : List Int) (e : Ending) (w' : World) : Prop :=
  ∃ (o : Ov) (b : Bool), e = .returned (.tuple #[.agg o.cs, .bool b]) ∧ Mine w w' o ∧ (0 < o.t.n → o.t.a = a) ∧ Below w.heap.size w w' ∧ (b = true ↔ filE k l 0 = 0) ∧ (b = true → o.p = filP k l 0)
end Go.Proofs.YtbgogeojdibmkaaDoor
