/- The document's Decode. · The document's Decode of options, with where its texts lie. · A message's targets. · The document's answer: May; and the chapter's example. -/
import Derived.Test.YtbfjkhafdkhhmaaDoorM28
import Derived.Test.YtbfjkhafdkhhmaaDoorM21
import Derived.Test.YtbfjkhafdkhhmaaDoorM26
import Derived.Test.YtbfjkhafdkhhmaaDoorTw
import Derived.Test.YtbfjkhafdkhhmaaDoorM11
import Derived.Test.YtbfjkhafdkhhmaaDoorM18
namespace Go.Proofs.YtbfjkhafdkhhmaaDoor
open Go.ChangeShapes Go.WideShapes Go.ChangeAt Go.RowKit Go.Deep
set_option linter.unusedVariables false
set_option linter.unusedSimpArgs false

theorem pow_le4 (k : Nat) (h : k ≤ 4) : (256 : Int) ^ k ≤ 4294967296 := by
  rcases k with _ | _ | _ | _ | _ | k
  · decide
  · decide
  · decide
  · decide
  · decide
  · omega
theorem numOf_4 (m : List Int) (h : Oct m) (hl : m.length ≤ 4) : 0 ≤ numOf m ∧ numOf m < 4294967296 := by
  have := numOf_bd m h m.length (Nat.le_refl _)
  rw [List.take_length] at this
  have := pow_le4 m.length hl
  omega
theorem stps_bd (l : List Int) (ho : Oct l) (P : List (Int × Int)) : (∀ p ∈ P, (p.1 == 16) = true ∨ sizeB p.1 = true) → ∀ s : Nat × List Int × List Int, (∀ x ∈ s.2.1, 0 ≤ x ∧ x < 4294967296) → ∀ x ∈ (P.foldl (stp l) s).2.1, 0 ≤ x ∧ x < 4294967296 := by
  induction P with
  | nil => intro _ s h; exact h
  | cons q P ih =>
    intro hP s h
    rw [List.foldl_cons]
    refine ih (fun p hp => hP p (by simp [hp])) _ ?_
    by_cases h16 : (q.1 == 16) = true
    · rw [stp, if_pos h16]; exact h
    · have hz := (hP q (by simp)).resolve_left h16
      rw [stp, if_neg h16]
      intro x hx
      rcases List.mem_append.1 hx with e | e
      · exact h x e
      · rw [List.mem_singleton.1 e]
        refine numOf_4 _ (fun y hy => ho y (List.mem_of_mem_drop (List.mem_of_mem_take hy))) ?_
        rw [List.length_take]
        rcases sizeB_cases hz with e | e | e <;> rw [e] <;> simp <;> omega
theorem fil_wf {k : Nat} (hk : k < 10) (l : List Int) (ho : Oct l) (hl : l.length ≤ 300) : ∀ x ∈ (filP k l 0).n, (Lit.int .i64 x).wf = true := by
  have hb : ∀ x ∈ (filP k l 0).n, 0 ≤ x ∧ x < 4294967296 := by
    intro x hx
    rw [filP, if_pos rfl] at hx
    split at hx
    · simp at hx; omega
    · split at hx
      · simp at hx
      · split at hx
        · exact stps_bd l ho (prt k) (prt_all k hk).1 (0, [], zeros) (by simp) x hx
        · simp at hx
  intro x hx
  have := hb x hx
  simp [Lit.wf, IntKind.min, IntKind.max, IntKind.bits, IntKind.signed]
  omega
theorem fil_03 (k : Nat) (l : List Int) (h : filE k l 0 ≠ 0) : filE k l 0 = 3 := by
  unfold filE at h ⊢
  rw [if_pos rfl] at h ⊢
  split
  · rename_i e; rw [if_pos e] at h; unfold zerE at h ⊢; split
    · rfl
    · rename_i e2; rw [if_neg e2] at h; exact absurd rfl h
  · rename_i e; rw [if_neg e] at h
    split
    · rename_i e2; rw [if_pos e2] at h; exact absurd rfl h
    · rename_i e2; rw [if_neg e2] at h
      split
      · rename_i e3; rw [if_pos e3] at h; exact absurd rfl h
      · rfl
theorem Mine.kept38 {w0 w w' : World} {o : Ov} {v : Value} {n : Nat} {xs : List Value} {b : Nat} (h : Mine w0 w o) (ho : w.ownsRow b 57 19 v n xs) (hg : w.grownBy w' v.ownBlock) : Mine w0 w' o :=
  ⟨h.n.kept hg (own_apart h.n ho (by decide)), h.nn, h.ad, h.t, h.oct⟩
theorem Mine.base {w w1 w2 : World} {o : Ov} (h : Mine w1 w2 o) (hb : Below w.heap.size w w1) (ht : ∀ x, o.t.a = some x → 0 < o.t.n → x.block < w.heap.size) : Mine w w2 o :=
  ⟨own_mono h.n hb.size, h.nn, h.ad, lies_back h.t hb ht, h.oct⟩
theorem mine_zero (w w' : World) : Mine w w' Ov.zero := ⟨World.ownsRow_nil _ _ _ _, rfl, adr_zeros, Lies.nil _ _, fun x hx => by cases hx⟩
def lenV (v : Value) : Nat := match v with | .slice _ n _ => n | _ => 0
/-- What the document's Decode answers. -/
def RdcOk (w : World) (l : List Int) (e : Ending) (w' : World) : Prop :=
  ∃ v L, e = .returned (.tuple #[v, .int .i64 (dec 0 l).2]) ∧ Below w.heap.size w w' ∧ w'.ownsRow w.heap.size 57 19 v L.length (ocs L) ∧ (∀ o ∈ L, Mine w w' o) ∧ pos L = (if (dec 0 l).2 = 0 then (dec 0 l).1 else [])
theorem RdcOk.bad {w w' : World} {l : List Int} {x : Int} (hx : x ≠ 0) (h : (dec 0 l).2 = x) (hb : Below w.heap.size w w') : RdcOk w l (.returned (.tuple #[.slice none 0 0, .int .i64 x])) w' :=
  ⟨.slice none 0 0, [], by rw [h], hb, World.ownsRow_nil _ _ _ _, fun o ho => (by cases ho), by rw [h, if_neg hx]; rfl⟩
/-- Where the document's Decode stands. -/
structure RdcAt (w wr : World) (l : List Int) (len at_ m : Nat) (a : Option Addr) (cap n : Nat) (L : List Ov) (v : Value) : Prop where
  le : at_ + m = len
  nL : L.length = n
  lies : Lies .u8 w a m cap (l.drop at_)
  dec : DecAt l at_ 0 L
  own : wr.ownsRow w.heap.size 57 19 v n (ocs L)
  mine : ∀ o ∈ L, Mine w wr o
  below : Below w.heap.size w wr
section
variable {w wr w' : World} {l : List Int} {len at_ m : Nat} {a : Option Addr} {cap n : Nat} {L : List Ov} {v : Value}
theorem RdcAt.on (h : RdcAt w wr l len at_ m a cap n L v) (hb : Below wr.heap.size wr w') : RdcAt w w' l len at_ m a cap n L v :=
  ⟨h.le, h.nL, h.lies, h.dec, own_below h.own hb, fun o ho => (h.mine o ho).below hb, bthen h.below hb⟩
/-- Something is wrong. -/
theorem RdcAt.bad (h : RdcAt w wr l len at_ m a cap n L v) (hl : l.length = len) (hm : 0 < m) {x : Int} (hx : x ≠ 0) (he : nxE n (l.drop at_) = x) : (Go.Proofs.YtbfjkhafdkhhmaaDoor.dec 0 l).2 = x := by
  have := h.dec.next (L2 := []) (at2 := 0) (er2 := x) (by have := h.le; omega) (by rw [h.nL, he]) (fun e => absurd e hx)
  exact this.2 hx
/-- An option more (world w'). -/
theorem RdcAt.push (h : RdcAt w wr l len at_ m a cap n L v) (hl : l.length = len) (hm : 0 < m) (he : nxE n (l.drop at_) = 0) (o : Ov) (hp : o.p = nxP (l.drop at_)) (ho : Mine w wr o) (k : Nat) (hk : nxN (l.drop at_) = k) (hkm : k ≤ m)
    {v2 : Value} (hown : w'.ownsRow w.heap.size 57 19 v2 (n + 1) (ocs L ++ o.cs.toList)) (hg : wr.grownBy w' v.ownBlock) {a2 : Option Addr} (h1 : ¬ cap = k → a2 = a.map (·.add k)) (h2 : cap = k → a2 = a) :
    RdcAt w w' l len (at_ + k) (m - k) a2 (cap - k) (n + 1) (L ++ [o]) v2 := by
  have hd := h.dec.next (L2 := L ++ [o]) (at2 := at_ + k) (er2 := 0) (by have := h.le; omega) (by rw [h.nL, he]) (fun _ => ⟨by simp [pos, hp], by rw [hk]⟩)
  have hc := h.lies.cut k (m - k) cap (by omega) (by have := h.lies.2.1; omega) (Nat.le_refl _) h1 h2
  rw [List.take_of_length_le (by rw [List.length_drop, h.lies.1]; exact Nat.le_refl _), List.drop_drop] at hc
  refine ⟨by have := h.le; omega, by rw [List.length_append, h.nL]; rfl, hc, hd, ?_, ?_, ?_⟩
  · rw [ocs_snoc]; exact hown
  · intro x hx
    rcases List.mem_append.1 hx with e | e
    · exact (h.mine x e).kept38 h.own hg
    · rw [List.mem_singleton.1 e]; exact ho.kept38 h.own hg
  · exact Below.grown h.below hg h.below.size (fun j hj => (h.own.lt j hj).1)
end
end Go.Proofs.YtbfjkhafdkhhmaaDoor

namespace Go.Proofs.YtbfjkhafdkhhmaaDoor
open Go.ChangeShapes Go.WideShapes Go.ChangeAt Go.RowKit Go.Deep
set_option linter.unusedVariables false
set_option linter.unusedSimpArgs false

/-- A text's block. -/
def TB (B : Nat) (o : Ov) : Prop := ∀ x, o.t.a = some x → 0 < o.t.n → x.block < B
theorem TB.snoc {B : Nat} {L : List Ov} {o : Ov} (h : ∀ o ∈ L, TB B o) (ho : TB B o) : ∀ x ∈ L ++ [o], TB B x := by
  intro x hx
  rcases List.mem_append.1 hx with e | e
  · exact h x e
  · rw [List.mem_singleton.1 e]; exact ho
theorem TB.zero (B : Nat) : TB B Ov.zero := fun x e _ => by cases e
def RdcOkB (B : Nat) (w : World) (l : List Int) (e : Ending) (w' : World) : Prop :=
  ∃ v L, e = .returned (.tuple #[v, .int .i64 (dec 0 l).2]) ∧ Below w.heap.size w w' ∧ w'.ownsRow w.heap.size 57 19 v L.length (ocs L) ∧ (∀ o ∈ L, Mine w w' o) ∧ pos L = (if (dec 0 l).2 = 0 then (dec 0 l).1 else []) ∧ ∀ o ∈ L, TB B o
theorem RdcOkB.bad {B : Nat} {w w' : World} {l : List Int} {x : Int} (hx : x ≠ 0) (h : (dec 0 l).2 = x) (hb : Below w.heap.size w w') : RdcOkB B w l (.returned (.tuple #[.slice none 0 0, .int .i64 x])) w' :=
  ⟨.slice none 0 0, [], by rw [h], hb, World.ownsRow_nil _ _ _ _, fun o ho => (by cases ho), by rw [h, if_neg hx]; rfl, fun o ho => (by cases ho)⟩
set_option maxRecDepth 1000000 in
set_option maxHeartbeats 3200000 in
theorem refDecO_any (B : Nat) (a : Option Addr) (len cap : Nat) (l : List Int) (w : World) (h : Lies .u8 w a len cap l) (ho : Oct l) (hl : len ≤ 700) (hB : ∀ x, a = some x → 0 < len → x.block < B) :
    Calls Tryd.prog 43 #[.slice a len cap] w (RdcOkB B w l) := by
  have hz := zov
  have HLl := hid h.1
  have HO := hid ho
  have R0 : Hid (RdcAt w w l len 0 len a cap 0 [] (.slice none 0 0)) := ⟨Nat.zero_add _, rfl, h, ⟨fun _ => by simp [pos], fun e => absurd rfl e⟩, World.ownsRow_nil _ _ _ _, fun o ho => (by cases ho), Below.refl _ _⟩
  have HB0 := hid hB
  clear h ho hB
  go_enter Tryd.func43, Tryd.ntmps43
  go_wp2_with fail
  go_loopw [0, 4] (fun bv v wr => ∃ (at_ m : Nat) (a2 : Option Addr) (cap2 n : Nat) (L : List Ov) (va : Option Addr) (vc : Nat), bv = .slice a2 m cap2 ∧ v = .slice va n vc ∧ n ≤ 16 ∧ m ≤ len ∧ Hid (RdcAt w wr l len at_ m a2 cap2 n L (.slice va n vc)) ∧ Hid (∀ x, a2 = some x → 0 < m → x.block < B) ∧ Hid (∀ o ∈ L, TB B o)) (fun bv _ _ => lenV bv)
  case atStart => exact ⟨0, len, a, cap, 0, [], none, 0, rfl, rfl, Nat.zero_le _, Nat.le_refl _, R0.out, HB0, hid (fun o ho => by cases ho)⟩
  case round =>
    obtain ⟨at_, m, a2, cap2, n, L, va, vc, rfl, rfl, hn16, hml, H, HAB, HTB⟩ := hrel
    have hmc := H.out.lies.2.1
    have hcm := H.out.lies.2.2.1
    unfold maxLen at hcm
    by_cases hm0 : m = 0
    · subst hm0
      go_wp2_with fail
      go_ret2
      have hat : at_ = l.length := by have := H.out.le; rw [HLl.out]; omega
      have hd : dec 0 l = (pos L, 0) := by
        have := H.out.dec.1 rfl
        rw [hat, List.drop_of_length_le (Nat.le_refl _), dec_nil] at this
        simpa using this
      refine ⟨.slice va n vc, L, by rw [hd]; rfl, H.out.below, by rw [H.out.nL]; exact H.out.own, H.out.mine, by rw [hd]; simp, HTB.out⟩
    · have hm1 : 0 < m := by omega
      obtain ⟨x, T, hM⟩ : ∃ x T, l.drop at_ = x :: T := by
        cases hc : l.drop at_ with
        | nil => have := H.out.lies.1; rw [hc] at this; simp at this; omega
        | cons x T => exact ⟨x, T, rfl⟩
      have HM := hid hM
      have hTl : T.length + 1 = m := by have := H.out.lies.1; rw [hM] at this; simpa using this
      obtain ⟨b, off, hab, hc0⟩ := (H.out.lies.below H.out.below).2.2.2.2 0 hm1
      have HbB := hid (HAB.out ⟨b, off, none⟩ hab hm1)
      clear HAB
      rw [hM] at hc0
      have HOM : Hid (Oct (x :: T)) := by rw [Hid, ← hM]; exact fun y hy => HO.out y (List.mem_of_mem_drop hy)
      have hx := HOM.out x (by simp)
      rw [List.getD_cons_zero, Nat.add_zero] at hc0
      subst hab
      have HTl := hid hTl
      clear hM hTl hm0
      by_cases hn : n = 16
      · subst hn
        go_wp2_with fail
        go_ret2
        exact RdcOkB.bad (by decide) (H.out.bad HLl.out hm1 (by decide) (by rw [nxE_full])) H.out.below
      · have h16 : ((n : Int) == 16) = false := by simp; omega
        have HN := hid hn
        clear hn
        go_wp2_with fail
        refine (parts_any x _).mono ?_
        rintro e w1 ⟨rfl, hb1⟩
        have hc1 := (H.out.lies.below (H.out.on hb1).below).2.2.2.2
        have H1 := hid (H.out.on hb1)
        cases hk : kndB x
        · have HLx : Hid (lets x = ⟨#[63]⟩) := by simp [Hid, lets, hk]
          have HE := hid (H1.out.bad HLl.out hm1 (x := 6) (by decide) (by rw [HM.out, nxE_kind _ _ HN.out (by rw [nxK_cons]; exact hk)]))
          rw [HLx.out]
          clear hk hb1 H hc1
          go_wp2_with fail
          go_ret2
          exact RdcOkB.bad (by decide) HE.out H1.out.below
        · obtain ⟨k, rfl, hk10⟩ := knd_nat hk
          have HLx : Hid (lets k = chs k) := by rw [Hid, lets, hk, if_pos rfl]; rfl
          rw [HLx.out]
          have hne := chs_ne k hk10
          clear hk hb1 H
          by_cases hk0 : k = 0
          · subst hk0
            have HE : Hid (nxE n (l.drop at_) = 0 ∧ nxP (l.drop at_) = Ov.zero.p ∧ nxN (l.drop at_) = 1) := by
              obtain ⟨p1, p2, p3⟩ := nx_pad T
              rw [Hid, HM.out]; exact ⟨nxE_pad n T HN.out, p2, p3⟩
            clear hc1
            have BA := hid (balloc (Below.refl w1.heap.size w1) (.cells Ov.zero.cs 57))
            have H2 := hid (H1.out.on BA.out)
            have RX := hid (Row.new w1 57 Ov.zero.cs)
            have HZ0 : Hid (Adr Ov.zero.ad) := adr_zeros
            go_wp2_with (first | (refine bdOzo o38 rfl rfl ?_) | (refine bsO s22 rfl _ rfl Ov.zero HZ0.out rfl ?_) | (at_builtin; refine wpList_pushO s22 rfl _ _ rfl w.heap.size _ w1.heap.size _ _ rfl H2.out.own Ov.zero HZ0.out rfl RX.out ?c1 ?c2 ?_))
            case c1 => exact H2.out.below.size
            case c2 => omega
            intro v3 w3 hown3 hg3
            obtain ⟨va3, vc3, rfl⟩ := owns_len hown3
            have HOW := hid hown3
            have HG := hid hg3
            clear hown3 hg3
            go_wp2_with ((with_reducible refine wpl_id ?_); refine wp_cutL rfl _ _ rfl (some ⟨b, off, none⟩) m cap2 1 1 rfl rfl rfl hm1 ?_)
            intro a4 h1 h2
            have H4 := hid (H2.out.push HLl.out hm1 HE.out.1 Ov.zero HE.out.2.1.symm (mine_zero _ _) 1 HE.out.2.2 hm1 HOW.out HG.out h1 h2)
            have HA4 : Hid (∀ x, a4 = some x → 0 < m - 1 → x.block < B) := fun x e _ => by
              by_cases hc : cap2 = 1
              · rw [h2 hc] at e; cases e; exact HbB.out
              · rw [h1 hc] at e; simp at e; rw [← e]; exact HbB.out
            clear h1 h2
            go_wp2_with fail
            go_roundw
            case rel => exact ⟨at_ + 1, m - 1, a4, cap2 - 1, n + 1, _, va3, vc3, rfl, rfl, by have := HN.out; omega, by omega, H4.out, HA4, hid (TB.snoc HTB.out (TB.zero _))⟩
            case measure => simp [lenV]; omega
          · have HK0 := hid hk0
            have hk0' : ((k : Int) == 0) = false := by simp [hk0]
            clear hk0
            have hM2 : T = [] ∨ ∃ y T2, T = y :: T2 := by
              cases T with
              | nil => exact .inl rfl
              | cons y T2 => exact .inr ⟨y, T2, rfl⟩
            rcases hM2 with hT | ⟨y, T2, hT⟩
            · have hm2 : m = 1 := by have := HTl.out; rw [hT] at this; simpa using this.symm
              have HE := hid (H1.out.bad HLl.out hm1 (x := 4) (by decide) (by rw [HM.out, hT]; exact nxE_cut n k _ HN.out hk10 HK0.out (nxK_cons _ _) (nx_none _)))
              subst hm2
              clear hT hc1
              go_wp2_with fail
              go_ret2
              exact RdcOkB.bad (by decide) HE.out H1.out.below
            · have hTl2 : T2.length + 2 = m := by have := HTl.out; rw [hT] at this; simpa using this
              obtain ⟨b', off', hab', hcy⟩ := hc1 1 (by omega)
              cases hab'
              rw [HM.out, hT] at hcy
              have hcy2 : w1.cell? ⟨b, off + 1, none⟩ = some (.int .u8 y) := hcy
              have hy := HOM.out y (by rw [hT]; simp)
              obtain ⟨Y, rfl⟩ := Int.eq_ofNat_of_zero_le hy.1
              have HMy : Hid (l.drop at_ = (k : Int) :: (Y : Int) :: T2) := by rw [Hid, HM.out, hT]
              have HOT : Hid (Oct T2) := fun z hz => HOM.out z (by rw [hT]; simp [hz])
              have HT2 := hid hTl2
              have hm2 : ¬ (m : Int) < 2 := by omega
              clear hT hc1 hcy hTl2 HM HOM HTl
              by_cases hYm : (m : Int) - 2 < Y
              · have HE := hid (H1.out.bad HLl.out hm1 (x := 4) (by decide) (by rw [HMy.out]; exact nxE_cut n k _ HN.out hk10 HK0.out (nxK_cons _ _) (nx_cut _ _ _ (by omega) (by have := HT2.out; omega))))
                go_wp2_with fail
                go_ret2
                exact RdcOkB.bad (by decide) HE.out H1.out.below
              · have hYT : Y ≤ T2.length := by have := HT2.out; omega
                have HF : Hid (nxE n (l.drop at_) = spE (filE k (T2.take Y) 0) (chkP (filP k (T2.take Y) 0)) ∧ nxP (l.drop at_) = filP k (T2.take Y) 0 ∧ nxN (l.drop at_) = 2 + Y) := by
                  have := nxE_long n k (Y : Int) T2 HN.out hk10 HK0.out (by omega) (by omega)
                  rw [Int.toNat_natCast] at this
                  rw [Hid, HMy.out]; exact this
                have HFo : Hid (Oct (T2.take Y)) := fun z hz => HOT.out z (List.mem_of_mem_take hz)
                have HFl : Hid ((T2.take Y).length = Y) := by rw [Hid, List.length_take]; omega
                have Q0 : Hid ((2 : Int) + (Y : Int) = ((2 + Y : Nat) : Int)) := by rw [Hid]; omega
                have Q1 : Hid (2 ≤ 2 + Y) := by rw [Hid]; omega
                have Q3 : Hid (2 + Y ≤ m) := by rw [Hid]; have := HT2.out; omega
                have Q2 : Hid (2 + Y ≤ cap2) := by rw [Hid]; have := Q3.out; omega
                have hY255 : Y ≤ 255 := by omega
                have hbw : Hid (b < w.heap.size) := by
                  obtain ⟨b', off', e, hc⟩ := H1.out.lies.2.2.2.2 0 hm1
                  cases e
                  exact World.block_lt_of_cell? w _ hc
                have hLS := fun a5 (h1 : ¬ cap2 = 2 → a5 = (some (⟨b, off, none⟩ : Addr)).map (·.add 2)) (h2 : cap2 = 2 → a5 = some ⟨b, off, none⟩) => H1.out.lies.cut 2 Y cap2 Q3.out Q2.out (Nat.le_refl _) h1 h2
                rw [HMy.out, show (((k : Int) :: (Y : Int) :: T2).drop 2) = T2 from rfl] at hLS
                have HLS := hid hLS
                generalize T2.take Y = F at *
                clear hLS hYT HT2 HOT
                have HZ0 : Hid (Adr Ov.zero.ad) := adr_zeros
                go_wp2_with ((with_reducible refine wpl_id ?_); refine wp_cutM rfl _ _ _ rfl (some ⟨b, off, none⟩) m cap2 2 (2 + Y) 2 (2 + (Y : Int)) rfl rfl rfl rfl Q0.out Q1.out Q2.out ?_)
                intro a5 h1 h2
                have LS := hid ((HLS.out a5 h1 h2).below H1.out.below)
                have HBK : Hid (∀ x, a5 = some x → x.block < w.heap.size) := fun x e => by
                  by_cases hc : cap2 = 2
                  · rw [h2 hc] at e; cases e; exact hbw.out
                  · rw [h1 hc] at e; simp at e; rw [← e]; exact hbw.out
                have HBB : Hid (∀ x, a5 = some x → x.block < B) := fun x e => by
                  by_cases hc : cap2 = 2
                  · rw [h2 hc] at e; cases e; exact HbB.out
                  · rw [h1 hc] at e; simp at e; rw [← e]; exact HbB.out
                clear h1 h2
                go_wp2_with fail
                refine (body_any k hk10 HK0.out a5 Y (cap2 - 2) F _ LS.out HFo.out (by omega)).mono ?_
                rintro e w5 ⟨o, ok, rfl, hmi, hsrc, hb5, hiff, himp⟩
                have H5 := hid (H1.out.on hb5)
                have M5 := hid (hmi.base H1.out.below (fun x e hx => HBK.out x ((hsrc hx).symm.trans e)))
                have HTo := hid (show TB B o from fun x e hx => HBB.out x ((hsrc hx).symm.trans e))
                have HA := hid hmi.ad
                have HIf := hid hiff
                have HIm := hid himp
                have RB := hid (layOo_new w5 57 o)
                have BB := hid (layOo_below w5 57 o)
                clear hmi hsrc hb5 hiff himp H1 LS
                go_upto_region 15 with (first | (refine stOo o38 _ _ rfl rfl w5.heap.size o HA.out rfl rfl 57 Ov.zero HZ0.out (Row.new w5 57 _) ?_))
                have H6 := hid (H5.out.on BB.out)
                have M6 := hid (M5.out.below BB.out)
                clear H5 M5 BB
                generalize (w5.alloc (.cells Ov.zero.cs 57)).setRow w5.heap.size o.cs = w6 at *
                generalize w5.heap.size = g at *
                cases ok
                · have hf : filE k F 0 ≠ 0 := fun e => by have := HIf.out.2 e; cases this
                  have HE := hid (H6.out.bad HLl.out hm1 (x := 3) (by decide) (by rw [HF.out.1, fil_03 k F hf]; rfl))
                  clear hf
                  go_wp2_with fail
                  go_ret2
                  exact RdcOkB.bad (by decide) HE.out H6.out.below
                · have HE0 : Hid (filE k F 0 = 0) := HIf.out.1 rfl
                  have HOP : Hid (o.p = filP k F 0) := HIm.out rfl
                  have HNE : Hid (nxE n (l.drop at_) = chkP o.p) := by rw [Hid, HF.out.1, HE0.out, spE_0, HOP.out]
                  have OK6 := hid (M6.out.ok H6.out.below)
                  have WF : Hid (∀ x ∈ o.n.l, (Lit.int .i64 x).wf = true) := by
                    have := fil_wf hk10 F HFo.out (by rw [HFl.out]; omega)
                    rw [← HOP.out] at this; exact this
                  go_wp2_with ((with_reducible refine wpl_id ?_); refine ldOo o38 _ rfl rfl g 0 rfl o HA.out RB.out.part ?_)
                  refine (optRefCheck_any o _ OK6.out WF.out).mono ?_
                  rintro e w7 ⟨rfl, hb7⟩
                  have H7 := hid (H6.out.on hb7)
                  have M7 := hid (M6.out.below hb7)
                  have R7 := hid (RB.out.below hb7)
                  clear hb7 H6 M6 RB OK6
                  by_cases hc : chkP o.p = 0
                  · have HC := hid hc
                    rw [hc]
                    clear hc
                    have BA := hid (balloc (Below.refl w7.heap.size w7) (.cells o.cs 57))
                    have H8 := hid (H7.out.on BA.out)
                    have M8 := hid (M7.out.below BA.out)
                    have RX := hid (Row.new w7 57 o.cs)
                    go_wp2_with (first | ((with_reducible refine wpl_id ?_); refine ldOo o38 _ rfl rfl g 0 rfl o HA.out R7.out.part ?_) | (refine bsO s22 rfl _ rfl o HA.out rfl ?_) | (at_builtin; refine wpList_pushO s22 rfl _ _ rfl w.heap.size _ w7.heap.size _ _ rfl H8.out.own o HA.out rfl RX.out ?c1 ?c2 ?_))
                    case c1 => exact H8.out.below.size
                    case c2 => omega
                    intro v3 w9 hown3 hg3
                    obtain ⟨va3, vc3, rfl⟩ := owns_len hown3
                    have HOW := hid hown3
                    have HG := hid hg3
                    clear hown3 hg3
                    go_wp2_with ((with_reducible refine wpl_id ?_); refine wp_cutL rfl _ _ rfl (some ⟨b, off, none⟩) m cap2 (2 + Y) (2 + (Y : Int)) rfl rfl Q0.out Q3.out ?_)
                    intro a4 h1 h2
                    have H9 := hid (H8.out.push HLl.out hm1 (by rw [HNE.out, HC.out]) o (by rw [HOP.out, HF.out.2.1]) M8.out (2 + Y) HF.out.2.2 Q3.out HOW.out HG.out (fun hc => by rw [h1 hc]; simp [Addr.add]) h2)
                    have HA4 : Hid (∀ x, a4 = some x → 0 < m - (2 + Y) → x.block < B) := fun x e _ => by
                      by_cases hc : cap2 = (2 + Y)
                      · rw [h2 hc] at e; cases e; exact HbB.out
                      · rw [h1 hc] at e; simp at e; rw [← e]; exact HbB.out
                    clear h1 h2
                    go_wp2_with fail
                    go_roundw
                    case rel => exact ⟨at_ + (2 + Y), m - (2 + Y), a4, cap2 - (2 + Y), n + 1, _, va3, vc3, rfl, rfl, by have := HN.out; omega, by omega, H9.out, HA4, hid (TB.snoc HTB.out HTo.out)⟩
                    case measure => simp [lenV]; have := Q3.out; omega
                  · have hc' : (chkP o.p != 0) = true := by simpa using hc
                    have HE := hid (H7.out.bad HLl.out hm1 (x := chkP o.p) hc HNE.out)
                    have HC := hid hc
                    generalize chkP o.p = ce at *
                    clear hc
                    go_wp2_with fail
                    go_ret2
                    exact RdcOkB.bad HC.out HE.out H7.out.below
end Go.Proofs.YtbfjkhafdkhhmaaDoor

namespace Go.Proofs.YtbfjkhafdkhhmaaDoor
open Go.ChangeShapes Go.WideShapes Go.ChangeAt Go.RowKit Go.Deep
set_option linter.unusedVariables false
set_option linter.unusedSimpArgs false

/-- One of many options, in a slice of its own. -/
theorem Opts.one {w : World} {b off : Nat} {n cap : Nat} {L : List Ov} (h : Opts w (some ⟨b, off, Option.none⟩) n cap L) (k : Nat) (hk : k < n) : Opts w (some ⟨b, off + k * 19, Option.none⟩) 1 (cap - k) [L.getD k Ov.zero] := by
  have h1 := h.le
  have h2 := h.max
  refine ⟨rfl, by omega, by omega, (fun h => by cases h), fun j hj => ?_, fun o ho => ?_⟩
  · obtain rfl : j = 0 := by omega
    obtain ⟨b', off', he, hp⟩ := h.cell k hk
    obtain ⟨rfl, rfl⟩ : b = b' ∧ off = off' := by have := Option.some.inj he; simpa using this
    exact ⟨b, off + k * 19, rfl, by simpa using hp⟩
  · rw [List.mem_singleton.1 ho]; exact h.at k hk
/-- The targets of options. -/
def tgts (P : List Po) : List Po := P.filter (fun p => hitB [5] p.k)
theorem tgts_yes (P : List Po) (j : Nat) (hj : j < P.length) (h : hitB [5] (P.getD j Po.none).k = true) : tgts (P.take (j + 1)) = tgts (P.take j) ++ [P.getD j Po.none] := by
  unfold tgts
  rw [List.take_succ_eq_append_getElem hj, List.filter_append]
  simp [hj] at h ⊢
  simp [h]
theorem tgts_no (P : List Po) (j : Nat) (hj : j < P.length) (h : hitB [5] (P.getD j Po.none).k = false) : tgts (P.take (j + 1)) = tgts (P.take j) := by
  unfold tgts
  rw [List.take_succ_eq_append_getElem hj, List.filter_append]
  simp [hj] at h ⊢
  simp [h]
/-- What Targets tells. -/
def TgOk (w : World) (L : List Ov) (e : Ending) (w' : World) : Prop :=
  ∃ a' m cap' L', e = .returned (.slice a' m cap') ∧ Hid (Opts w' a' m cap' L') ∧ Hid (pos L' = tgts (pos L)) ∧ m ≤ L.length ∧ Below w.heap.size w w'
set_option maxRecDepth 100000 in
set_option maxHeartbeats 1600000 in
theorem targets_any (m : Mv) (w : World) (hm : m.ok w) (hs : Sml m.L) (hn : m.on ≤ 1000) : Calls Tryd.prog 19 #[.agg m.cs] w (TgOk w m.L) := by
  have hz := zov
  have HS := hid hs
  have R1 := hid (Row.new w 29 m.cs)
  have B1 := hid (balloc (Below.refl w.heap.size w) (.cells m.cs 29))
  have HL := hid (hm.o.below B1.out)
  have ll := hid hm.o.len
  have HA := hid hm.ro
  have hcle := hm.o.le
  have hcm := hm.o.max
  unfold maxLen at hcm
  clear hm hs
  go_enter Tryd.func19, Tryd.ntmps19
  go_upto_region 1 with fail
  generalize hw1 : w.alloc (.cells m.cs 29) = w1 at *
  generalize hg1 : w.heap.size = g1 at *
  clear hw1
  have c27 := (R1.out.cell 27).trans (Mv.at27 HA.out)
  obtain ⟨ma, mn, mc, mL, e1, e2, e3, e4⟩ : ∃ ma mn mc mL, m.oa = ma ∧ m.on = mn ∧ m.oc = mc ∧ m.L = mL := ⟨_, _, _, _, rfl, rfl, rfl, rfl⟩
  rw [e1, e2, e3] at c27 HL
  rw [e4] at HL HS ll
  rw [e2] at hn ll hcle
  rw [e3] at hcle hcm
  have E1 := hid e1
  have E2 := hid e2
  have E3 := hid e3
  have E4 := hid e4
  clear e1 e2 e3 e4
  go_wp2_with fail
  go_loopw [3, 10] (fun v i wr => ∃ (j : Nat) (L' : List Ov), j ≤ mn ∧ i = .int .i64 j ∧ Hid (pos L' = tgts ((pos mL).take j)) ∧ Hid (L'.length ≤ j) ∧ Hid (wr.ownsRow w1.heap.size 54 19 v L'.length (ocs L')) ∧ Hid (∀ o ∈ L', Own2 w1.heap.size wr o) ∧ Hid (Below w1.heap.size w1 wr)) (fun _ i _ => mn - (intOf i).toNat)
  case atStart => exact ⟨0, [], Nat.zero_le _, rfl, rfl, Nat.zero_le _, World.ownsRow_nil _ _ _ _, (fun o ho => by cases ho), Below.refl _ _⟩
  case round =>
    obtain ⟨j, L', hj, rfl, HP, HLe, HO, HM, hb⟩ := hrel
    clear c27
    by_cases hlt : j < mn
    · have hlt' : (j : Int) < (mn : Int) := by omega
      have hj1 : (j : Int) + 1 ≤ (mc : Int) := by omega
      obtain ⟨b, off, rfl, hp⟩ := (HL.out.below hb.out).cell j hlt
      have hone := (HL.out.below hb.out).one j hlt
      have hjl : j < mL.length := by rw [ll.out]; exact hlt
      have hmem : mL.getD j Ov.zero ∈ mL := by simp [hjl]
      have hsm := HS.out _ hmem
      have HY := hid (tgts_yes (pos mL) j (by rw [pos_len]; exact hjl))
      have HN := hid (tgts_no (pos mL) j (by rw [pos_len]; exact hjl))
      rw [pos_at mL j hjl] at HY HN
      generalize mL.getD j Ov.zero = o at *
      have O1 := hid hone
      have RB := hid (R1.out.below hb.out)
      have c27 := (RB.out.cell 27).trans (Mv.at27 HA.out)
      rw [E1.out, E2.out, E3.out] at c27
      clear hp hone hmem hjl
      have BA := hid (balloc (Below.refl wr.heap.size wr) (.cells #[.int .i64 5] 3))
      have LK := hid (lies_new .i64 wr #[.int .i64 5] 3 [5] rfl (by simp))
      have O2 := hid (O1.out.below BA.out)
      go_wp2_with fail
      have B3 := hid (bthen hb.out BA.out)
      have W3 := hid (own_below HO.out BA.out)
      have M3 := hid (fun o ho => (HM.out o ho).below BA.out)
      generalize wr.alloc (.cells #[.int .i64 5] 3) = w3 at *
      generalize wr.heap.size = g3 at *
      clear BA O1 c27 HO HM hb RB
      refine (optFind2_any (some ⟨b, off + j * 19, none⟩) 1 (mc - j) [o] (some ⟨g3, 0, none⟩) 1 1 [5] _ O2.out LK.out (fun x hx => by rw [List.mem_singleton.1 hx]; exact hsm)).mono ?_
      rintro e w4 ⟨hf, hb4⟩
      have W4 := hid (own_below W3.out hb4)
      have M4 := hid (fun o ho => (M3.out o ho).below hb4)
      have B4 := hid (bthen B3.out hb4)
      have hs3 := B3.out.size
      clear hb4 W3 M3 O2 LK
      have hLe := HLe.out
      rcases hf with ⟨rfl, hno⟩ | ⟨i, o', hi, rfl, hyes, _, hpp, _, hown⟩
      · have hh : hitB [5] o.k = false := hno o (by simp)
        have RZ := hid (layOo_new w4 54 Ov.zero)
        have BZ := hid (layOo_below w4 54 Ov.zero)
        have HHN := hid (HN.out hh)
        clear hno hh
        go_upto_region 6 with (first | (refine stOo o43 _ _ rfl rfl w4.heap.size Ov.zero adr_zeros rfl rfl 54 Ov.zero adr_zeros (Row.new w4 54 _) ?_))
        have W5 := hid (own_below W4.out BZ.out)
        have M5 := hid (fun o ho => (M4.out o ho).below BZ.out)
        have B5 := hid (bthen B4.out BZ.out)
        generalize (w4.alloc (.cells Ov.zero.cs 54)).setRow w4.heap.size Ov.zero.cs = w5 at *
        go_wp2_with fail
        go_roundw
        case rel => exact ⟨j + 1, L', by omega, by go_num, by rw [Hid, HHN.out]; exact HP.out, Nat.le_succ_of_le HLe.out, W5.out, M5.out, B5.out⟩
        case measure => simp [intOf]; omega
      · obtain rfl : i = 0 := by simpa using hi
        have hh : hitB [5] o.k = true := hyes
        have HPP : Hid (o'.p = o.p) := hpp
        have HW := hid (hown.mono hs3)
        have HHY := hid (HY.out hh)
        clear hyes hpp hown hh hi
        have RZ := hid (layOo_new w4 54 o')
        have BZ := hid (layOo_below w4 54 o')
        go_upto_region 6 with (first | (refine stOo o43 _ _ rfl rfl w4.heap.size o' HW.out.ad rfl rfl 54 Ov.zero adr_zeros (Row.new w4 54 _) ?_))
        have W5 := hid (own_below W4.out BZ.out)
        have M5 := hid (fun o ho => (M4.out o ho).below BZ.out)
        have HW5 := hid (HW.out.below BZ.out)
        have B5 := hid (bthen B4.out BZ.out)
        generalize (w4.alloc (.cells Ov.zero.cs 54)).setRow w4.heap.size o'.cs = w5 at *
        generalize w4.heap.size = g4 at *
        clear W4 M4 HW B4 BZ
        have BA := hid (balloc (Below.refl w5.heap.size w5) (.cells o'.cs 54))
        have W6 := hid (W5.out.alloc (.cells o'.cs 54))
        have M6 := hid (fun o ho => (M5.out o ho).below BA.out)
        have HW6 := hid (HW5.out.below BA.out)
        have B6 := hid (bthen B5.out BA.out)
        have RX := hid (Row.new w5 54 o'.cs)
        go_wp2_with (first | (with_reducible refine wpl_id ?_; refine ldOo o43 _ rfl rfl _ _ rfl o' HW5.out.ad RZ.out.part ?_) | (refine bsO s23 rfl _ rfl o' HW5.out.ad rfl ?_) | (at_builtin; refine wpList_pushO s23 rfl _ _ rfl w1.heap.size _ w5.heap.size _ _ rfl W6.out o' HW5.out.ad rfl RX.out ?c1 ?c2 ?_))
        case c1 => exact B6.out.size
        case c2 => omega
        intro v7 w7 hown7 hg7
        have M7 := hid (fun o ho => (M6.out o ho).kept W6.out (by decide) (by decide) hg7)
        have HW7 := hid (HW6.out.kept W6.out (by decide) (by decide) hg7)
        have B7 := hid (Below.grown B6.out hg7 B6.out.size (fun j hj => (W6.out.lt j hj).1))
        have O7 := hid hown7
        clear hown7 hg7
        go_wp2_with fail
        go_roundw
        case rel =>
          refine ⟨j + 1, L' ++ [o'], by omega, by go_num, ?_, ?_, ?_, ?_, B7.out⟩
          · rw [Hid, HHY.out, ← HP.out]; simp [pos, HPP.out]
          · rw [Hid, List.length_append]; simp; exact HLe.out
          · rw [Hid, List.length_append, ocs_snoc2]; exact O7.out
          · intro x hx
            rcases List.mem_append.1 hx with h | h
            · exact M7.out x h
            · rw [List.mem_singleton.1 h]; exact HW7.out
        case measure => simp [intOf]; omega
    · obtain rfl : j = mn := by omega
      obtain ⟨va, vc, hv, hop⟩ := owns_opts HO.out (fun o ho => (HM.out o ho).ok)
      subst hv
      have HOP := hid hop
      rw [List.take_of_length_le (by rw [pos_len, ll.out]; exact Nat.le_refl _)] at HP
      clear hop
      go_wp2_with fail
      go_ret
      unfold TgOk
      refine ⟨va, L'.length, vc, L', rfl, HOP, by rw [E4.out]; exact HP, by rw [E4.out, ll.out]; exact HLe.out, ?_⟩
      rw [hg1]
      exact B1.out.trans (hb.out.mono (by rw [← hg1]; exact B1.out.size))
end Go.Proofs.YtbfjkhafdkhhmaaDoor

namespace Go.Proofs.YtbfjkhafdkhhmaaDoor
open Go.ChangeShapes Go.WideShapes Go.ChangeAt Go.RowKit Go.Deep
set_option linter.unusedVariables false
set_option linter.unusedSimpArgs false

def maysL : List ByteArray := [⟨#[48, 49, 55]⟩, ⟨#[48, 49, 50, 51, 52, 56]⟩, ⟨#[48, 49, 53, 54, 57]⟩, ⟨#[48, 49]⟩]
/-- A code's kinds as letters. -/
def mays (k : Nat) : ByteArray := maysL.getD k ⟨#[]⟩
theorem mays_at (k : Nat) (hk : k < 4) : (#[Value.string ⟨#[48, 49, 55]⟩, .string ⟨#[48, 49, 50, 51, 52, 56]⟩, .string ⟨#[48, 49, 53, 54, 57]⟩, .string ⟨#[48, 49]⟩] : Array Value)[k]? = some (.string (mays k)) :=
  match k, hk with
  | 0, _ => rfl
  | 1, _ => rfl
  | 2, _ => rfl
  | 3, _ => rfl
theorem mays_len : ∀ k, k < 4 → (mays k).size = (cki k).length ∧ (cki k).length ≤ 6 := by decide
theorem mays_ch' : ∀ k, k < 4 → ∀ i, i < (cki k).length → ((((mays k).data[i]?.getD 0).toNat : Nat) : Int) = (cki k).getD i 0 + 48 := by decide
theorem mays_ch (k : Nat) (hk : k < 4) (i : Nat) (h : i < (mays k).size) : ((((mays k)[i]'h).toNat : Nat) : Int) = (cki k).getD i 0 + 48 := by
  have h' : i < (mays k).data.size := h
  have e : (mays k)[i]'h = (mays k).data[i]'h' := rfl
  rw [e, ← mays_ch' k hk i (by rw [← (mays_len k hk).1]; exact h), Array.getElem?_eq_getElem h']; rfl
theorem cki_bd : ∀ k, k < 4 → ∀ x ∈ cki k, 0 ≤ x ∧ x ≤ 9 := by decide
theorem may_out {c k : Int} (h : codB c = false ∨ k < 0 ∨ 9 < k) : mayB c k = false := by
  rcases h with h | h
  · simp [mayB, h]
  · cases hc : codB c
    · simp [mayB, hc]
    · obtain ⟨j, rfl, hj⟩ := cod_nat hc
      simp only [mayB, hc, Bool.true_and, Int.toNat_natCast, decide_eq_false_iff_not]
      intro hm
      have := cki_bd j hj k hm
      omega
set_option maxHeartbeats 1600000 in
theorem refMay_any (c k : Int) (w : World) : Calls Tryd.prog 23 #[.int .i64 c, .int .i64 k] w fun e w' => e = .returned (.bool (mayB c k)) ∧ Below w.heap.size w w' := by
  have B0 := hid (balloc (Below.refl w.heap.size w) (.cells #[Value.string ⟨#[48, 49, 55]⟩, .string ⟨#[48, 49, 50, 51, 52, 56]⟩, .string ⟨#[48, 49, 53, 54, 57]⟩, .string ⟨#[48, 49]⟩] 49))
  have R0 := hid (Row.new w 49 #[Value.string ⟨#[48, 49, 55]⟩, .string ⟨#[48, 49, 50, 51, 52, 56]⟩, .string ⟨#[48, 49, 53, 54, 57]⟩, .string ⟨#[48, 49]⟩])
  by_cases h1 : c < 0
  · have e1 : decide (c < 0) = true := decide_eq_true h1
    have HV := hid (may_out (c := c) (k := k) (.inl (by simp [codB]; omega)))
    go_enter Tryd.func23, Tryd.ntmps23
    go_upto_region 2 with fail
    generalize w.alloc (.cells #[Value.string ⟨#[48, 49, 55]⟩, .string ⟨#[48, 49, 50, 51, 52, 56]⟩, .string ⟨#[48, 49, 53, 54, 57]⟩, .string ⟨#[48, 49]⟩] 49) = w1 at *
    go_wp2_with fail
    go_ret
    exact ⟨ret_bool HV.out.symm, B0.out⟩
  · have e1 : decide (c < 0) = false := decide_eq_false h1
    by_cases h2 : 3 < c
    · have e2 : decide (3 < c) = true := decide_eq_true h2
      have HV := hid (may_out (c := c) (k := k) (.inl (by simp [codB]; omega)))
      go_enter Tryd.func23, Tryd.ntmps23
      go_upto_region 2 with fail
      generalize w.alloc (.cells #[Value.string ⟨#[48, 49, 55]⟩, .string ⟨#[48, 49, 50, 51, 52, 56]⟩, .string ⟨#[48, 49, 53, 54, 57]⟩, .string ⟨#[48, 49]⟩] 49) = w1 at *
      go_wp2_with fail
      go_ret
      exact ⟨ret_bool HV.out.symm, B0.out⟩
    · have e2 : decide (3 < c) = false := decide_eq_false h2
      by_cases h3 : k < 0
      · have e3 : decide (k < 0) = true := decide_eq_true h3
        have HV := hid (may_out (c := c) (k := k) (.inr (.inl h3)))
        go_enter Tryd.func23, Tryd.ntmps23
        go_upto_region 2 with fail
        generalize w.alloc (.cells #[Value.string ⟨#[48, 49, 55]⟩, .string ⟨#[48, 49, 50, 51, 52, 56]⟩, .string ⟨#[48, 49, 53, 54, 57]⟩, .string ⟨#[48, 49]⟩] 49) = w1 at *
        go_wp2_with fail
        go_ret
        exact ⟨ret_bool HV.out.symm, B0.out⟩
      · have e3 : decide (k < 0) = false := decide_eq_false h3
        by_cases h4 : 9 < k
        · have e4 : decide (9 < k) = true := decide_eq_true h4
          have HV := hid (may_out (c := c) (k := k) (.inr (.inr h4)))
          go_enter Tryd.func23, Tryd.ntmps23
          go_upto_region 2 with fail
          generalize w.alloc (.cells #[Value.string ⟨#[48, 49, 55]⟩, .string ⟨#[48, 49, 50, 51, 52, 56]⟩, .string ⟨#[48, 49, 53, 54, 57]⟩, .string ⟨#[48, 49]⟩] 49) = w1 at *
          go_wp2_with fail
          go_ret
          exact ⟨ret_bool HV.out.symm, B0.out⟩
        · have e4 : decide (9 < k) = false := decide_eq_false h4
          obtain ⟨j, rfl⟩ : ∃ j : Nat, c = j := ⟨c.toNat, by omega⟩
          have hj : j < 4 := by omega
          have hj' : (j : Int) < 4 := by omega
          have e5 : decide (3 < j) = false := decide_eq_false (by omega)
          have HV : Hid (mayB j k = decide (k ∈ cki j)) := by rw [Hid, mayB, codB_nat hj]; simp
          have hsz := (mays_len j hj).1
          have hs6 := (mays_len j hj).2
          have HCh := hid (fun i h => mays_ch j hj i h)
          go_enter Tryd.func23, Tryd.ntmps23
          go_upto_region 2 with fail
          generalize w.alloc (.cells #[Value.string ⟨#[48, 49, 55]⟩, .string ⟨#[48, 49, 50, 51, 52, 56]⟩, .string ⟨#[48, 49, 53, 54, 57]⟩, .string ⟨#[48, 49]⟩] 49) = w1 at *
          have ck := (R0.out.cell j).trans (mays_at j hj)
          have HBD := hid (cki_bd j hj)
          generalize cki j = l at *
          have HSZ := hid hsz
          clear hsz
          have hsz2 : (mays j).size ≤ 6 := by rw [HSZ.out]; exact hs6
          go_wp2_with fail
          go_loop [6] (fun iv => ∃ i : Nat, i ≤ (mays j).size ∧ iv = .int .i64 i ∧ Hid (¬ k ∈ l.take i)) (fun i => (mays j).size - (intOf i).toNat)
          case atStart => exact ⟨0, Nat.zero_le _, rfl, by rw [Hid]; simp⟩
          case round =>
            obtain ⟨i, hi, rfl, hno⟩ := hrel
            by_cases hlt : i < (mays j).size
            · have hlt' : (i : Int) < ((mays j).size : Int) := by omega
              have hc := HCh.out i hlt
              have hil : i < l.length := by rw [← HSZ.out]; exact hlt
              have HM : Hid (l.getD i 0 ∈ l) := by rw [Hid]; simp [hil]
              have HN : Hid (¬ k = l.getD i 0 → ¬ k ∈ l.take (i + 1)) := not_mem_take hil hno.out
              have hb9 : 0 ≤ l.getD i 0 ∧ l.getD i 0 ≤ 9 := HBD.out _ HM.out
              generalize l.getD i 0 = z at *
              by_cases hz : z = k
              · have he : (z == k) = true := by simp [hz]
                have hb0 := hb9.1
                have HZ := hid hz
                clear hz
                go_wp2_with fail
                go_ret
                exact ⟨ret_bool (by rw [HV.out]; have := HM.out; rw [HZ.out] at this; simp [this]), B0.out⟩
              · have he : (z == k) = false := by simp [hz]
                have hb0 := hb9.1
                have HZ := hid (HN.out (fun e => hz e.symm))
                clear hz
                go_wp2_with fail
                go_round
                case rel => exact ⟨i + 1, by omega, by go_num, HZ⟩
                case measure => simp [intOf]; omega
            · obtain rfl : i = (mays j).size := by omega
              rw [HSZ.out, List.take_of_length_le (Nat.le_refl _)] at hno
              go_wp2_with fail
              go_ret
              exact ⟨ret_bool (by rw [HV.out]; simp [hno.out]), B0.out⟩
/-- The chapter's example. -/
def mex : Mv := ⟨2, 1, 0, 0, 0, 0, 0, 9, 0, false, true, zeros, none, 0, 0, []⟩
theorem mex_ok (w : World) : mex.ok w := ⟨adr_zeros, Opts.none w⟩
theorem built_mex : Tryd.prog.built 29 [(0, .int .i64 2), (1, .int .i64 1), (10, .bool true), (7, .int .i64 9)] = some mex.cs := by kernel_rfl
theorem bdMx {ops : Array Oper} {rest : List Oper} {o : Oper} {a : Act} {w : World} {Q : Exit → Act → World → Prop} (x0 x1 x2 x3 : Operand) (ho : o.op = .build 29 #[(0, x0), (1, x1), (10, x2), (7, x3)]) (hg : o.guard = none)
    (h0 : a.eval x0 = .int .i64 2) (h1 : a.eval x1 = .int .i64 1) (h2 : a.eval x2 = .bool true) (h3 : a.eval x3 = .int .i64 9)
    (hn : wpList Tryd.prog ops Q rest (a.put o.dst (.agg mex.cs)) w) : wpList Tryd.prog ops Q (o :: rest) a w :=
  wp_bd 29 _ ho hg mex.cs (by simp only [List.map_toArray, List.map_cons, List.map_nil, h0, h1, h2, h3]; exact built_mex) hn
theorem mex_enc : (eE mex.p, eL mex.p) = (0, [1, 128, 0, 9]) := by kernel_rfl
theorem mex_word : cwOf 3 = ⟨#[97, 99, 107]⟩ := by kernel_rfl
set_option maxHeartbeats 800000 in
theorem cLawKnown_any {B : Nat} (w : World) (hV : CV B w) : Calls Tryd.prog 13 #[] w fun e w' => e = .returned (.bool true) ∧ Below w.heap.size w w' := by
  have HV := hid hV
  clear hV
  go_enter Tryd.func13, Tryd.ntmps13
  go_wp2_with (refine bdMx _ _ _ _ rfl rfl rfl rfl rfl rfl ?_)
  refine (cEncode_any mex w (mex_ok w) HV.out (by decide)).mono ?_
  rintro x w1 ⟨⟨v, rfl, hown⟩, hb⟩
  have h1 : eE mex.p = 0 := congrArg Prod.fst mex_enc
  have h2 : eL mex.p = [1, 128, 0, 9] := congrArg Prod.snd mex_enc
  rw [h2] at hown
  rw [h1]
  obtain ⟨va, vc, rfl, hl, _⟩ := owns_lies hown.out
  have L1 : Hid (Lies .u8 w1 va 4 vc [1, 128, 0, 9]) := hid hl
  have B1 := hid hb
  have V1 := hid (HV.out.below hb)
  clear hown hb hl h1 h2 HV
  have L2 := hid (lies_lit .u8 w1 #[.int .u8 1, .int .u8 128, .int .u8 0, .int .u8 9] 5 [1, 128, 0, 9] 4 rfl rfl (by decide))
  have B2 := hid (balloc (Below.refl w1.heap.size w1) (.cells #[.int .u8 1, .int .u8 128, .int .u8 0, .int .u8 9] 5))
  go_wp2_with fail
  refine (same_any va _ 4 vc 4 4 [1, 128, 0, 9] [1, 128, 0, 9] _ (L1.out.below B2.out) L2.out).mono ?_
  rintro x w2 ⟨rfl, q, rfl⟩
  rw [show (([1, 128, 0, 9] : List Int) == [1, 128, 0, 9]) = true from rfl]
  have B3 := hid (bdrew (bthen B1.out B2.out) q)
  have V3 := hid ((V1.out.below B2.out).drewN q)
  generalize (w1.alloc (.cells #[.int .u8 1, .int .u8 128, .int .u8 0, .int .u8 9] 5)).drewN q = w3 at *
  go_wp2_with fail
  refine (cword_any 3 _ V3.out).mono ?_
  rintro x w4 ⟨rfl, rfl⟩
  rw [mex_word]
  go_wp2_with fail
  go_ret
  exact ⟨rfl, B3.out⟩
end Go.Proofs.YtbfjkhafdkhhmaaDoor
