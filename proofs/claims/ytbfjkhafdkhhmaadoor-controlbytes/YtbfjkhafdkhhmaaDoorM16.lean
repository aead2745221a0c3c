/- Options of some kinds: Find, Without. · A message's targets. · The document's answer: May; and the chapter's example. · The document's answer: bit; has a message more than its code has? -/
import Derived.Test.YtbfjkhafdkhhmaaDoorM6
import Derived.Test.YtbfjkhafdkhhmaaDoorTw
import Derived.Test.YtbfjkhafdkhhmaaDoorM10
import Derived.Test.YtbfjkhafdkhhmaaDoorM13
namespace Go.Proofs.YtbfjkhafdkhhmaaDoor
open Go.ChangeShapes Go.WideShapes Go.ChangeAt Go.RowKit Go.Deep
set_option linter.unusedVariables false
set_option linter.unusedSimpArgs false

/-- An option more, in a region whose order is fixed. -/
theorem wpList_pushO {ops : Array Oper} {rest : List Oper} {o : Oper} {a : Act} {w : World} {Q : Exit → Act → World → Prop} {ts t : TypeId} (hT : ST ts t) (hg : o.guard = none) (s y : Operand)
    (ho : o.op = .call { callee := .builtin .append, args := #[s, y], argTypes := #[ts, ts] }) (base m g : Nat) (v : Value) (xs : List Value) (hs : a.eval s = v) (hown : w.ownsRow base t 19 v m xs)
    (x : Ov) (hl : Adr x.ad) (hx : a.eval y = .slice (some ⟨g, 0, none⟩) 1 1) (hr : Row w g t x.cs) (hb : base ≤ w.heap.size) (hm : m ≤ 200000)
    (h : ∀ v' w', w'.ownsRow base t 19 v' (m + 1) (xs ++ x.cs.toList) → w.grownBy w' v.ownBlock → wpList Tryd.prog ops Q rest (a.put o.dst v') w') : wpList Tryd.prog ops Q (o :: rest) a w := by
  obtain ⟨ie, hi, hz, hz1, hz2⟩ := info_parts hT.ot.zero
  refine wpList_append_own w hg s y ts ho base t ie _ 19 72 hT.und hi hz hz1 hz2 cells_zero (by decide) v m xs hs hown ⟨g, 0, none⟩ 1 1 x.cs.toList hx (by rw [Array.length_toList, Ov.size hl]) (news_row hr) (one_list x) (by unfold maxLen; omega) (by omega) hb ?_
  intro v' w' h2 h3 _
  exact h v' w' h2 h3
/-- What Find tells. -/
def FindOk (w : World) (ks : List Int) (L : List Ov) (e : Ending) (w' : World) : Prop :=
  ((e = .returned (.tuple #[.agg Ov.zero.cs, .bool false]) ∧ ∀ o ∈ L, hitB ks o.k = false) ∨
    ∃ (i : Nat) (o' : Ov), i < L.length ∧ e = .returned (.tuple #[.agg o'.cs, .bool true]) ∧ hitB ks (L.getD i Ov.zero).k = true ∧ (∀ j, j < i → hitB ks (L.getD j Ov.zero).k = false) ∧ o'.p = (L.getD i Ov.zero).p ∧ o'.ok w') ∧ Below w.heap.size w w'
/-- What Find tells, with lists of its own. -/
def FindOk2 (w : World) (ks : List Int) (L : List Ov) (e : Ending) (w' : World) : Prop :=
  ((e = .returned (.tuple #[.agg Ov.zero.cs, .bool false]) ∧ ∀ o ∈ L, hitB ks o.k = false) ∨
    ∃ (i : Nat) (o' : Ov), i < L.length ∧ e = .returned (.tuple #[.agg o'.cs, .bool true]) ∧ hitB ks (L.getD i Ov.zero).k = true ∧ (∀ j, j < i → hitB ks (L.getD j Ov.zero).k = false) ∧ o'.p = (L.getD i Ov.zero).p ∧ o'.ok w' ∧ Own2 w.heap.size w' o') ∧ Below w.heap.size w w'
set_option maxRecDepth 100000 in
set_option maxHeartbeats 1600000 in
theorem optFind2_any (a : Option Addr) (n cap : Nat) (L : List Ov) (ka : Option Addr) (kn kc : Nat) (ks : List Int) (w : World) (hL : Opts w a n cap L) (hk : Lies .i64 w ka kn kc ks) (hsm : ∀ o ∈ L, o.n.n ≤ 100000 ∧ o.t.n ≤ 100000) :
    Calls Tryd.prog 44 #[.slice a n cap, .slice ka kn kc] w (FindOk2 w ks L) := by
  have hz := zov
  have Z0 := hid (Row.new w 54 Ov.zero.cs)
  have B0 := hid (balloc (Below.refl w.heap.size w) (.cells Ov.zero.cs 54))
  have L0 := hid (hL.below B0.out)
  have K0 := hid (hk.below B0.out)
  have HS := hid hsm
  have ll := hid hL.len
  have k1 := Nat.le_trans hL.le hL.max
  unfold maxLen at k1
  clear hL hk hsm
  go_enter Tryd.func44, Tryd.ntmps44
  go_upto_region 1 with fail
  generalize hw1 : w.alloc (.cells Ov.zero.cs 54) = w1 at *
  generalize hg0 : w.heap.size = g0 at *
  clear hw1 hz
  go_wp2_with fail
  have C1 := hid (Row.new w1 52 #[.slice ka kn kc])
  have B1 := hid (balloc (Below.refl w1.heap.size w1) (.cells #[.slice ka kn kc] 52))
  refine (oneOf_any ka kn kc _).mono ?_
  rintro e w2 ⟨rfl, rfl⟩
  generalize hw2 : w1.alloc (.cells #[.slice ka kn kc] 52) = w2 at *
  have L2 := hid (L0.out.below B1.out)
  have K2 := hid (K0.out.below B1.out)
  have Z2 := hid (Z0.out.below B1.out)
  have BB := hid (B0.out.trans (B1.out.mono (B := w1.heap.size) (B' := g0) (by rw [← hg0]; exact B0.out.size)))
  have D2 := hid ((C1.out.cell 0).trans rfl)
  generalize hgk : w1.heap.size = gk at *
  clear hw2 L0 K0 Z0 C1
  go_wp2_with fail
  refine (indexFunc_any a n cap L gk ka kn kc ks _ L2.out D2.out K2.out).mono ?_
  rintro e w3 ⟨⟨r, rfl, hf⟩, hb3⟩
  have L3 := hid (L2.out.below hb3)
  have Z3 := hid (Z2.out.below hb3)
  have B3 := hid (BB.out.trans (hb3.mono (by have := BB.out.size; omega)))
  clear hb3 L2 Z2 K2 D2
  rcases hf with ⟨rfl, hno⟩ | ⟨i, hi, rfl, hyes, hno⟩
  · have HN := hid hno
    clear hno
    have Z4 := hid (Z3.out.setRow Ov.zero.cs)
    have B4 := hid (below_setRow' B3.out (g := g0) (Nat.le_refl _) Ov.zero.cs)
    go_wp2_with (first | (refine bdOzo o43 rfl rfl ?_) | (refine stOo o43 _ _ rfl rfl g0 Ov.zero adr_zeros rfl rfl 54 Ov.zero adr_zeros Z3.out ?_))
    refine bodyPost_ret (resOoe o43 rfl _ _ g0 54 Ov.zero adr_zeros _ rfl rfl Z4.out) rfl ?_
    unfold FindOk2
    exact ⟨.inl ⟨rfl, HN.out⟩, by rw [hg0]; exact B4.out⟩
  · have HY := hid hyes
    have HN := hid hno
    have hin : i < n := by rw [← ll.out]; exact hi
    have hin' : (i : Int) < (n : Int) := by omega
    have HI := hid hi
    obtain ⟨b, off, rfl, hp⟩ := L3.out.cell i hin
    have hok := L3.out.at i hin
    have hmem : L.getD i Ov.zero ∈ L := by simp [show i < L.length from hi]
    have hs := HS.out _ hmem
    generalize hoo : L.getD i Ov.zero = o at *
    have HOO := hid hoo
    have PP := hid hp
    have OK := hid hok
    have HA := hid hok.ad
    clear hp hok hmem hoo hyes hno hi
    have hneg : decide ((i : Int) < 0) = false := decide_eq_false (by omega)
    go_wp2_with (refine ldOo o43 _ rfl rfl _ _ rfl o HA.out PP.out ?_)
    refine (copied_any o _ OK.out hs.1 hs.2).mono ?_
    rintro e w4 ⟨⟨o', rfl, hpp, hown⟩, hb4⟩
    have HP := hid hpp.out
    have HW := hid hown.out
    have Z4 := hid (Z3.out.below hb4)
    have B4 := hid (B3.out.trans (hb4.mono (by have := B3.out.size; omega)))
    clear hpp hown hb4
    have Z5 := hid (Z4.out.setRow o'.cs)
    have B5 := hid (below_setRow' B4.out (g := g0) (Nat.le_refl _) o'.cs)
    have HW5 : Hid (Own2 w3.heap.size (w4.setRow g0 o'.cs) o') := ⟨own_setRowT HW.out.n Z4.out (by decide), HW.out.nn, HW.out.ad, own_setRowT HW.out.t Z4.out (by decide), HW.out.tn, HW.out.oct⟩
    go_wp2_with (refine stOo o43 _ _ rfl rfl g0 o' HW.out.ad rfl rfl 54 Ov.zero adr_zeros Z4.out ?_)
    refine bodyPost_ret (resOoe o43 rfl _ _ g0 54 o' HW.out.ad _ rfl rfl Z5.out) rfl ?_
    unfold FindOk2
    exact ⟨.inr ⟨i, o', HI.out, rfl, by rw [HOO.out]; exact HY.out, HN.out, by rw [HOO.out]; exact HP.out, HW5.out.ok, HW5.out.mono B3.out.size⟩, by rw [hg0]; exact B5.out⟩
theorem optFind_any (a : Option Addr) (n cap : Nat) (L : List Ov) (ka : Option Addr) (kn kc : Nat) (ks : List Int) (w : World) (hL : Opts w a n cap L) (hk : Lies .i64 w ka kn kc ks) (hsm : ∀ o ∈ L, o.n.n ≤ 100000 ∧ o.t.n ≤ 100000) :
    Calls Tryd.prog 44 #[.slice a n cap, .slice ka kn kc] w (FindOk w ks L) := by
  refine (optFind2_any a n cap L ka kn kc ks w hL hk hsm).mono ?_
  rintro e w' ⟨h | ⟨i, o', h1, h2, h3, h4, h5, h6, _⟩, hb⟩
  · exact ⟨.inl h, hb⟩
  · exact ⟨.inr ⟨i, o', h1, h2, h3, h4, h5, h6⟩, hb⟩
/-- What is left. -/
def lft (ks : List Int) (P : List Po) : List Po := P.filter (fun p => !hitB ks p.k)
theorem lft_yes (ks : List Int) (P : List Po) (j : Nat) (hj : j < P.length) (h : hitB ks (P.getD j Po.none).k = false) : lft ks (P.take (j + 1)) = lft ks (P.take j) ++ [P.getD j Po.none] := by
  unfold lft
  rw [List.take_succ_eq_append_getElem hj, List.filter_append]
  simp [hj] at h ⊢
  simp [h]
theorem lft_no (ks : List Int) (P : List Po) (j : Nat) (hj : j < P.length) (h : hitB ks (P.getD j Po.none).k = true) : lft ks (P.take (j + 1)) = lft ks (P.take j) := by
  unfold lft
  rw [List.take_succ_eq_append_getElem hj, List.filter_append]
  simp [hj] at h ⊢
  simp [h]
/-- What Without tells. -/
def WithoutOk (w : World) (ks : List Int) (L : List Ov) (e : Ending) (w' : World) : Prop :=
  ∃ a' m cap' L', e = .returned (.slice a' m cap') ∧ Opts w' a' m cap' L' ∧ pos L' = lft ks (pos L) ∧ Below w.heap.size w w'
theorem ocs_snoc2 (L : List Ov) (o : Ov) : ocs (L ++ [o]) = ocs L ++ o.cs.toList := by simp [ocs]
end Go.Proofs.YtbfjkhafdkhhmaaDoor

namespace Go.Proofs.YtbfjkhafdkhhmaaDoor
open Go.ChangeShapes Go.WideShapes Go.ChangeAt Go.RowKit Go.Deep
set_option linter.unusedVariables false
set_option linter.unusedSimpArgs false

/-- One of many options, in a slice of its own. -/
theorem Opts.one {w : World} {b off : Nat} {n cap : Nat} {L : List Ov} (h : Opts w (some ⟨b, off, Option.none⟩) n cap L) (k : Nat) (hk : k < n) : Opts w (some ⟨b, off + k * 19, Option.none⟩) 1 (cap - k) [L.getD k Ov.zero] := by
  have h1 := h.le
  have h2 := h.max
  refine ⟨rfl, by omega, by omega, (fun h => by cases h), fun j hj => ?_, fun o ho => ?_⟩
  · obtain rfl : j = 0 := by omega
    obtain ⟨b', off', he, hp⟩ := h.cell k hk
    obtain ⟨rfl, rfl⟩ : b = b' ∧ off = off' := by have := Option.some.inj he; simpa using this
    exact ⟨b, off + k * 19, rfl, by simpa using hp⟩
  · rw [List.mem_singleton.1 ho]; exact h.at k hk
/-- The targets of options. -/
def tgts (P : List Po) : List Po := P.filter (fun p => hitB [5] p.k)
theorem tgts_yes (P : List Po) (j : Nat) (hj : j < P.length) (h : hitB [5] (P.getD j Po.none).k = true) : tgts (P.take (j + 1)) = tgts (P.take j) ++ [P.getD j Po.none] := by
  unfold tgts
  rw [List.take_succ_eq_append_getElem hj, List.filter_append]
  simp [hj] at h ⊢
  simp [h]
theorem tgts_no (P : List Po) (j : Nat) (hj : j < P.length) (h : hitB [5] (P.getD j Po.none).k = false) : tgts (P.take (j + 1)) = tgts (P.take j) := by
  unfold tgts
  rw [List.take_succ_eq_append_getElem hj, List.filter_append]
  simp [hj] at h ⊢
  simp [h]
/-- What Targets tells. -/
def TgOk (w : World) (L : List Ov) (e : Ending) (w' : World) : Prop :=
  ∃ a' m cap' L', e = .returned (.slice a' m cap') ∧ Hid (Opts w' a' m cap' L') ∧ Hid (pos L' = tgts (pos L)) ∧ m ≤ L.length ∧ Below w.heap.size w w'
set_option maxRecDepth 100000 in
set_option maxHeartbeats 1600000 in
theorem targets_any (m : Mv) (w : World) (hm : m.ok w) (hs : Sml m.L) (hn : m.on ≤ 1000) : Calls Tryd.prog 19 #[.agg m.cs] w (TgOk w m.L) := by
  have hz := zov
  have HS := hid hs
  have R1 := hid (Row.new w 29 m.cs)
  have B1 := hid (balloc (Below.refl w.heap.size w) (.cells m.cs 29))
  have HL := hid (hm.o.below B1.out)
  have ll := hid hm.o.len
  have HA := hid hm.ro
  have hcle := hm.o.le
  have hcm := hm.o.max
  unfold maxLen at hcm
  clear hm hs
  go_enter Tryd.func19, Tryd.ntmps19
  go_upto_region 1 with fail
  generalize hw1 : w.alloc (.cells m.cs 29) = w1 at *
  generalize hg1 : w.heap.size = g1 at *
  clear hw1
  have c27 := (R1.out.cell 27).trans (Mv.at27 HA.out)
  obtain ⟨ma, mn, mc, mL, e1, e2, e3, e4⟩ : ∃ ma mn mc mL, m.oa = ma ∧ m.on = mn ∧ m.oc = mc ∧ m.L = mL := ⟨_, _, _, _, rfl, rfl, rfl, rfl⟩
  rw [e1, e2, e3] at c27 HL
  rw [e4] at HL HS ll
  rw [e2] at hn ll hcle
  rw [e3] at hcle hcm
  have E1 := hid e1
  have E2 := hid e2
  have E3 := hid e3
  have E4 := hid e4
  clear e1 e2 e3 e4
  go_wp2_with fail
  go_loopw [3, 10] (fun v i wr => ∃ (j : Nat) (L' : List Ov), j ≤ mn ∧ i = .int .i64 j ∧ Hid (pos L' = tgts ((pos mL).take j)) ∧ Hid (L'.length ≤ j) ∧ Hid (wr.ownsRow w1.heap.size 54 19 v L'.length (ocs L')) ∧ Hid (∀ o ∈ L', Own2 w1.heap.size wr o) ∧ Hid (Below w1.heap.size w1 wr)) (fun _ i _ => mn - (intOf i).toNat)
  case atStart => exact ⟨0, [], Nat.zero_le _, rfl, rfl, Nat.zero_le _, World.ownsRow_nil _ _ _ _, (fun o ho => by cases ho), Below.refl _ _⟩
  case round =>
    obtain ⟨j, L', hj, rfl, HP, HLe, HO, HM, hb⟩ := hrel
    clear c27
    by_cases hlt : j < mn
    · have hlt' : (j : Int) < (mn : Int) := by omega
      have hj1 : (j : Int) + 1 ≤ (mc : Int) := by omega
      obtain ⟨b, off, rfl, hp⟩ := (HL.out.below hb.out).cell j hlt
      have hone := (HL.out.below hb.out).one j hlt
      have hjl : j < mL.length := by rw [ll.out]; exact hlt
      have hmem : mL.getD j Ov.zero ∈ mL := by simp [hjl]
      have hsm := HS.out _ hmem
      have HY := hid (tgts_yes (pos mL) j (by rw [pos_len]; exact hjl))
      have HN := hid (tgts_no (pos mL) j (by rw [pos_len]; exact hjl))
      rw [pos_at mL j hjl] at HY HN
      generalize mL.getD j Ov.zero = o at *
      have O1 := hid hone
      have RB := hid (R1.out.below hb.out)
      have c27 := (RB.out.cell 27).trans (Mv.at27 HA.out)
      rw [E1.out, E2.out, E3.out] at c27
      clear hp hone hmem hjl
      have BA := hid (balloc (Below.refl wr.heap.size wr) (.cells #[.int .i64 5] 3))
      have LK := hid (lies_new .i64 wr #[.int .i64 5] 3 [5] rfl (by simp))
      have O2 := hid (O1.out.below BA.out)
      go_wp2_with fail
      have B3 := hid (bthen hb.out BA.out)
      have W3 := hid (own_below HO.out BA.out)
      have M3 := hid (fun o ho => (HM.out o ho).below BA.out)
      generalize wr.alloc (.cells #[.int .i64 5] 3) = w3 at *
      generalize wr.heap.size = g3 at *
      clear BA O1 c27 HO HM hb RB
      refine (optFind2_any (some ⟨b, off + j * 19, none⟩) 1 (mc - j) [o] (some ⟨g3, 0, none⟩) 1 1 [5] _ O2.out LK.out (fun x hx => by rw [List.mem_singleton.1 hx]; exact hsm)).mono ?_
      rintro e w4 ⟨hf, hb4⟩
      have W4 := hid (own_below W3.out hb4)
      have M4 := hid (fun o ho => (M3.out o ho).below hb4)
      have B4 := hid (bthen B3.out hb4)
      have hs3 := B3.out.size
      clear hb4 W3 M3 O2 LK
      have hLe := HLe.out
      rcases hf with ⟨rfl, hno⟩ | ⟨i, o', hi, rfl, hyes, _, hpp, _, hown⟩
      · have hh : hitB [5] o.k = false := hno o (by simp)
        have RZ := hid (layOo_new w4 54 Ov.zero)
        have BZ := hid (layOo_below w4 54 Ov.zero)
        have HHN := hid (HN.out hh)
        clear hno hh
        go_upto_region 6 with (first | (refine stOo o43 _ _ rfl rfl w4.heap.size Ov.zero adr_zeros rfl rfl 54 Ov.zero adr_zeros (Row.new w4 54 _) ?_))
        have W5 := hid (own_below W4.out BZ.out)
        have M5 := hid (fun o ho => (M4.out o ho).below BZ.out)
        have B5 := hid (bthen B4.out BZ.out)
        generalize (w4.alloc (.cells Ov.zero.cs 54)).setRow w4.heap.size Ov.zero.cs = w5 at *
        go_wp2_with fail
        go_roundw
        case rel => exact ⟨j + 1, L', by omega, by go_num, by rw [Hid, HHN.out]; exact HP.out, Nat.le_succ_of_le HLe.out, W5.out, M5.out, B5.out⟩
        case measure => simp [intOf]; omega
      · obtain rfl : i = 0 := by simpa using hi
        have hh : hitB [5] o.k = true := hyes
        have HPP : Hid (o'.p = o.p) := hpp
        have HW := hid (hown.mono hs3)
        have HHY := hid (HY.out hh)
        clear hyes hpp hown hh hi
        have RZ := hid (layOo_new w4 54 o')
        have BZ := hid (layOo_below w4 54 o')
        go_upto_region 6 with (first | (refine stOo o43 _ _ rfl rfl w4.heap.size o' HW.out.ad rfl rfl 54 Ov.zero adr_zeros (Row.new w4 54 _) ?_))
        have W5 := hid (own_below W4.out BZ.out)
        have M5 := hid (fun o ho => (M4.out o ho).below BZ.out)
        have HW5 := hid (HW.out.below BZ.out)
        have B5 := hid (bthen B4.out BZ.out)
        generalize (w4.alloc (.cells Ov.zero.cs 54)).setRow w4.heap.size o'.cs = w5 at *
        generalize w4.heap.size = g4 at *
        clear W4 M4 HW B4 BZ
        have BA := hid (balloc (Below.refl w5.heap.size w5) (.cells o'.cs 54))
        have W6 := hid (W5.out.alloc (.cells o'.cs 54))
        have M6 := hid (fun o ho => (M5.out o ho).below BA.out)
        have HW6 := hid (HW5.out.below BA.out)
        have B6 := hid (bthen B5.out BA.out)
        have RX := hid (Row.new w5 54 o'.cs)
        go_wp2_with (first | (with_reducible refine wpl_id ?_; refine ldOo o43 _ rfl rfl _ _ rfl o' HW5.out.ad RZ.out.part ?_) | (refine bsO s23 rfl _ rfl o' HW5.out.ad rfl ?_) | (at_builtin; refine wpList_pushO s23 rfl _ _ rfl w1.heap.size _ w5.heap.size _ _ rfl W6.out o' HW5.out.ad rfl RX.out ?c1 ?c2 ?_))
        case c1 => exact B6.out.size
        case c2 => omega
        intro v7 w7 hown7 hg7
        have M7 := hid (fun o ho => (M6.out o ho).kept W6.out (by decide) (by decide) hg7)
        have HW7 := hid (HW6.out.kept W6.out (by decide) (by decide) hg7)
        have B7 := hid (Below.grown B6.out hg7 B6.out.size (fun j hj => (W6.out.lt j hj).1))
        have O7 := hid hown7
        clear hown7 hg7
        go_wp2_with fail
        go_roundw
        case rel =>
          refine ⟨j + 1, L' ++ [o'], by omega, by go_num, ?_, ?_, ?_, ?_, B7.out⟩
          · rw [Hid, HHY.out, ← HP.out]; simp [pos, HPP.out]
          · rw [Hid, List.length_append]; simp; exact HLe.out
          · rw [Hid, List.length_append, ocs_snoc2]; exact O7.out
          · intro x hx
            rcases List.mem_append.1 hx with h | h
            · exact M7.out x h
            · rw [List.mem_singleton.1 h]; exact HW7.out
        case measure => simp [intOf]; omega
    · obtain rfl : j = mn := by omega
      obtain ⟨va, vc, hv, hop⟩ := owns_opts HO.out (fun o ho => (HM.out o ho).ok)
      subst hv
      have HOP := hid hop
      rw [List.take_of_length_le (by rw [pos_len, ll.out]; exact Nat.le_refl _)] at HP
      clear hop
      go_wp2_with fail
      go_ret
      unfold TgOk
      refine ⟨va, L'.length, vc, L', rfl, HOP, by rw [E4.out]; exact HP, by rw [E4.out, ll.out]; exact HLe.out, ?_⟩
      rw [hg1]
      exact B1.out.trans (hb.out.mono (by rw [← hg1]; exact B1.out.size))
end Go.Proofs.YtbfjkhafdkhhmaaDoor

namespace Go.Proofs.YtbfjkhafdkhhmaaDoor
open Go.ChangeShapes Go.WideShapes Go.ChangeAt Go.RowKit Go.Deep
set_option linter.unusedVariables false
set_option linter.unusedSimpArgs false

def maysL : List ByteArray := [⟨#[48, 49, 55]⟩, ⟨#[48, 49, 50, 51, 52, 56]⟩, ⟨#[48, 49, 53, 54, 57]⟩, ⟨#[48, 49]⟩]
/-- A code's kinds as letters. -/
def mays (k : Nat) : ByteArray := maysL.getD k ⟨#[]⟩
theorem mays_at (k : Nat) (hk : k < 4) : (#[Value.string ⟨#[48, 49, 55]⟩, .string ⟨#[48, 49, 50, 51, 52, 56]⟩, .string ⟨#[48, 49, 53, 54, 57]⟩, .string ⟨#[48, 49]⟩] : Array Value)[k]? = some (.string (mays k)) :=
  match k, hk with
  | 0, _ => rfl
  | 1, _ => rfl
  | 2, _ => rfl
  | 3, _ => rfl
theorem mays_len : ∀ k, k < 4 → (mays k).size = (cki k).length ∧ (cki k).length ≤ 6 := by decide
theorem mays_ch' : ∀ k, k < 4 → ∀ i, i < (cki k).length → ((((mays k).data[i]?.getD 0).toNat : Nat) : Int) = (cki k).getD i 0 + 48 := by decide
theorem mays_ch (k : Nat) (hk : k < 4) (i : Nat) (h : i < (mays k).size) : ((((mays k)[i]'h).toNat : Nat) : Int) = (cki k).getD i 0 + 48 := by
  have h' : i < (mays k).data.size := h
  have e : (mays k)[i]'h = (mays k).data[i]'h' := rfl
  rw [e, ← mays_ch' k hk i (by rw [← (mays_len k hk).1]; exact h), Array.getElem?_eq_getElem h']; rfl
theorem cki_bd : ∀ k, k < 4 → ∀ x ∈ cki k, 0 ≤ x ∧ x ≤ 9 := by decide
theorem may_out {c k : Int} (h : codB c = false ∨ k < 0 ∨ 9 < k) : mayB c k = false := by
  rcases h with h | h
  · simp [mayB, h]
  · cases hc : codB c
    · simp [mayB, hc]
    · obtain ⟨j, rfl, hj⟩ := cod_nat hc
      simp only [mayB, hc, Bool.true_and, Int.toNat_natCast, decide_eq_false_iff_not]
      intro hm
      have := cki_bd j hj k hm
      omega
set_option maxHeartbeats 1600000 in
theorem refMay_any (c k : Int) (w : World) : Calls Tryd.prog 23 #[.int .i64 c, .int .i64 k] w fun e w' => e = .returned (.bool (mayB c k)) ∧ Below w.heap.size w w' := by
  have B0 := hid (balloc (Below.refl w.heap.size w) (.cells #[Value.string ⟨#[48, 49, 55]⟩, .string ⟨#[48, 49, 50, 51, 52, 56]⟩, .string ⟨#[48, 49, 53, 54, 57]⟩, .string ⟨#[48, 49]⟩] 49))
  have R0 := hid (Row.new w 49 #[Value.string ⟨#[48, 49, 55]⟩, .string ⟨#[48, 49, 50, 51, 52, 56]⟩, .string ⟨#[48, 49, 53, 54, 57]⟩, .string ⟨#[48, 49]⟩])
  by_cases h1 : c < 0
  · have e1 : decide (c < 0) = true := decide_eq_true h1
    have HV := hid (may_out (c := c) (k := k) (.inl (by simp [codB]; omega)))
    go_enter Tryd.func23, Tryd.ntmps23
    go_upto_region 2 with fail
    generalize w.alloc (.cells #[Value.string ⟨#[48, 49, 55]⟩, .string ⟨#[48, 49, 50, 51, 52, 56]⟩, .string ⟨#[48, 49, 53, 54, 57]⟩, .string ⟨#[48, 49]⟩] 49) = w1 at *
    go_wp2_with fail
    go_ret
    exact ⟨ret_bool HV.out.symm, B0.out⟩
  · have e1 : decide (c < 0) = false := decide_eq_false h1
    by_cases h2 : 3 < c
    · have e2 : decide (3 < c) = true := decide_eq_true h2
      have HV := hid (may_out (c := c) (k := k) (.inl (by simp [codB]; omega)))
      go_enter Tryd.func23, Tryd.ntmps23
      go_upto_region 2 with fail
      generalize w.alloc (.cells #[Value.string ⟨#[48, 49, 55]⟩, .string ⟨#[48, 49, 50, 51, 52, 56]⟩, .string ⟨#[48, 49, 53, 54, 57]⟩, .string ⟨#[48, 49]⟩] 49) = w1 at *
      go_wp2_with fail
      go_ret
      exact ⟨ret_bool HV.out.symm, B0.out⟩
    · have e2 : decide (3 < c) = false := decide_eq_false h2
      by_cases h3 : k < 0
      · have e3 : decide (k < 0) = true := decide_eq_true h3
        have HV := hid (may_out (c := c) (k := k) (.inr (.inl h3)))
        go_enter Tryd.func23, Tryd.ntmps23
        go_upto_region 2 with fail
        generalize w.alloc (.cells #[Value.string ⟨#[48, 49, 55]⟩, .string ⟨#[48, 49, 50, 51, 52, 56]⟩, .string ⟨#[48, 49, 53, 54, 57]⟩, .string ⟨#[48, 49]⟩] 49) = w1 at *
        go_wp2_with fail
        go_ret
        exact ⟨ret_bool HV.out.symm, B0.out⟩
      · have e3 : decide (k < 0) = false := decide_eq_false h3
        by_cases h4 : 9 < k
        · have e4 : decide (9 < k) = true := decide_eq_true h4
          have HV := hid (may_out (c := c) (k := k) (.inr (.inr h4)))
          go_enter Tryd.func23, Tryd.ntmps23
          go_upto_region 2 with fail
          generalize w.alloc (.cells #[Value.string ⟨#[48, 49, 55]⟩, .string ⟨#[48, 49, 50, 51, 52, 56]⟩, .string ⟨#[48, 49, 53, 54, 57]⟩, .string ⟨#[48, 49]⟩] 49) = w1 at *
          go_wp2_with fail
          go_ret
          exact ⟨ret_bool HV.out.symm, B0.out⟩
        · have e4 : decide (9 < k) = false := decide_eq_false h4
          obtain ⟨j, rfl⟩ : ∃ j : Nat, c = j := ⟨c.toNat, by omega⟩
          have hj : j < 4 := by omega
          have hj' : (j : Int) < 4 := by omega
          have e5 : decide (3 < j) = false := decide_eq_false (by omega)
          have HV : Hid (mayB j k = decide (k ∈ cki j)) := by rw [Hid, mayB, codB_nat hj]; simp
          have hsz := (mays_len j hj).1
          have hs6 := (mays_len j hj).2
          have HCh := hid (fun i h => mays_ch j hj i h)
          go_enter Tryd.func23, Tryd.ntmps23
          go_upto_region 2 with fail
          generalize w.alloc (.cells #[Value.string ⟨#[48, 49, 55]⟩, .string ⟨#[48, 49, 50, 51, 52, 56]⟩, .string ⟨#[48, 49, 53, 54, 57]⟩, .string ⟨#[48, 49]⟩] 49) = w1 at *
          have ck := (R0.out.cell j).trans (mays_at j hj)
          have HBD := hid (cki_bd j hj)
          generalize cki j = l at *
          have HSZ := hid hsz
          clear hsz
          have hsz2 : (mays j).size ≤ 6 := by rw [HSZ.out]; exact hs6
          go_wp2_with fail
          go_loop [6] (fun iv => ∃ i : Nat, i ≤ (mays j).size ∧ iv = .int .i64 i ∧ Hid (¬ k ∈ l.take i)) (fun i => (mays j).size - (intOf i).toNat)
          case atStart => exact ⟨0, Nat.zero_le _, rfl, by rw [Hid]; simp⟩
          case round =>
            obtain ⟨i, hi, rfl, hno⟩ := hrel
            by_cases hlt : i < (mays j).size
            · have hlt' : (i : Int) < ((mays j).size : Int) := by omega
              have hc := HCh.out i hlt
              have hil : i < l.length := by rw [← HSZ.out]; exact hlt
              have HM : Hid (l.getD i 0 ∈ l) := by rw [Hid]; simp [hil]
              have HN : Hid (¬ k = l.getD i 0 → ¬ k ∈ l.take (i + 1)) := not_mem_take hil hno.out
              have hb9 : 0 ≤ l.getD i 0 ∧ l.getD i 0 ≤ 9 := HBD.out _ HM.out
              generalize l.getD i 0 = z at *
              by_cases hz : z = k
              · have he : (z == k) = true := by simp [hz]
                have hb0 := hb9.1
                have HZ := hid hz
                clear hz
                go_wp2_with fail
                go_ret
                exact ⟨ret_bool (by rw [HV.out]; have := HM.out; rw [HZ.out] at this; simp [this]), B0.out⟩
              · have he : (z == k) = false := by simp [hz]
                have hb0 := hb9.1
                have HZ := hid (HN.out (fun e => hz e.symm))
                clear hz
                go_wp2_with fail
                go_round
                case rel => exact ⟨i + 1, by omega, by go_num, HZ⟩
                case measure => simp [intOf]; omega
            · obtain rfl : i = (mays j).size := by omega
              rw [HSZ.out, List.take_of_length_le (Nat.le_refl _)] at hno
              go_wp2_with fail
              go_ret
              exact ⟨ret_bool (by rw [HV.out]; simp [hno.out]), B0.out⟩
/-- The chapter's example. -/
def mex : Mv := ⟨2, 1, 0, 0, 0, 0, 0, 9, 0, false, true, zeros, none, 0, 0, []⟩
theorem mex_ok (w : World) : mex.ok w := ⟨adr_zeros, Opts.none w⟩
theorem built_mex : Tryd.prog.built 29 [(0, .int .i64 2), (1, .int .i64 1), (10, .bool true), (7, .int .i64 9)] = some mex.cs := by kernel_rfl
theorem bdMx {ops : Array Oper} {rest : List Oper} {o : Oper} {a : Act} {w : World} {Q : Exit → Act → World → Prop} (x0 x1 x2 x3 : Operand) (ho : o.op = .build 29 #[(0, x0), (1, x1), (10, x2), (7, x3)]) (hg : o.guard = none)
    (h0 : a.eval x0 = .int .i64 2) (h1 : a.eval x1 = .int .i64 1) (h2 : a.eval x2 = .bool true) (h3 : a.eval x3 = .int .i64 9)
    (hn : wpList Tryd.prog ops Q rest (a.put o.dst (.agg mex.cs)) w) : wpList Tryd.prog ops Q (o :: rest) a w :=
  wp_bd 29 _ ho hg mex.cs (by simp only [List.map_toArray, List.map_cons, List.map_nil, h0, h1, h2, h3]; exact built_mex) hn
theorem mex_enc : (eE mex.p, eL mex.p) = (0, [1, 128, 0, 9]) := by kernel_rfl
theorem mex_word : cwOf 3 = ⟨#[97, 99, 107]⟩ := by kernel_rfl
set_option maxHeartbeats 800000 in
theorem cLawKnown_any {B : Nat} (w : World) (hV : CV B w) : Calls Tryd.prog 13 #[] w fun e w' => e = .returned (.bool true) ∧ Below w.heap.size w w' := by
  have HV := hid hV
  clear hV
  go_enter Tryd.func13, Tryd.ntmps13
  go_wp2_with (refine bdMx _ _ _ _ rfl rfl rfl rfl rfl rfl ?_)
  refine (cEncode_any mex w (mex_ok w) HV.out (by decide)).mono ?_
  rintro x w1 ⟨⟨v, rfl, hown⟩, hb⟩
  have h1 : eE mex.p = 0 := congrArg Prod.fst mex_enc
  have h2 : eL mex.p = [1, 128, 0, 9] := congrArg Prod.snd mex_enc
  rw [h2] at hown
  rw [h1]
  obtain ⟨va, vc, rfl, hl, _⟩ := owns_lies hown.out
  have L1 : Hid (Lies .u8 w1 va 4 vc [1, 128, 0, 9]) := hid hl
  have B1 := hid hb
  have V1 := hid (HV.out.below hb)
  clear hown hb hl h1 h2 HV
  have L2 := hid (lies_lit .u8 w1 #[.int .u8 1, .int .u8 128, .int .u8 0, .int .u8 9] 5 [1, 128, 0, 9] 4 rfl rfl (by decide))
  have B2 := hid (balloc (Below.refl w1.heap.size w1) (.cells #[.int .u8 1, .int .u8 128, .int .u8 0, .int .u8 9] 5))
  go_wp2_with fail
  refine (same_any va _ 4 vc 4 4 [1, 128, 0, 9] [1, 128, 0, 9] _ (L1.out.below B2.out) L2.out).mono ?_
  rintro x w2 ⟨rfl, q, rfl⟩
  rw [show (([1, 128, 0, 9] : List Int) == [1, 128, 0, 9]) = true from rfl]
  have B3 := hid (bdrew (bthen B1.out B2.out) q)
  have V3 := hid ((V1.out.below B2.out).drewN q)
  generalize (w1.alloc (.cells #[.int .u8 1, .int .u8 128, .int .u8 0, .int .u8 9] 5)).drewN q = w3 at *
  go_wp2_with fail
  refine (cword_any 3 _ V3.out).mono ?_
  rintro x w4 ⟨rfl, rfl⟩
  rw [mex_word]
  go_wp2_with fail
  go_ret
  exact ⟨rfl, B3.out⟩
end Go.Proofs.YtbfjkhafdkhhmaaDoor

namespace Go.Proofs.YtbfjkhafdkhhmaaDoor
open Go.ChangeShapes Go.WideShapes Go.ChangeAt Go.RowKit Go.Deep
set_option linter.unusedVariables false
set_option linter.unusedSimpArgs false

theorem bit_any (b : Bool) (n : Int) (w : World) : Calls Tryd.prog 35 #[.bool b, .int .i64 n] w fun e w' => e = .returned (.int .i64 (if b = true then n else 0)) ∧ w' = w := by
  cases b
  all_goals
    go_enter Tryd.func35, Tryd.ntmps35
    go_wp2
    go_ret
    exact ⟨rfl, rfl⟩
set_option maxRecDepth 100000 in
set_option maxHeartbeats 3200000 in
theorem refMore_any (m : Mv) (w : World) (hr : Adr m.ro) : Calls Tryd.prog 25 #[.agg m.cs] w fun e w' => e = .returned (.bool (morM m.p)) ∧ Below w.heap.size w w' := by
  have hz := zarr
  have HA := hid hr
  have R1 := hid ((Row.new w 25 m.cs).alloc (.cells (arr zeros) 22))
  have Z1 := hid (Row.new (w.alloc (.cells m.cs 25)) 22 (arr zeros))
  have B1 := hid (balloc (balloc (Below.refl w.heap.size w) (.cells m.cs 25)) (.cells (arr zeros) 22))
  have hs1 : (w.alloc (.cells m.cs 25)).heap.size = w.heap.size + 1 := World.size_alloc ..
  rw [hs1] at Z1
  have HD : Hid (dioM m.p = ((m.v != 0) || ((m.r != 0) || ((m.mo != 0) || ((m.pf != 0) || ((m.d != 0) || m.g)))))) := rfl
  have HM : Hid (morM m.p = if m.c = 0 then dioM m.p || ((m.i != 0) || ((m.sq != 0) || ((m.st != 0) || (m.a || !(m.ro == zeros))))) else if m.c = 1 then (m.sq != 0) || ((m.st != 0) || m.a) else if m.c = 2 then dioM m.p || (m.st != 0) else dioM m.p || m.a) := rfl
  have hq := eq36 m.ro zeros hr.1 adr_zeros.1
  clear hr
  go_enter Tryd.func25, Tryd.ntmps25
  go_upto_region 2 with fail
  generalize (w.alloc (.cells m.cs 25)).alloc (.cells (arr zeros) 22) = w1 at *
  clear hz hs1
  have PA := hid (R1.out.part.mvA HA.out)
  have PZ := hid Z1.out.part
  have c0 := (R1.out.cell 0).trans m.at0
  have c1 := (R1.out.cell 1).trans m.at1
  have c2 := (R1.out.cell 2).trans m.at2
  have c3 := (R1.out.cell 3).trans m.at3
  have c4 := (R1.out.cell 4).trans m.at4
  have c5 := (R1.out.cell 5).trans m.at5
  have c6 := (R1.out.cell 6).trans m.at6
  have c7 := (R1.out.cell 7).trans m.at7
  have c8 := (R1.out.cell 8).trans m.at8
  have c9 := (R1.out.cell 9).trans m.at9
  have c10 := (R1.out.cell 10).trans m.at10
  generalize (m.ro == zeros) = rb at *
  generalize hgg : m.g = bg at *
  generalize haa : m.a = ba at *
  clear hgg haa
  go_cut [4] from 5 to 31 (fun v wx => v = .bool (dioM m.p) ∧ wx = w1)
  case first =>
    cases hbv : (m.v != 0)
    · rw [hbv] at HD
      cases hbr : (m.r != 0)
      · rw [hbr] at HD
        cases hbmo : (m.mo != 0)
        · rw [hbmo] at HD
          cases hbpf : (m.pf != 0)
          · rw [hbpf] at HD
            cases hbd : (m.d != 0)
            · rw [hbd] at HD
              cases bg
              · go_wp2_with fail
                go_meet
                case rel => exact ⟨by rw [HD.out]; rfl, rfl⟩
              · go_wp2_with fail
                go_meet
                case rel => exact ⟨by rw [HD.out]; rfl, rfl⟩
            · rw [hbd] at HD
              go_wp2_with fail
              go_meet
              case rel => exact ⟨by rw [HD.out]; rfl, rfl⟩
          · rw [hbpf] at HD
            go_wp2_with fail
            go_meet
            case rel => exact ⟨by rw [HD.out]; rfl, rfl⟩
        · rw [hbmo] at HD
          go_wp2_with fail
          go_meet
          case rel => exact ⟨by rw [HD.out]; rfl, rfl⟩
      · rw [hbr] at HD
        go_wp2_with fail
        go_meet
        case rel => exact ⟨by rw [HD.out]; rfl, rfl⟩
    · rw [hbv] at HD
      go_wp2_with fail
      go_meet
      case rel => exact ⟨by rw [HD.out]; rfl, rfl⟩
  case rest =>
    obtain ⟨rfl, hwc⟩ := hcut
    subst hwc
    generalize dioM m.p = dd at *
    by_cases h0 : m.c = 0
    · have e0 : (m.c == 0) = true := by simp [h0]
      rw [if_pos h0] at HM
      clear h0
      cases dd
      · cases hbi : (m.i != 0)
        · rw [hbi] at HM
          cases hbsq : (m.sq != 0)
          · rw [hbsq] at HM
            cases hbst : (m.st != 0)
            · rw [hbst] at HM
              cases ba
              · cases rb
                · go_wp2_with (with_reducible refine wpl_id ?_; first | (refine ld36 _ rfl rfl _ _ rfl m.ro HA.out PA.out ?_) | (refine ld36 _ rfl rfl _ _ rfl zeros adr_zeros PZ.out ?_))
                  go_ret
                  exact ⟨ret_bool (by rw [HM.out]; rfl), B1.out⟩
                · go_wp2_with (with_reducible refine wpl_id ?_; first | (refine ld36 _ rfl rfl _ _ rfl m.ro HA.out PA.out ?_) | (refine ld36 _ rfl rfl _ _ rfl zeros adr_zeros PZ.out ?_))
                  go_ret
                  exact ⟨ret_bool (by rw [HM.out]; rfl), B1.out⟩
              · go_wp2_with (with_reducible refine wpl_id ?_; first | (refine ld36 _ rfl rfl _ _ rfl m.ro HA.out PA.out ?_) | (refine ld36 _ rfl rfl _ _ rfl zeros adr_zeros PZ.out ?_))
                go_ret
                exact ⟨ret_bool (by rw [HM.out]; rfl), B1.out⟩
            · rw [hbst] at HM
              go_wp2_with (with_reducible refine wpl_id ?_; first | (refine ld36 _ rfl rfl _ _ rfl m.ro HA.out PA.out ?_) | (refine ld36 _ rfl rfl _ _ rfl zeros adr_zeros PZ.out ?_))
              go_ret
              exact ⟨ret_bool (by rw [HM.out]; rfl), B1.out⟩
          · rw [hbsq] at HM
            go_wp2_with (with_reducible refine wpl_id ?_; first | (refine ld36 _ rfl rfl _ _ rfl m.ro HA.out PA.out ?_) | (refine ld36 _ rfl rfl _ _ rfl zeros adr_zeros PZ.out ?_))
            go_ret
            exact ⟨ret_bool (by rw [HM.out]; rfl), B1.out⟩
        · rw [hbi] at HM
          go_wp2_with (with_reducible refine wpl_id ?_; first | (refine ld36 _ rfl rfl _ _ rfl m.ro HA.out PA.out ?_) | (refine ld36 _ rfl rfl _ _ rfl zeros adr_zeros PZ.out ?_))
          go_ret
          exact ⟨ret_bool (by rw [HM.out]; rfl), B1.out⟩
      · go_wp2_with (with_reducible refine wpl_id ?_; first | (refine ld36 _ rfl rfl _ _ rfl m.ro HA.out PA.out ?_) | (refine ld36 _ rfl rfl _ _ rfl zeros adr_zeros PZ.out ?_))
        go_ret
        exact ⟨ret_bool (by rw [HM.out]; rfl), B1.out⟩
    · have e0 : (m.c == 0) = false := by simp [h0]
      rw [if_neg h0] at HM
      clear h0
      by_cases h1 : m.c = 1
      · have e1 : (m.c == 1) = true := by simp [h1]
        rw [if_pos h1] at HM
        clear h1
        cases hbsq : (m.sq != 0)
        · rw [hbsq] at HM
          cases hbst : (m.st != 0)
          · rw [hbst] at HM
            cases ba
            · go_wp2_with (with_reducible refine wpl_id ?_; first | (refine ld36 _ rfl rfl _ _ rfl m.ro HA.out PA.out ?_) | (refine ld36 _ rfl rfl _ _ rfl zeros adr_zeros PZ.out ?_))
              go_ret
              exact ⟨ret_bool (by rw [HM.out]; rfl), B1.out⟩
            · go_wp2_with (with_reducible refine wpl_id ?_; first | (refine ld36 _ rfl rfl _ _ rfl m.ro HA.out PA.out ?_) | (refine ld36 _ rfl rfl _ _ rfl zeros adr_zeros PZ.out ?_))
              go_ret
              exact ⟨ret_bool (by rw [HM.out]; rfl), B1.out⟩
          · rw [hbst] at HM
            go_wp2_with (with_reducible refine wpl_id ?_; first | (refine ld36 _ rfl rfl _ _ rfl m.ro HA.out PA.out ?_) | (refine ld36 _ rfl rfl _ _ rfl zeros adr_zeros PZ.out ?_))
            go_ret
            exact ⟨ret_bool (by rw [HM.out]; rfl), B1.out⟩
        · rw [hbsq] at HM
          go_wp2_with (with_reducible refine wpl_id ?_; first | (refine ld36 _ rfl rfl _ _ rfl m.ro HA.out PA.out ?_) | (refine ld36 _ rfl rfl _ _ rfl zeros adr_zeros PZ.out ?_))
          go_ret
          exact ⟨ret_bool (by rw [HM.out]; rfl), B1.out⟩
      · have e1 : (m.c == 1) = false := by simp [h1]
        rw [if_neg h1] at HM
        clear h1
        by_cases h2 : m.c = 2
        · have e2 : (m.c == 2) = true := by simp [h2]
          rw [if_pos h2] at HM
          clear h2
          cases dd
          · cases hbst : (m.st != 0)
            · rw [hbst] at HM
              go_wp2_with (with_reducible refine wpl_id ?_; first | (refine ld36 _ rfl rfl _ _ rfl m.ro HA.out PA.out ?_) | (refine ld36 _ rfl rfl _ _ rfl zeros adr_zeros PZ.out ?_))
              go_ret
              exact ⟨ret_bool (by rw [HM.out]; rfl), B1.out⟩
            · rw [hbst] at HM
              go_wp2_with (with_reducible refine wpl_id ?_; first | (refine ld36 _ rfl rfl _ _ rfl m.ro HA.out PA.out ?_) | (refine ld36 _ rfl rfl _ _ rfl zeros adr_zeros PZ.out ?_))
              go_ret
              exact ⟨ret_bool (by rw [HM.out]; rfl), B1.out⟩
          · go_wp2_with (with_reducible refine wpl_id ?_; first | (refine ld36 _ rfl rfl _ _ rfl m.ro HA.out PA.out ?_) | (refine ld36 _ rfl rfl _ _ rfl zeros adr_zeros PZ.out ?_))
            go_ret
            exact ⟨ret_bool (by rw [HM.out]; rfl), B1.out⟩
        · have e2 : (m.c == 2) = false := by simp [h2]
          rw [if_neg h2] at HM
          clear h2
          cases dd
          · cases ba
            · go_wp2_with (with_reducible refine wpl_id ?_; first | (refine ld36 _ rfl rfl _ _ rfl m.ro HA.out PA.out ?_) | (refine ld36 _ rfl rfl _ _ rfl zeros adr_zeros PZ.out ?_))
              go_ret
              exact ⟨ret_bool (by rw [HM.out]; rfl), B1.out⟩
            · go_wp2_with (with_reducible refine wpl_id ?_; first | (refine ld36 _ rfl rfl _ _ rfl m.ro HA.out PA.out ?_) | (refine ld36 _ rfl rfl _ _ rfl zeros adr_zeros PZ.out ?_))
              go_ret
              exact ⟨ret_bool (by rw [HM.out]; rfl), B1.out⟩
          · go_wp2_with (with_reducible refine wpl_id ?_; first | (refine ld36 _ rfl rfl _ _ rfl m.ro HA.out PA.out ?_) | (refine ld36 _ rfl rfl _ _ rfl zeros adr_zeros PZ.out ?_))
            go_ret
            exact ⟨ret_bool (by rw [HM.out]; rfl), B1.out⟩
end Go.Proofs.YtbfjkhafdkhhmaaDoor
