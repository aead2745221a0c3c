/- Options of some kinds: Find, Without. · A message's targets. · The document's answer: May; and the chapter's example. · Are options the same? · Are lists of options the same? -/
import Derived.Test.YtbfjkhafdkhhmaaDoorM6
import Derived.Test.YtbfjkhafdkhhmaaDoorTw
import Derived.Test.YtbfjkhafdkhhmaaDoorM10
import Derived.Deep.QuietTactic
namespace Go.Proofs.YtbfjkhafdkhhmaaDoor
open Go.ChangeShapes Go.WideShapes Go.ChangeAt Go.RowKit Go.Deep
set_option linter.unusedVariables false
set_option linter.unusedSimpArgs false

/-- An option more, in a region whose order is fixed. -/
theorem wpList_pushO {ops : Array Oper} {rest : List Oper} {o : Oper} {a : Act} {w : World} {Q : Exit → Act → World → Prop} {ts t : TypeId} (hT : ST ts t) (hg : o.guard = none) (s y : Operand)
    (ho : o.op = .call { callee := .builtin .append, args := #[s, y], argTypes := #[ts, ts] }) (base m g : Nat) (v : Value) (xs : List Value) (hs : a.eval s = v) (hown : w.ownsRow base t 19 v m xs)
    (x : Ov) (hl : Adr x.ad) (hx : a.eval y = .slice (some ⟨g, 0, none⟩) 1 1) (hr : Row w g t x.cs) (hb : base ≤ w.heap.size) (hm : m ≤ 200000)
    (h : ∀ v' w', w'.ownsRow base t 19 v' (m + 1) (xs ++ x.cs.toList) → w.grownBy w' v.ownBlock → wpList Tryd.prog ops Q rest (a.put o.dst v') w') : wpList Tryd.prog ops Q (o :: rest) a w := by
  obtain ⟨ie, hi, hz, hz1, hz2⟩ := info_parts hT.ot.zero
  refine wpList_append_own w hg s y ts ho base t ie _ 19 72 hT.und hi hz hz1 hz2 cells_zero (by decide) v m xs hs hown ⟨g, 0, none⟩ 1 1 x.cs.toList hx (by rw [Array.length_toList, Ov.size hl]) (news_row hr) (one_list x) (by unfold maxLen; omega) (by omega) hb ?_
  intro v' w' h2 h3 _
  exact h v' w' h2 h3
/-- What Find tells. -/
def FindOk (w : World) (ks : List Int) (L : List Ov) (e : Ending) (w' : World) : Prop :=
  ((e = .returned (.tuple #[.agg Ov.zero.cs, .bool false]) ∧ ∀ o ∈ L, hitB ks o.k = false) ∨
    ∃ (i : Nat) (o' : Ov), i < L.length ∧ e = .returned (.tuple #[.agg o'.cs, .bool true]) ∧ hitB ks (L.getD i Ov.zero).k = true ∧ (∀ j, j < i → hitB ks (L.getD j Ov.zero).k = false) ∧ o'.p = (L.getD i Ov.zero).p ∧ o'.ok w') ∧ Below w.heap.size w w'
/-- What Find tells, with lists of its own. -/
def FindOk2 (w : World) (ks : List Int) (L : List Ov) (e : Ending) (w' : World) : Prop :=
  ((e = .returned (.tuple #[.agg Ov.zero.cs, .bool false]) ∧ ∀ o ∈ L, hitB ks o.k = false) ∨
    ∃ (i : Nat) (o' : Ov), i < L.length ∧ e = .returned (.tuple #[.agg o'.cs, .bool true]) ∧ hitB ks (L.getD i Ov.zero).k = true ∧ (∀ j, j < i → hitB ks (L.getD j Ov.zero).k = false) ∧ o'.p = (L.getD i Ov.zero).p ∧ o'.ok w' ∧ Own2 w.heap.size w' o') ∧ Below w.heap.size w w'
set_option maxRecDepth 100000 in
set_option maxHeartbeats 1600000 in
theorem optFind2_any (a : Option Addr) (n cap : Nat) (L : List Ov) (ka : Option Addr) (kn kc : Nat) (ks : List Int) (w : World) (hL : Opts w a n cap L) (hk : Lies .i64 w ka kn kc ks) (hsm : ∀ o ∈ L, o.n.n ≤ 100000 ∧ o.t.n ≤ 100000) :
    Calls Tryd.prog 44 #[.slice a n cap, .slice ka kn kc] w (FindOk2 w ks L) := by
  have hz := zov
  have Z0 := hid (Row.new w 54 Ov.zero.cs)
  have B0 := hid (balloc (Below.refl w.heap.size w) (.cells Ov.zero.cs 54))
  have L0 := hid (hL.below B0.out)
  have K0 := hid (hk.below B0.out)
  have HS := hid hsm
  have ll := hid hL.len
  have k1 := Nat.le_trans hL.le hL.max
  unfold maxLen at k1
  clear hL hk hsm
  go_enter Tryd.func44, Tryd.ntmps44
  go_upto_region 1 with fail
  generalize hw1 : w.alloc (.cells Ov.zero.cs 54) = w1 at *
  generalize hg0 : w.heap.size = g0 at *
  clear hw1 hz
  go_wp2_with fail
  have C1 := hid (Row.new w1 52 #[.slice ka kn kc])
  have B1 := hid (balloc (Below.refl w1.heap.size w1) (.cells #[.slice ka kn kc] 52))
  refine (oneOf_any ka kn kc _).mono ?_
  rintro e w2 ⟨rfl, rfl⟩
  generalize hw2 : w1.alloc (.cells #[.slice ka kn kc] 52) = w2 at *
  have L2 := hid (L0.out.below B1.out)
  have K2 := hid (K0.out.below B1.out)
  have Z2 := hid (Z0.out.below B1.out)
  have BB := hid (B0.out.trans (B1.out.mono (B := w1.heap.size) (B' := g0) (by rw [← hg0]; exact B0.out.size)))
  have D2 := hid ((C1.out.cell 0).trans rfl)
  generalize hgk : w1.heap.size = gk at *
  clear hw2 L0 K0 Z0 C1
  go_wp2_with fail
  refine (indexFunc_any a n cap L gk ka kn kc ks _ L2.out D2.out K2.out).mono ?_
  rintro e w3 ⟨⟨r, rfl, hf⟩, hb3⟩
  have L3 := hid (L2.out.below hb3)
  have Z3 := hid (Z2.out.below hb3)
  have B3 := hid (BB.out.trans (hb3.mono (by have := BB.out.size; omega)))
  clear hb3 L2 Z2 K2 D2
  rcases hf with ⟨rfl, hno⟩ | ⟨i, hi, rfl, hyes, hno⟩
  · have HN := hid hno
    clear hno
    have Z4 := hid (Z3.out.setRow Ov.zero.cs)
    have B4 := hid (below_setRow' B3.out (g := g0) (Nat.le_refl _) Ov.zero.cs)
    go_wp2_with (first | (refine bdOzo o43 rfl rfl ?_) | (refine stOo o43 _ _ rfl rfl g0 Ov.zero adr_zeros rfl rfl 54 Ov.zero adr_zeros Z3.out ?_))
    refine bodyPost_ret (resOoe o43 rfl _ _ g0 54 Ov.zero adr_zeros _ rfl rfl Z4.out) rfl ?_
    unfold FindOk2
    exact ⟨.inl ⟨rfl, HN.out⟩, by rw [hg0]; exact B4.out⟩
  · have HY := hid hyes
    have HN := hid hno
    have hin : i < n := by rw [← ll.out]; exact hi
    have hin' : (i : Int) < (n : Int) := by omega
    have HI := hid hi
    obtain ⟨b, off, rfl, hp⟩ := L3.out.cell i hin
    have hok := L3.out.at i hin
    have hmem : L.getD i Ov.zero ∈ L := by simp [show i < L.length from hi]
    have hs := HS.out _ hmem
    generalize hoo : L.getD i Ov.zero = o at *
    have HOO := hid hoo
    have PP := hid hp
    have OK := hid hok
    have HA := hid hok.ad
    clear hp hok hmem hoo hyes hno hi
    have hneg : decide ((i : Int) < 0) = false := decide_eq_false (by omega)
    go_wp2_with (refine ldOo o43 _ rfl rfl _ _ rfl o HA.out PP.out ?_)
    refine (copied_any o _ OK.out hs.1 hs.2).mono ?_
    rintro e w4 ⟨⟨o', rfl, hpp, hown⟩, hb4⟩
    have HP := hid hpp.out
    have HW := hid hown.out
    have Z4 := hid (Z3.out.below hb4)
    have B4 := hid (B3.out.trans (hb4.mono (by have := B3.out.size; omega)))
    clear hpp hown hb4
    have Z5 := hid (Z4.out.setRow o'.cs)
    have B5 := hid (below_setRow' B4.out (g := g0) (Nat.le_refl _) o'.cs)
    have HW5 : Hid (Own2 w3.heap.size (w4.setRow g0 o'.cs) o') := ⟨own_setRowT HW.out.n Z4.out (by decide), HW.out.nn, HW.out.ad, own_setRowT HW.out.t Z4.out (by decide), HW.out.tn, HW.out.oct⟩
    go_wp2_with (refine stOo o43 _ _ rfl rfl g0 o' HW.out.ad rfl rfl 54 Ov.zero adr_zeros Z4.out ?_)
    refine bodyPost_ret (resOoe o43 rfl _ _ g0 54 o' HW.out.ad _ rfl rfl Z5.out) rfl ?_
    unfold FindOk2
    exact ⟨.inr ⟨i, o', HI.out, rfl, by rw [HOO.out]; exact HY.out, HN.out, by rw [HOO.out]; exact HP.out, HW5.out.ok, HW5.out.mono B3.out.size⟩, by rw [hg0]; exact B5.out⟩
theorem optFind_any (a : Option Addr) (n cap : Nat) (L : List Ov) (ka : Option Addr) (kn kc : Nat) (ks : List Int) (w : World) (hL : Opts w a n cap L) (hk : Lies .i64 w ka kn kc ks) (hsm : ∀ o ∈ L, o.n.n ≤ 100000 ∧ o.t.n ≤ 100000) :
    Calls Tryd.prog 44 #[.slice a n cap, .slice ka kn kc] w (FindOk w ks L) := by
  refine (optFind2_any a n cap L ka kn kc ks w hL hk hsm).mono ?_
  rintro e w' ⟨h | ⟨i, o', h1, h2, h3, h4, h5, h6, _⟩, hb⟩
  · exact ⟨.inl h, hb⟩
  · exact ⟨.inr ⟨i, o', h1, h2, h3, h4, h5, h6⟩, hb⟩
/-- What is left. -/
def lft (ks : List Int) (P : List Po) : List Po := P.filter (fun p => !hitB ks p.k)
theorem lft_yes (ks : List Int) (P : List Po) (j : Nat) (hj : j < P.length) (h : hitB ks (P.getD j Po.none).k = false) : lft ks (P.take (j + 1)) = lft ks (P.take j) ++ [P.getD j Po.none] := by
  unfold lft
  rw [List.take_succ_eq_append_getElem hj, List.filter_append]
  simp [hj] at h ⊢
  simp [h]
theorem lft_no (ks : List Int) (P : List Po) (j : Nat) (hj : j < P.length) (h : hitB ks (P.getD j Po.none).k = true) : lft ks (P.take (j + 1)) = lft ks (P.take j) := by
  unfold lft
  rw [List.take_succ_eq_append_getElem hj, List.filter_append]
  simp [hj] at h ⊢
  simp [h]
/-- What Without tells. -/
def WithoutOk (w : World) (ks : List Int) (L : List Ov) (e : Ending) (w' : World) : Prop :=
  ∃ a' m cap' L', e = .returned (.slice a' m cap') ∧ Opts w' a' m cap' L' ∧ pos L' = lft ks (pos L) ∧ Below w.heap.size w w'
theorem ocs_snoc2 (L : List Ov) (o : Ov) : ocs (L ++ [o]) = ocs L ++ o.cs.toList := by simp [ocs]
end Go.Proofs.YtbfjkhafdkhhmaaDoor

namespace Go.Proofs.YtbfjkhafdkhhmaaDoor
open Go.ChangeShapes Go.WideShapes Go.ChangeAt Go.RowKit Go.Deep
set_option linter.unusedVariables false
set_option linter.unusedSimpArgs false

/-- One of many options, in a slice of its own. -/
theorem Opts.one {w : World} {b off : Nat} {n cap : Nat} {L : List Ov} (h : Opts w (some ⟨b, off, Option.none⟩) n cap L) (k : Nat) (hk : k < n) : Opts w (some ⟨b, off + k * 19, Option.none⟩) 1 (cap - k) [L.getD k Ov.zero] := by
  have h1 := h.le
  have h2 := h.max
  refine ⟨rfl, by omega, by omega, (fun h => by cases h), fun j hj => ?_, fun o ho => ?_⟩
  · obtain rfl : j = 0 := by omega
    obtain ⟨b', off', he, hp⟩ := h.cell k hk
    obtain ⟨rfl, rfl⟩ : b = b' ∧ off = off' := by have := Option.some.inj he; simpa using this
    exact ⟨b, off + k * 19, rfl, by simpa using hp⟩
  · rw [List.mem_singleton.1 ho]; exact h.at k hk
/-- The targets of options. -/
def tgts (P : List Po) : List Po := P.filter (fun p => hitB [5] p.k)
theorem tgts_yes (P : List Po) (j : Nat) (hj : j < P.length) (h : hitB [5] (P.getD j Po.none).k = true) : tgts (P.take (j + 1)) = tgts (P.take j) ++ [P.getD j Po.none] := by
  unfold tgts
  rw [List.take_succ_eq_append_getElem hj, List.filter_append]
  simp [hj] at h ⊢
  simp [h]
theorem tgts_no (P : List Po) (j : Nat) (hj : j < P.length) (h : hitB [5] (P.getD j Po.none).k = false) : tgts (P.take (j + 1)) = tgts (P.take j) := by
  unfold tgts
  rw [List.take_succ_eq_append_getElem hj, List.filter_append]
  simp [hj] at h ⊢
  simp [h]
/-- What Targets tells. -/
def TgOk (w : World) (L : List Ov) (e : Ending) (w' : World) : Prop :=
  ∃ a' m cap' L', e = .returned (.slice a' m cap') ∧ Hid (Opts w' a' m cap' L') ∧ Hid (pos L' = tgts (pos L)) ∧ m ≤ L.length ∧ Below w.heap.size w w'
set_option maxRecDepth 100000 in
set_option maxHeartbeats 1600000 in
theorem targets_any (m : Mv) (w : World) (hm : m.ok w) (hs : Sml m.L) (hn : m.on ≤ 1000) : Calls Tryd.prog 19 #[.agg m.cs] w (TgOk w m.L) := by
  have hz := zov
  have HS := hid hs
  have R1 := hid (Row.new w 29 m.cs)
  have B1 := hid (balloc (Below.refl w.heap.size w) (.cells m.cs 29))
  have HL := hid (hm.o.below B1.out)
  have ll := hid hm.o.len
  have HA := hid hm.ro
  have hcle := hm.o.le
  have hcm := hm.o.max
  unfold maxLen at hcm
  clear hm hs
  go_enter Tryd.func19, Tryd.ntmps19
  go_upto_region 1 with fail
  generalize hw1 : w.alloc (.cells m.cs 29) = w1 at *
  generalize hg1 : w.heap.size = g1 at *
  clear hw1
  have c27 := (R1.out.cell 27).trans (Mv.at27 HA.out)
  obtain ⟨ma, mn, mc, mL, e1, e2, e3, e4⟩ : ∃ ma mn mc mL, m.oa = ma ∧ m.on = mn ∧ m.oc = mc ∧ m.L = mL := ⟨_, _, _, _, rfl, rfl, rfl, rfl⟩
  rw [e1, e2, e3] at c27 HL
  rw [e4] at HL HS ll
  rw [e2] at hn ll hcle
  rw [e3] at hcle hcm
  have E1 := hid e1
  have E2 := hid e2
  have E3 := hid e3
  have E4 := hid e4
  clear e1 e2 e3 e4
  go_wp2_with fail
  go_loopw [3, 10] (fun v i wr => ∃ (j : Nat) (L' : List Ov), j ≤ mn ∧ i = .int .i64 j ∧ Hid (pos L' = tgts ((pos mL).take j)) ∧ Hid (L'.length ≤ j) ∧ Hid (wr.ownsRow w1.heap.size 54 19 v L'.length (ocs L')) ∧ Hid (∀ o ∈ L', Own2 w1.heap.size wr o) ∧ Hid (Below w1.heap.size w1 wr)) (fun _ i _ => mn - (intOf i).toNat)
  case atStart => exact ⟨0, [], Nat.zero_le _, rfl, rfl, Nat.zero_le _, World.ownsRow_nil _ _ _ _, (fun o ho => by cases ho), Below.refl _ _⟩
  case round =>
    obtain ⟨j, L', hj, rfl, HP, HLe, HO, HM, hb⟩ := hrel
    clear c27
    by_cases hlt : j < mn
    · have hlt' : (j : Int) < (mn : Int) := by omega
      have hj1 : (j : Int) + 1 ≤ (mc : Int) := by omega
      obtain ⟨b, off, rfl, hp⟩ := (HL.out.below hb.out).cell j hlt
      have hone := (HL.out.below hb.out).one j hlt
      have hjl : j < mL.length := by rw [ll.out]; exact hlt
      have hmem : mL.getD j Ov.zero ∈ mL := by simp [hjl]
      have hsm := HS.out _ hmem
      have HY := hid (tgts_yes (pos mL) j (by rw [pos_len]; exact hjl))
      have HN := hid (tgts_no (pos mL) j (by rw [pos_len]; exact hjl))
      rw [pos_at mL j hjl] at HY HN
      generalize mL.getD j Ov.zero = o at *
      have O1 := hid hone
      have RB := hid (R1.out.below hb.out)
      have c27 := (RB.out.cell 27).trans (Mv.at27 HA.out)
      rw [E1.out, E2.out, E3.out] at c27
      clear hp hone hmem hjl
      have BA := hid (balloc (Below.refl wr.heap.size wr) (.cells #[.int .i64 5] 3))
      have LK := hid (lies_new .i64 wr #[.int .i64 5] 3 [5] rfl (by simp))
      have O2 := hid (O1.out.below BA.out)
      go_wp2_with fail
      have B3 := hid (bthen hb.out BA.out)
      have W3 := hid (own_below HO.out BA.out)
      have M3 := hid (fun o ho => (HM.out o ho).below BA.out)
      generalize wr.alloc (.cells #[.int .i64 5] 3) = w3 at *
      generalize wr.heap.size = g3 at *
      clear BA O1 c27 HO HM hb RB
      refine (optFind2_any (some ⟨b, off + j * 19, none⟩) 1 (mc - j) [o] (some ⟨g3, 0, none⟩) 1 1 [5] _ O2.out LK.out (fun x hx => by rw [List.mem_singleton.1 hx]; exact hsm)).mono ?_
      rintro e w4 ⟨hf, hb4⟩
      have W4 := hid (own_below W3.out hb4)
      have M4 := hid (fun o ho => (M3.out o ho).below hb4)
      have B4 := hid (bthen B3.out hb4)
      have hs3 := B3.out.size
      clear hb4 W3 M3 O2 LK
      have hLe := HLe.out
      rcases hf with ⟨rfl, hno⟩ | ⟨i, o', hi, rfl, hyes, _, hpp, _, hown⟩
      · have hh : hitB [5] o.k = false := hno o (by simp)
        have RZ := hid (layOo_new w4 54 Ov.zero)
        have BZ := hid (layOo_below w4 54 Ov.zero)
        have HHN := hid (HN.out hh)
        clear hno hh
        go_upto_region 6 with (first | (refine stOo o43 _ _ rfl rfl w4.heap.size Ov.zero adr_zeros rfl rfl 54 Ov.zero adr_zeros (Row.new w4 54 _) ?_))
        have W5 := hid (own_below W4.out BZ.out)
        have M5 := hid (fun o ho => (M4.out o ho).below BZ.out)
        have B5 := hid (bthen B4.out BZ.out)
        generalize (w4.alloc (.cells Ov.zero.cs 54)).setRow w4.heap.size Ov.zero.cs = w5 at *
        go_wp2_with fail
        go_roundw
        case rel => exact ⟨j + 1, L', by omega, by go_num, by rw [Hid, HHN.out]; exact HP.out, Nat.le_succ_of_le HLe.out, W5.out, M5.out, B5.out⟩
        case measure => simp [intOf]; omega
      · obtain rfl : i = 0 := by simpa using hi
        have hh : hitB [5] o.k = true := hyes
        have HPP : Hid (o'.p = o.p) := hpp
        have HW := hid (hown.mono hs3)
        have HHY := hid (HY.out hh)
        clear hyes hpp hown hh hi
        have RZ := hid (layOo_new w4 54 o')
        have BZ := hid (layOo_below w4 54 o')
        go_upto_region 6 with (first | (refine stOo o43 _ _ rfl rfl w4.heap.size o' HW.out.ad rfl rfl 54 Ov.zero adr_zeros (Row.new w4 54 _) ?_))
        have W5 := hid (own_below W4.out BZ.out)
        have M5 := hid (fun o ho => (M4.out o ho).below BZ.out)
        have HW5 := hid (HW.out.below BZ.out)
        have B5 := hid (bthen B4.out BZ.out)
        generalize (w4.alloc (.cells Ov.zero.cs 54)).setRow w4.heap.size o'.cs = w5 at *
        generalize w4.heap.size = g4 at *
        clear W4 M4 HW B4 BZ
        have BA := hid (balloc (Below.refl w5.heap.size w5) (.cells o'.cs 54))
        have W6 := hid (W5.out.alloc (.cells o'.cs 54))
        have M6 := hid (fun o ho => (M5.out o ho).below BA.out)
        have HW6 := hid (HW5.out.below BA.out)
        have B6 := hid (bthen B5.out BA.out)
        have RX := hid (Row.new w5 54 o'.cs)
        go_wp2_with (first | (with_reducible refine wpl_id ?_; refine ldOo o43 _ rfl rfl _ _ rfl o' HW5.out.ad RZ.out.part ?_) | (refine bsO s23 rfl _ rfl o' HW5.out.ad rfl ?_) | (at_builtin; refine wpList_pushO s23 rfl _ _ rfl w1.heap.size _ w5.heap.size _ _ rfl W6.out o' HW5.out.ad rfl RX.out ?c1 ?c2 ?_))
        case c1 => exact B6.out.size
        case c2 => omega
        intro v7 w7 hown7 hg7
        have M7 := hid (fun o ho => (M6.out o ho).kept W6.out (by decide) (by decide) hg7)
        have HW7 := hid (HW6.out.kept W6.out (by decide) (by decide) hg7)
        have B7 := hid (Below.grown B6.out hg7 B6.out.size (fun j hj => (W6.out.lt j hj).1))
        have O7 := hid hown7
        clear hown7 hg7
        go_wp2_with fail
        go_roundw
        case rel =>
          refine ⟨j + 1, L' ++ [o'], by omega, by go_num, ?_, ?_, ?_, ?_, B7.out⟩
          · rw [Hid, HHY.out, ← HP.out]; simp [pos, HPP.out]
          · rw [Hid, List.length_append]; simp; exact HLe.out
          · rw [Hid, List.length_append, ocs_snoc2]; exact O7.out
          · intro x hx
            rcases List.mem_append.1 hx with h | h
            · exact M7.out x h
            · rw [List.mem_singleton.1 h]; exact HW7.out
        case measure => simp [intOf]; omega
    · obtain rfl : j = mn := by omega
      obtain ⟨va, vc, hv, hop⟩ := owns_opts HO.out (fun o ho => (HM.out o ho).ok)
      subst hv
      have HOP := hid hop
      rw [List.take_of_length_le (by rw [pos_len, ll.out]; exact Nat.le_refl _)] at HP
      clear hop
      go_wp2_with fail
      go_ret
      unfold TgOk
      refine ⟨va, L'.length, vc, L', rfl, HOP, by rw [E4.out]; exact HP, by rw [E4.out, ll.out]; exact HLe.out, ?_⟩
      rw [hg1]
      exact B1.out.trans (hb.out.mono (by rw [← hg1]; exact B1.out.size))
end Go.Proofs.YtbfjkhafdkhhmaaDoor

namespace Go.Proofs.YtbfjkhafdkhhmaaDoor
open Go.ChangeShapes Go.WideShapes Go.ChangeAt Go.RowKit Go.Deep
set_option linter.unusedVariables false
set_option linter.unusedSimpArgs false

def maysL : List ByteArray := [⟨#[48, 49, 55]⟩, ⟨#[48, 49, 50, 51, 52, 56]⟩, ⟨#[48, 49, 53, 54, 57]⟩, ⟨#[48, 49]⟩]
/-- A code's kinds as letters. -/
def mays (k : Nat) : ByteArray := maysL.getD k ⟨#[]⟩
theorem mays_at (k : Nat) (hk : k < 4) : (#[Value.string ⟨#[48, 49, 55]⟩, .string ⟨#[48, 49, 50, 51, 52, 56]⟩, .string ⟨#[48, 49, 53, 54, 57]⟩, .string ⟨#[48, 49]⟩] : Array Value)[k]? = some (.string (mays k)) :=
  match k, hk with
  | 0, _ => rfl
  | 1, _ => rfl
  | 2, _ => rfl
  | 3, _ => rfl
theorem mays_len : ∀ k, k < 4 → (mays k).size = (cki k).length ∧ (cki k).length ≤ 6 := by decide
theorem mays_ch' : ∀ k, k < 4 → ∀ i, i < (cki k).length → ((((mays k).data[i]?.getD 0).toNat : Nat) : Int) = (cki k).getD i 0 + 48 := by decide
theorem mays_ch (k : Nat) (hk : k < 4) (i : Nat) (h : i < (mays k).size) : ((((mays k)[i]'h).toNat : Nat) : Int) = (cki k).getD i 0 + 48 := by
  have h' : i < (mays k).data.size := h
  have e : (mays k)[i]'h = (mays k).data[i]'h' := rfl
  rw [e, ← mays_ch' k hk i (by rw [← (mays_len k hk).1]; exact h), Array.getElem?_eq_getElem h']; rfl
theorem cki_bd : ∀ k, k < 4 → ∀ x ∈ cki k, 0 ≤ x ∧ x ≤ 9 := by decide
theorem may_out {c k : Int} (h : codB c = false ∨ k < 0 ∨ 9 < k) : mayB c k = false := by
  rcases h with h | h
  · simp [mayB, h]
  · cases hc : codB c
    · simp [mayB, hc]
    · obtain ⟨j, rfl, hj⟩ := cod_nat hc
      simp only [mayB, hc, Bool.true_and, Int.toNat_natCast, decide_eq_false_iff_not]
      intro hm
      have := cki_bd j hj k hm
      omega
set_option maxHeartbeats 1600000 in
theorem refMay_any (c k : Int) (w : World) : Calls Tryd.prog 23 #[.int .i64 c, .int .i64 k] w fun e w' => e = .returned (.bool (mayB c k)) ∧ Below w.heap.size w w' := by
  have B0 := hid (balloc (Below.refl w.heap.size w) (.cells #[Value.string ⟨#[48, 49, 55]⟩, .string ⟨#[48, 49, 50, 51, 52, 56]⟩, .string ⟨#[48, 49, 53, 54, 57]⟩, .string ⟨#[48, 49]⟩] 49))
  have R0 := hid (Row.new w 49 #[Value.string ⟨#[48, 49, 55]⟩, .string ⟨#[48, 49, 50, 51, 52, 56]⟩, .string ⟨#[48, 49, 53, 54, 57]⟩, .string ⟨#[48, 49]⟩])
  by_cases h1 : c < 0
  · have e1 : decide (c < 0) = true := decide_eq_true h1
    have HV := hid (may_out (c := c) (k := k) (.inl (by simp [codB]; omega)))
    go_enter Tryd.func23, Tryd.ntmps23
    go_upto_region 2 with fail
    generalize w.alloc (.cells #[Value.string ⟨#[48, 49, 55]⟩, .string ⟨#[48, 49, 50, 51, 52, 56]⟩, .string ⟨#[48, 49, 53, 54, 57]⟩, .string ⟨#[48, 49]⟩] 49) = w1 at *
    go_wp2_with fail
    go_ret
    exact ⟨ret_bool HV.out.symm, B0.out⟩
  · have e1 : decide (c < 0) = false := decide_eq_false h1
    by_cases h2 : 3 < c
    · have e2 : decide (3 < c) = true := decide_eq_true h2
      have HV := hid (may_out (c := c) (k := k) (.inl (by simp [codB]; omega)))
      go_enter Tryd.func23, Tryd.ntmps23
      go_upto_region 2 with fail
      generalize w.alloc (.cells #[Value.string ⟨#[48, 49, 55]⟩, .string ⟨#[48, 49, 50, 51, 52, 56]⟩, .string ⟨#[48, 49, 53, 54, 57]⟩, .string ⟨#[48, 49]⟩] 49) = w1 at *
      go_wp2_with fail
      go_ret
      exact ⟨ret_bool HV.out.symm, B0.out⟩
    · have e2 : decide (3 < c) = false := decide_eq_false h2
      by_cases h3 : k < 0
      · have e3 : decide (k < 0) = true := decide_eq_true h3
        have HV := hid (may_out (c := c) (k := k) (.inr (.inl h3)))
        go_enter Tryd.func23, Tryd.ntmps23
        go_upto_region 2 with fail
        generalize w.alloc (.cells #[Value.string ⟨#[48, 49, 55]⟩, .string ⟨#[48, 49, 50, 51, 52, 56]⟩, .string ⟨#[48, 49, 53, 54, 57]⟩, .string ⟨#[48, 49]⟩] 49) = w1 at *
        go_wp2_with fail
        go_ret
        exact ⟨ret_bool HV.out.symm, B0.out⟩
      · have e3 : decide (k < 0) = false := decide_eq_false h3
        by_cases h4 : 9 < k
        · have e4 : decide (9 < k) = true := decide_eq_true h4
          have HV := hid (may_out (c := c) (k := k) (.inr (.inr h4)))
          go_enter Tryd.func23, Tryd.ntmps23
          go_upto_region 2 with fail
          generalize w.alloc (.cells #[Value.string ⟨#[48, 49, 55]⟩, .string ⟨#[48, 49, 50, 51, 52, 56]⟩, .string ⟨#[48, 49, 53, 54, 57]⟩, .string ⟨#[48, 49]⟩] 49) = w1 at *
          go_wp2_with fail
          go_ret
          exact ⟨ret_bool HV.out.symm, B0.out⟩
        · have e4 : decide (9 < k) = false := decide_eq_false h4
          obtain ⟨j, rfl⟩ : ∃ j : Nat, c = j := ⟨c.toNat, by omega⟩
          have hj : j < 4 := by omega
          have hj' : (j : Int) < 4 := by omega
          have e5 : decide (3 < j) = false := decide_eq_false (by omega)
          have HV : Hid (mayB j k = decide (k ∈ cki j)) := by rw [Hid, mayB, codB_nat hj]; simp
          have hsz := (mays_len j hj).1
          have hs6 := (mays_len j hj).2
          have HCh := hid (fun i h => mays_ch j hj i h)
          go_enter Tryd.func23, Tryd.ntmps23
          go_upto_region 2 with fail
          generalize w.alloc (.cells #[Value.string ⟨#[48, 49, 55]⟩, .string ⟨#[48, 49, 50, 51, 52, 56]⟩, .string ⟨#[48, 49, 53, 54, 57]⟩, .string ⟨#[48, 49]⟩] 49) = w1 at *
          have ck := (R0.out.cell j).trans (mays_at j hj)
          have HBD := hid (cki_bd j hj)
          generalize cki j = l at *
          have HSZ := hid hsz
          clear hsz
          have hsz2 : (mays j).size ≤ 6 := by rw [HSZ.out]; exact hs6
          go_wp2_with fail
          go_loop [6] (fun iv => ∃ i : Nat, i ≤ (mays j).size ∧ iv = .int .i64 i ∧ Hid (¬ k ∈ l.take i)) (fun i => (mays j).size - (intOf i).toNat)
          case atStart => exact ⟨0, Nat.zero_le _, rfl, by rw [Hid]; simp⟩
          case round =>
            obtain ⟨i, hi, rfl, hno⟩ := hrel
            by_cases hlt : i < (mays j).size
            · have hlt' : (i : Int) < ((mays j).size : Int) := by omega
              have hc := HCh.out i hlt
              have hil : i < l.length := by rw [← HSZ.out]; exact hlt
              have HM : Hid (l.getD i 0 ∈ l) := by rw [Hid]; simp [hil]
              have HN : Hid (¬ k = l.getD i 0 → ¬ k ∈ l.take (i + 1)) := not_mem_take hil hno.out
              have hb9 : 0 ≤ l.getD i 0 ∧ l.getD i 0 ≤ 9 := HBD.out _ HM.out
              generalize l.getD i 0 = z at *
              by_cases hz : z = k
              · have he : (z == k) = true := by simp [hz]
                have hb0 := hb9.1
                have HZ := hid hz
                clear hz
                go_wp2_with fail
                go_ret
                exact ⟨ret_bool (by rw [HV.out]; have := HM.out; rw [HZ.out] at this; simp [this]), B0.out⟩
              · have he : (z == k) = false := by simp [hz]
                have hb0 := hb9.1
                have HZ := hid (HN.out (fun e => hz e.symm))
                clear hz
                go_wp2_with fail
                go_round
                case rel => exact ⟨i + 1, by omega, by go_num, HZ⟩
                case measure => simp [intOf]; omega
            · obtain rfl : i = (mays j).size := by omega
              rw [HSZ.out, List.take_of_length_le (Nat.le_refl _)] at hno
              go_wp2_with fail
              go_ret
              exact ⟨ret_bool (by rw [HV.out]; simp [hno.out]), B0.out⟩
/-- The chapter's example. -/
def mex : Mv := ⟨2, 1, 0, 0, 0, 0, 0, 9, 0, false, true, zeros, none, 0, 0, []⟩
theorem mex_ok (w : World) : mex.ok w := ⟨adr_zeros, Opts.none w⟩
theorem built_mex : Tryd.prog.built 29 [(0, .int .i64 2), (1, .int .i64 1), (10, .bool true), (7, .int .i64 9)] = some mex.cs := by kernel_rfl
theorem bdMx {ops : Array Oper} {rest : List Oper} {o : Oper} {a : Act} {w : World} {Q : Exit → Act → World → Prop} (x0 x1 x2 x3 : Operand) (ho : o.op = .build 29 #[(0, x0), (1, x1), (10, x2), (7, x3)]) (hg : o.guard = none)
    (h0 : a.eval x0 = .int .i64 2) (h1 : a.eval x1 = .int .i64 1) (h2 : a.eval x2 = .bool true) (h3 : a.eval x3 = .int .i64 9)
    (hn : wpList Tryd.prog ops Q rest (a.put o.dst (.agg mex.cs)) w) : wpList Tryd.prog ops Q (o :: rest) a w :=
  wp_bd 29 _ ho hg mex.cs (by simp only [List.map_toArray, List.map_cons, List.map_nil, h0, h1, h2, h3]; exact built_mex) hn
theorem mex_enc : (eE mex.p, eL mex.p) = (0, [1, 128, 0, 9]) := by kernel_rfl
theorem mex_word : cwOf 3 = ⟨#[97, 99, 107]⟩ := by kernel_rfl
set_option maxHeartbeats 800000 in
theorem cLawKnown_any {B : Nat} (w : World) (hV : CV B w) : Calls Tryd.prog 13 #[] w fun e w' => e = .returned (.bool true) ∧ Below w.heap.size w w' := by
  have HV := hid hV
  clear hV
  go_enter Tryd.func13, Tryd.ntmps13
  go_wp2_with (refine bdMx _ _ _ _ rfl rfl rfl rfl rfl rfl ?_)
  refine (cEncode_any mex w (mex_ok w) HV.out (by decide)).mono ?_
  rintro x w1 ⟨⟨v, rfl, hown⟩, hb⟩
  have h1 : eE mex.p = 0 := congrArg Prod.fst mex_enc
  have h2 : eL mex.p = [1, 128, 0, 9] := congrArg Prod.snd mex_enc
  rw [h2] at hown
  rw [h1]
  obtain ⟨va, vc, rfl, hl, _⟩ := owns_lies hown.out
  have L1 : Hid (Lies .u8 w1 va 4 vc [1, 128, 0, 9]) := hid hl
  have B1 := hid hb
  have V1 := hid (HV.out.below hb)
  clear hown hb hl h1 h2 HV
  have L2 := hid (lies_lit .u8 w1 #[.int .u8 1, .int .u8 128, .int .u8 0, .int .u8 9] 5 [1, 128, 0, 9] 4 rfl rfl (by decide))
  have B2 := hid (balloc (Below.refl w1.heap.size w1) (.cells #[.int .u8 1, .int .u8 128, .int .u8 0, .int .u8 9] 5))
  go_wp2_with fail
  refine (same_any va _ 4 vc 4 4 [1, 128, 0, 9] [1, 128, 0, 9] _ (L1.out.below B2.out) L2.out).mono ?_
  rintro x w2 ⟨rfl, q, rfl⟩
  rw [show (([1, 128, 0, 9] : List Int) == [1, 128, 0, 9]) = true from rfl]
  have B3 := hid (bdrew (bthen B1.out B2.out) q)
  have V3 := hid ((V1.out.below B2.out).drewN q)
  generalize (w1.alloc (.cells #[.int .u8 1, .int .u8 128, .int .u8 0, .int .u8 9] 5)).drewN q = w3 at *
  go_wp2_with fail
  refine (cword_any 3 _ V3.out).mono ?_
  rintro x w4 ⟨rfl, rfl⟩
  rw [mex_word]
  go_wp2_with fail
  go_ret
  exact ⟨rfl, B3.out⟩
end Go.Proofs.YtbfjkhafdkhhmaaDoor

namespace Go.Proofs.YtbfjkhafdkhhmaaDoor
open Go.ChangeShapes Go.WideShapes Go.ChangeAt Go.RowKit Go.Deep
set_option linter.unusedVariables false
set_option linter.unusedSimpArgs false

set_option maxHeartbeats 400000 in
theorem equal39_len (a b : Option Addr) (n ca cb : Nat) (l m : List Int) (w : World) (ha : Lies .i64 w a n ca l) (hb : Lies .i64 w b n cb m) :
    Calls Tryd.prog 60 #[.slice a n ca, .slice b n cb] w fun e w' => e = .returned (.bool (l == m)) ∧ ∃ q, w' = w.drewN q := by
  obtain ⟨hl, hlc, hcm, _, hc⟩ := ha
  obtain ⟨hl2, hlc2, hcm2, _, hc2⟩ := hb
  unfold maxLen at hcm hcm2
  have HC : Hid _ := hc
  have HL : Hid (l.length = n) := hl
  have HC2 : Hid _ := hc2
  have HL2 : Hid (m.length = n) := hl2
  clear hc hl hc2 hl2
  go_enter Tryd.func60, Tryd.ntmps60
  go_wp2
  go_loopw [13] (fun i wr => ∃ k : Nat, k ≤ n ∧ i = .int .i64 k ∧ Hid (l.take k = m.take k) ∧ ∃ q, wr = w.drewN q) (fun i _ => n - (intOf i).toNat)
  case atStart => exact ⟨0, Nat.zero_le _, rfl, rfl, 0, rfl⟩
  case round =>
    obtain ⟨k, hk, rfl, hall, q, rfl⟩ := hrel
    by_cases hlt : k < n
    · obtain ⟨b1, off1, rfl, hcell1⟩ := HC.out k hlt
      obtain ⟨b2, off2, rfl, hcell2⟩ := HC2.out k hlt
      have HD : Hid (l.getD k 0 ≠ m.getD k 0 → (l == m) = false) := take_differ l m k (by rw [HL.out]; exact hlt) (by rw [HL2.out]; exact hlt)
      have HS : Hid (l.getD k 0 = m.getD k 0 → l.take (k + 1) = m.take (k + 1)) := take_same l m k (by rw [HL.out]; exact hlt) (by rw [HL2.out]; exact hlt) hall.out
      have hlt' : (k : Int) < (n : Int) := by omega
      generalize l.getD k 0 = x at *
      generalize m.getD k 0 = y at *
      go_wp2
      go_quiet (fail)
      by_cases hxy : x = y
      · have hb : (x != y) = false := by simp [hxy]
        have HX : Hid (x = y) := hxy
        clear hxy
        go_wp2
        go_roundw
        case rel => exact ⟨k + 1, by omega, by go_num, HS.out HX.out, q + nq, rfl⟩
        case measure => simp [intOf]; omega
      · have hb : (x != y) = true := by rw [bne_iff_ne]; exact hxy
        go_wp2
        go_ret
        exact ⟨ret_bool (HD.out hxy).symm, q + nq, World.drewN_drewN ..⟩
    · obtain rfl : k = n := by omega
      go_wp2
      go_ret
      refine ⟨ret_bool ?_, q, rfl⟩
      have h1 : l.take k = l := List.take_of_length_le (by rw [HL.out]; exact Nat.le_refl _)
      have h2 : m.take k = m := List.take_of_length_le (by rw [HL2.out]; exact Nat.le_refl _)
      have := hall.out
      rw [h1, h2] at this
      simp [this]
theorem equal39_any (a b : Option Addr) (la ca lb cb : Nat) (l m : List Int) (w : World) (ha : Lies .i64 w a la ca l) (hb : Lies .i64 w b lb cb m) :
    Calls Tryd.prog 60 #[.slice a la ca, .slice b lb cb] w fun e w' => e = .returned (.bool (l == m)) ∧ ∃ q, w' = w.drewN q := by
  by_cases h : la = lb
  · subst h; exact equal39_len a b la ca cb l m w ha hb
  · have hne : ((la : Int) != (lb : Int)) = true := by rw [bne_iff_ne]; omega
    have HE : Hid ((l == m) = false) := by
      rw [Hid, beq_eq_false_iff_ne]
      intro e; subst e
      exact h (ha.1.symm.trans hb.1)
    clear h ha hb
    go_enter Tryd.func60, Tryd.ntmps60
    go_wp2
    go_ret
    exact ⟨ret_bool HE.out.symm, 0, rfl⟩
set_option maxHeartbeats 400000 in
theorem equal40_len (a b : Option Addr) (n ca cb : Nat) (l m : List Int) (w : World) (ha : Lies .u8 w a n ca l) (hb : Lies .u8 w b n cb m) :
    Calls Tryd.prog 61 #[.slice a n ca, .slice b n cb] w fun e w' => e = .returned (.bool (l == m)) ∧ ∃ q, w' = w.drewN q := by
  obtain ⟨hl, hlc, hcm, _, hc⟩ := ha
  obtain ⟨hl2, hlc2, hcm2, _, hc2⟩ := hb
  unfold maxLen at hcm hcm2
  have HC : Hid _ := hc
  have HL : Hid (l.length = n) := hl
  have HC2 : Hid _ := hc2
  have HL2 : Hid (m.length = n) := hl2
  clear hc hl hc2 hl2
  go_enter Tryd.func61, Tryd.ntmps61
  go_wp2
  go_loopw [13] (fun i wr => ∃ k : Nat, k ≤ n ∧ i = .int .i64 k ∧ Hid (l.take k = m.take k) ∧ ∃ q, wr = w.drewN q) (fun i _ => n - (intOf i).toNat)
  case atStart => exact ⟨0, Nat.zero_le _, rfl, rfl, 0, rfl⟩
  case round =>
    obtain ⟨k, hk, rfl, hall, q, rfl⟩ := hrel
    by_cases hlt : k < n
    · obtain ⟨b1, off1, rfl, hcell1⟩ := HC.out k hlt
      obtain ⟨b2, off2, rfl, hcell2⟩ := HC2.out k hlt
      have HD : Hid (l.getD k 0 ≠ m.getD k 0 → (l == m) = false) := take_differ l m k (by rw [HL.out]; exact hlt) (by rw [HL2.out]; exact hlt)
      have HS : Hid (l.getD k 0 = m.getD k 0 → l.take (k + 1) = m.take (k + 1)) := take_same l m k (by rw [HL.out]; exact hlt) (by rw [HL2.out]; exact hlt) hall.out
      have hlt' : (k : Int) < (n : Int) := by omega
      generalize l.getD k 0 = x at *
      generalize m.getD k 0 = y at *
      go_wp2
      go_quiet (fail)
      by_cases hxy : x = y
      · have hb : (x != y) = false := by simp [hxy]
        have HX : Hid (x = y) := hxy
        clear hxy
        go_wp2
        go_roundw
        case rel => exact ⟨k + 1, by omega, by go_num, HS.out HX.out, q + nq, rfl⟩
        case measure => simp [intOf]; omega
      · have hb : (x != y) = true := by rw [bne_iff_ne]; exact hxy
        go_wp2
        go_ret
        exact ⟨ret_bool (HD.out hxy).symm, q + nq, World.drewN_drewN ..⟩
    · obtain rfl : k = n := by omega
      go_wp2
      go_ret
      refine ⟨ret_bool ?_, q, rfl⟩
      have h1 : l.take k = l := List.take_of_length_le (by rw [HL.out]; exact Nat.le_refl _)
      have h2 : m.take k = m := List.take_of_length_le (by rw [HL2.out]; exact Nat.le_refl _)
      have := hall.out
      rw [h1, h2] at this
      simp [this]
theorem equal40_any (a b : Option Addr) (la ca lb cb : Nat) (l m : List Int) (w : World) (ha : Lies .u8 w a la ca l) (hb : Lies .u8 w b lb cb m) :
    Calls Tryd.prog 61 #[.slice a la ca, .slice b lb cb] w fun e w' => e = .returned (.bool (l == m)) ∧ ∃ q, w' = w.drewN q := by
  by_cases h : la = lb
  · subst h; exact equal40_len a b la ca cb l m w ha hb
  · have hne : ((la : Int) != (lb : Int)) = true := by rw [bne_iff_ne]; omega
    have HE : Hid ((l == m) = false) := by
      rw [Hid, beq_eq_false_iff_ne]
      intro e; subst e
      exact h (ha.1.symm.trans hb.1)
    clear h ha hb
    go_enter Tryd.func61, Tryd.ntmps61
    go_wp2
    go_ret
    exact ⟨ret_bool HE.out.symm, 0, rfl⟩
/-- Are two options the same? -/
def Po.eqB (p q : Po) : Bool := p.k == q.k && (p.ad == q.ad && (p.n == q.n && p.t == q.t))
theorem Po.eqB_self (p : Po) : p.eqB p = true := by simp [Po.eqB]
theorem Po.eq_of {p q : Po} (h : p.eqB q = true) : p = q := by
  simp [Po.eqB] at h
  obtain ⟨h1, h2, h3, h4⟩ := h
  cases p; cases q; simp_all
set_option maxHeartbeats 1600000 in
theorem same1_any (o p : Ov) (w : World) (ho : o.ok w) (hp : p.ok w) :
    Calls Tryd.prog 59 #[.agg o.cs, .agg p.cs] w fun e w' => e = .returned (.bool (o.p.eqB p.p)) ∧ Below w.heap.size w w' := by
  have B0 := hid (balloc (balloc (Below.refl w.heap.size w) (.cells o.cs 54)) (.cells p.cs 54))
  have R0 := hid ((Row.new w 54 o.cs).alloc (.cells p.cs 54))
  have R1 := hid (Row.new (w.alloc (.cells o.cs 54)) 54 p.cs)
  have hs1 : (w.alloc (.cells o.cs 54)).heap.size = w.heap.size + 1 := World.size_alloc ..
  rw [hs1] at R1
  have O0 := hid (ho.below B0.out)
  have P0 := hid (hp.below B0.out)
  have HA := hid ho.ad
  have HB := hid hp.ad
  have hq := eq41 o.ad p.ad ho.ad.1 hp.ad.1
  have HF : Hid (o.p.eqB p.p = (o.k == p.k && (o.ad == p.ad && (o.n.l == p.n.l && o.t.l == p.t.l)))) := rfl
  have cN := hid (fun w' (hb : Below w.heap.size w w') => equal39_any o.n.a p.n.a o.n.n o.n.cap p.n.n p.n.cap o.n.l p.n.l w' (ho.n.below hb) (hp.n.below hb))
  have cT := hid (fun w' (hb : Below w.heap.size w w') => equal40_any o.t.a p.t.a o.t.n o.t.cap p.t.n p.t.cap o.t.l p.t.l w' (ho.t.below hb) (hp.t.below hb))
  generalize o.p.eqB p.p = fb at *
  clear ho hp hs1
  generalize hkk : (o.k == p.k) = kb at *
  generalize (o.ad == p.ad) = ab at *
  generalize (o.n.l == p.n.l) = nb at *
  generalize (o.t.l == p.t.l) = tb at *
  go_enter Tryd.func59, Tryd.ntmps59
  go_upto_region 1 with fail
  generalize hw1 : (w.alloc (.cells o.cs 54)).alloc (.cells p.cs 54) = w1 at *
  have a0 := (R0.out.cell 0).trans o.at0
  have b0 := (R1.out.cell 0).trans p.at0
  have a1 := (R0.out.cell 1).trans o.at1
  have b1 := (R1.out.cell 1).trans p.at1
  have a18 := (R0.out.cell 18).trans (Ov.at18 HA.out)
  have b18 := (R1.out.cell 18).trans (Ov.at18 HB.out)
  have PA := hid (R0.out.part.ovA HA.out)
  have PB := hid (R1.out.part.ovA HB.out)
  clear hw1
  cases kb
  · go_wp2_with fail
    go_ret
    exact ⟨ret_bool (by rw [HF.out]; rfl), B0.out⟩
  · cases ab
    · go_wp2_with (first | (refine ld41 _ rfl rfl _ _ rfl o.ad HA.out PA.out ?_) | (refine ld41 _ rfl rfl _ _ rfl p.ad HB.out PB.out ?_))
      go_ret
      exact ⟨ret_bool (by rw [HF.out]; rfl), B0.out⟩
    · go_wp2_with (first | (refine ld41 _ rfl rfl _ _ rfl o.ad HA.out PA.out ?_) | (refine ld41 _ rfl rfl _ _ rfl p.ad HB.out PB.out ?_))
      refine (cN.out _ B0.out).mono ?_
      rintro e w2 ⟨rfl, q, rfl⟩
      have B2 := hid (bdrew B0.out q)
      cases nb
      · go_wp2_with fail
        go_ret
        exact ⟨ret_bool (by rw [HF.out]; rfl), B2.out⟩
      · go_wp2_with fail
        refine (cT.out _ B2.out).mono ?_
        rintro e w3 ⟨rfl, q3, rfl⟩
        cases tb
        · go_wp2_with fail
          go_ret
          exact ⟨ret_bool (by rw [HF.out]; rfl), bdrew B0.out _⟩
        · go_wp2_with fail
          go_ret
          exact ⟨ret_bool (by rw [HF.out]; rfl), bdrew B0.out _⟩
end Go.Proofs.YtbfjkhafdkhhmaaDoor

namespace Go.Proofs.YtbfjkhafdkhhmaaDoor
open Go.ChangeShapes Go.WideShapes Go.ChangeAt Go.RowKit Go.Deep
set_option linter.unusedVariables false
set_option linter.unusedSimpArgs false

/-- Are the first ones the same? -/
def allTo (L M : List Po) (j : Nat) : Bool := (List.range j).all fun i => (L.getD i Po.none).eqB (M.getD i Po.none)
def allB (L M : List Po) : Bool := (L.length == M.length) && allTo L M L.length
theorem allTo_succ (L M : List Po) (j : Nat) : allTo L M (j + 1) = (allTo L M j && (L.getD j Po.none).eqB (M.getD j Po.none)) := by
  unfold allTo; rw [List.range_succ, List.all_append]; simp
theorem allTo_no (L M : List Po) (j n : Nat) (hj : j < n) (h : (L.getD j Po.none).eqB (M.getD j Po.none) = false) : allTo L M n = false := by
  unfold allTo; rw [List.all_eq_false]; exact ⟨j, by simpa using hj, by simpa using h⟩
theorem allB_self (L : List Po) : allB L L = true := by
  simp [allB, allTo, Po.eqB_self]
theorem allB_one (p q : Po) : allB [p] [q] = p.eqB q := by simp [allB, allTo, List.range_succ]
set_option maxRecDepth 100000 in
set_option maxHeartbeats 1600000 in
theorem equalFunc_any (a b : Option Addr) (n ca m cb : Nat) (L M : List Ov) (w : World) (hL : Opts w a n ca L) (hM : Opts w b m cb M) :
    Calls Tryd.prog 58 #[.slice a n ca, .slice b m cb, .func (.func 59) #[] #[]] w fun e w' => e = .returned (.bool (allB (pos L) (pos M))) ∧ Below w.heap.size w w' := by
  have hz := zov
  have k1 := Nat.le_trans hL.le hL.max
  have k2 := Nat.le_trans hM.le hM.max
  unfold maxLen at k1 k2
  have HL := hid hL
  have HM := hid hM
  have HF : Hid (allB (pos L) (pos M) = ((n == m) && allTo (pos L) (pos M) n)) := by rw [Hid, allB, pos_len, pos_len, hL.len, hM.len]
  have ll := hid hL.len
  have lm := hid hM.len
  clear hL hM
  generalize allB (pos L) (pos M) = fb at *
  by_cases hnm : n = m
  · subst hnm
    have HF : Hid (fb = allTo (pos L) (pos M) n) := by rw [Hid, HF.out]; simp
    go_enter Tryd.func58, Tryd.ntmps58
    go_wp2_with fail
    go_loopw [17] (fun i wr => ∃ j : Nat, j ≤ n ∧ i = .int .i64 j ∧ Hid (allTo (pos L) (pos M) j = true) ∧ Hid (Below w.heap.size w wr)) (fun i _ => n - (intOf i).toNat)
    case atStart => exact ⟨0, Nat.zero_le _, rfl, rfl, Below.refl _ _⟩
    case round =>
      obtain ⟨j, hj, rfl, hall, hb⟩ := hrel
      by_cases hlt : j < n
      · have hlt' : (j : Int) < (n : Int) := by omega
        obtain ⟨b1, off1, rfl, hp1⟩ := (HL.out.below hb.out).cell j hlt
        obtain ⟨b2, off2, rfl, hp2⟩ := (HM.out.below hb.out).cell j hlt
        have ok1 := (HL.out.below hb.out).at j hlt
        have ok2 := (HM.out.below hb.out).at j hlt
        have HS := hid (allTo_succ (pos L) (pos M) j)
        have HN := hid (allTo_no (pos L) (pos M) j n hlt)
        rw [pos_at L j (by rw [ll.out]; exact hlt), pos_at M j (by rw [lm.out]; exact hlt)] at HS HN
        generalize L.getD j Ov.zero = o at *
        generalize M.getD j Ov.zero = p at *
        have P1 := hid hp1
        have P2 := hid hp2
        have O1 := hid ok1
        have O2 := hid ok2
        have A1 := hid ok1.ad
        have A2 := hid ok2.ad
        clear hp1 hp2 ok1 ok2
        have Ra := hid (layOo_new wr 54 o)
        have Ba := hid (layOo_below wr 54 o)
        go_upto_region 6 with (first | (refine ldOo o43 _ rfl rfl _ _ rfl o A1.out P1.out ?_) | (refine stOo o43 _ _ rfl rfl wr.heap.size o A1.out rfl rfl 54 Ov.zero adr_zeros (Row.new wr 54 _) ?_))
        generalize hw2 : (wr.alloc (.cells Ov.zero.cs 54)).setRow wr.heap.size o.cs = w2 at *
        generalize hg1 : wr.heap.size = g1 at *
        have P3 := hid (Part.below P2.out (by rw [hg1]; exact Ba.out))
        have O3 := hid (O1.out.below (by rw [hg1]; exact Ba.out))
        have O4 := hid (O2.out.below (by rw [hg1]; exact Ba.out))
        have B3 := hid (bthen hb.out (by rw [hg1]; exact Ba.out))
        clear hw2 P1 P2 O1 O2
        have Rb := hid (layOo_new w2 54 p)
        have Bb := hid (layOo_below w2 54 p)
        have Rc := hid (Ra.out.below Bb.out)
        go_upto_region 7 with (first | (refine ldOo o43 _ rfl rfl _ _ rfl p A2.out P3.out ?_) | (refine stOo o43 _ _ rfl rfl w2.heap.size p A2.out rfl rfl 54 Ov.zero adr_zeros (Row.new w2 54 _) ?_))
        generalize hw3 : (w2.alloc (.cells Ov.zero.cs 54)).setRow w2.heap.size p.cs = w3 at *
        have O5 := hid (O3.out.below Bb.out)
        have O6 := hid (O4.out.below Bb.out)
        have B4 := hid (bthen B3.out Bb.out)
        generalize hg2 : w2.heap.size = g2 at *
        clear hw3 O3 O4 P3 hg1 hg2
        go_wp2_with (first | (refine ldOo o43 _ rfl rfl _ _ rfl o A1.out Rc.out.part ?_) | (refine ldOo o43 _ rfl rfl _ _ rfl p A2.out Rb.out.part ?_))
        refine (same1_any o p _ O5.out O6.out).mono ?_
        rintro e w4 ⟨rfl, hb4⟩
        have B5 := hid (bthen B4.out hb4)
        clear hb4
        cases hc : o.p.eqB p.p
        · rw [hc] at HN
          go_wp2_with fail
          go_ret
          exact ⟨ret_bool (by rw [HF.out]; exact (HN.out (by simp)).symm), B5.out⟩
        · rw [hc] at HS
          go_wp2_with fail
          go_roundw
          case rel => exact ⟨j + 1, by omega, by go_num, by rw [Hid, HS.out, hall.out]; rfl, B5.out⟩
          case measure => simp [intOf]; omega
      · obtain rfl : j = n := by omega
        go_wp2_with fail
        go_ret
        exact ⟨ret_bool (by rw [HF.out]; exact hall.out.symm), hb.out⟩
  · have hne : ((n : Int) != (m : Int)) = true := by rw [bne_iff_ne]; omega
    have HF : Hid (fb = false) := by rw [Hid, HF.out]; simp [hnm]
    clear hnm
    go_enter Tryd.func58, Tryd.ntmps58
    go_wp2_with fail
    go_ret
    exact ⟨ret_bool HF.out.symm, Below.refl _ _⟩
theorem oSame_any (a b : Option Addr) (n ca m cb : Nat) (L M : List Ov) (w : World) (hL : Opts w a n ca L) (hM : Opts w b m cb M) :
    Calls Tryd.prog 33 #[.slice a n ca, .slice b m cb] w fun e w' => e = .returned (.bool (allB (pos L) (pos M))) ∧ Below w.heap.size w w' := by
  have HL := hid hL
  have HM := hid hM
  clear hL hM
  go_enter Tryd.func33, Tryd.ntmps33
  go_wp2_with fail
  refine (equalFunc_any a b n ca m cb L M _ HL.out HM.out).mono ?_
  rintro e w' ⟨rfl, hb⟩
  go_wp2_with fail
  go_ret
  exact ⟨rfl, hb⟩
end Go.Proofs.YtbfjkhafdkhhmaaDoor
