/- Options of some kinds: Find, Without. · Reading: where next stands. · Reading: next. · Reading: next, no kind. · Reading: next, a pad. -/
import Derived.Test.YtbgogeojdibmkaaDoorM7
import Derived.Test.YtbgogeojdibmkaaDoorFil
namespace Go.Proofs.YtbgogeojdibmkaaDoor
open Go.ChangeShapes Go.WideShapes Go.ChangeAt Go.RowKit Go.Deep
set_option linter.unusedVariables false
set_option linter.unusedSimpArgs false

/-- An option more, in a region whose order is fixed. -/
theorem wpList_pushO {ops : Array Oper} {rest : List Oper} {o : Oper} {a : Act} {w : World} {Q : Exit → Act → World → Prop} {ts t : TypeId} (hT : ST ts t) (hg : o.guard = none) (s y : Operand)
    (ho : o.op = .call { callee := .builtin .append, args := #[s, y], argTypes := #[ts, ts] }) (base m g : Nat) (v : Value) (xs : List Value) (hs : a.eval s = v) (hown : w.ownsRow base t 19 v m xs)
    (x : Ov) (hl : Adr x.ad) (hx : a.eval y = .slice (some ⟨g, 0, none⟩) 1 1) (hr : Row w g t x.cs) (hb : base ≤ w.heap.size) (hm : m ≤ 200000)
    (h : ∀ v' w', w'.ownsRow base t 19 v' (m + 1) (xs ++ x.cs.toList) → w.grownBy w' v.ownBlock → wpList Tryd.prog ops Q rest (a.put o.dst v') w') : wpList Tryd.prog ops Q (o :: rest) a w := by
  obtain ⟨ie, hi, hz, hz1, hz2⟩ := info_parts hT.ot.zero
  refine wpList_append_own w hg s y ts ho base t ie _ 19 72 hT.und hi hz hz1 hz2 cells_zero (by decide) v m xs hs hown ⟨g, 0, none⟩ 1 1 x.cs.toList hx (by rw [Array.length_toList, Ov.size hl]) (news_row hr) (one_list x) (by unfold maxLen; omega) (by omega) hb ?_
  intro v' w' h2 h3 _
  exact h v' w' h2 h3
/-- What Find tells. -/
def FindOk (w : World) (ks : List Int) (L : List Ov) (e : Ending) (w' : World) : Prop :=
  ((e = .returned (.tuple #[.agg Ov.zero.cs, .bool false]) ∧ ∀ o ∈ L, hitB ks o.k = false) ∨
    ∃ (i : Nat) (o' : Ov), i < L.length ∧ e = .returned (.tuple #[.agg o'.cs, .bool true]) ∧ hitB ks (L.getD i Ov.zero).k = true ∧ (∀ j, j < i → hitB ks (L.getD j Ov.zero).k = false) ∧ o'.p = (L.getD i Ov.zero).p ∧ o'.ok w') ∧ Below w.heap.size w w'
set_option maxRecDepth 100000 in
set_option maxHeartbeats 1600000 in
theorem find_any (a : Option Addr) (n cap : Nat) (L : List Ov) (ka : Option Addr) (kn kc : Nat) (ks : List Int) (w : World) (hL : Opts w a n cap L) (hk : Lies .i64 w ka kn kc ks) (hsm : ∀ o ∈ L, o.n.n ≤ 100000 ∧ o.t.n ≤ 100000) :
    Calls Tryd.prog 23 #[.slice a n cap, .slice ka kn kc] w (FindOk w ks L) := by
  have hz := zov
  have Z0 := hid (Row.new w 43 Ov.zero.cs)
  have B0 := hid (balloc (Below.refl w.heap.size w) (.cells Ov.zero.cs 43))
  have L0 := hid (hL.below B0.out)
  have K0 := hid (hk.below B0.out)
  have HS := hid hsm
  have ll := hid hL.len
  have k1 := Nat.le_trans hL.le hL.max
  unfold maxLen at k1
  clear hL hk hsm
  go_enter Tryd.func23, Tryd.ntmps23
  go_upto_region 1 with fail
  generalize hw1 : w.alloc (.cells Ov.zero.cs 43) = w1 at *
  generalize hg0 : w.heap.size = g0 at *
  clear hw1 hz
  go_wp2_with fail
  have C1 := hid (Row.new w1 35 #[.slice ka kn kc])
  have B1 := hid (balloc (Below.refl w1.heap.size w1) (.cells #[.slice ka kn kc] 35))
  refine (oneOf_any ka kn kc _).mono ?_
  rintro e w2 ⟨rfl, rfl⟩
  generalize hw2 : w1.alloc (.cells #[.slice ka kn kc] 35) = w2 at *
  have L2 := hid (L0.out.below B1.out)
  have K2 := hid (K0.out.below B1.out)
  have Z2 := hid (Z0.out.below B1.out)
  have BB := hid (B0.out.trans (B1.out.mono (B := w1.heap.size) (B' := g0) (by rw [← hg0]; exact B0.out.size)))
  have D2 := hid ((C1.out.cell 0).trans rfl)
  generalize hgk : w1.heap.size = gk at *
  clear hw2 L0 K0 Z0 C1
  go_wp2_with fail
  refine (indexFunc_any a n cap L gk ka kn kc ks _ L2.out D2.out K2.out).mono ?_
  rintro e w3 ⟨⟨r, rfl, hf⟩, hb3⟩
  have L3 := hid (L2.out.below hb3)
  have Z3 := hid (Z2.out.below hb3)
  have B3 := hid (BB.out.trans (hb3.mono (by have := BB.out.size; omega)))
  clear hb3 L2 Z2 K2 D2
  rcases hf with ⟨rfl, hno⟩ | ⟨i, hi, rfl, hyes, hno⟩
  · have HN := hid hno
    clear hno
    have Z4 := hid (Z3.out.setRow Ov.zero.cs)
    have B4 := hid (below_setRow' B3.out (g := g0) (Nat.le_refl _) Ov.zero.cs)
    go_wp2_with (first | (refine bdOz o43 rfl rfl ?_) | (refine stO o43 _ _ rfl rfl g0 Ov.zero adr_zeros rfl rfl 43 Ov.zero adr_zeros Z3.out ?_))
    refine bodyPost_ret (resOe o43 rfl _ _ g0 43 Ov.zero adr_zeros _ rfl rfl Z4.out) rfl ?_
    unfold FindOk
    exact ⟨.inl ⟨rfl, HN.out⟩, by rw [hg0]; exact B4.out⟩
  · have HY := hid hyes
    have HN := hid hno
    have hin : i < n := by rw [← ll.out]; exact hi
    have hin' : (i : Int) < (n : Int) := by omega
    have HI := hid hi
    obtain ⟨b, off, rfl, hp⟩ := L3.out.cell i hin
    have hok := L3.out.at i hin
    have hmem : L.getD i Ov.zero ∈ L := by simp [show i < L.length from hi]
    have hs := HS.out _ hmem
    generalize hoo : L.getD i Ov.zero = o at *
    have HOO := hid hoo
    have PP := hid hp
    have OK := hid hok
    have HA := hid hok.ad
    clear hp hok hmem hoo hyes hno hi
    have hneg : decide ((i : Int) < 0) = false := decide_eq_false (by omega)
    go_wp2_with (refine ldO o43 _ rfl rfl _ _ rfl o HA.out PP.out ?_)
    refine (copied_any o _ OK.out hs.1 hs.2).mono ?_
    rintro e w4 ⟨⟨o', rfl, hpp, hown⟩, hb4⟩
    have HP := hid hpp.out
    have HW := hid hown.out
    have Z4 := hid (Z3.out.below hb4)
    have B4 := hid (B3.out.trans (hb4.mono (by have := B3.out.size; omega)))
    clear hpp hown hb4
    have Z5 := hid (Z4.out.setRow o'.cs)
    have B5 := hid (below_setRow' B4.out (g := g0) (Nat.le_refl _) o'.cs)
    have HW5 : Hid (Own2 w3.heap.size (w4.setRow g0 o'.cs) o') := ⟨own_setRowT HW.out.n Z4.out (by decide), HW.out.nn, HW.out.ad, own_setRowT HW.out.t Z4.out (by decide), HW.out.tn, HW.out.oct⟩
    go_wp2_with (refine stO o43 _ _ rfl rfl g0 o' HW.out.ad rfl rfl 43 Ov.zero adr_zeros Z4.out ?_)
    refine bodyPost_ret (resOe o43 rfl _ _ g0 43 o' HW.out.ad _ rfl rfl Z5.out) rfl ?_
    unfold FindOk
    exact ⟨.inr ⟨i, o', HI.out, rfl, by rw [HOO.out]; exact HY.out, HN.out, by rw [HOO.out]; exact HP.out, HW5.out.ok⟩, by rw [hg0]; exact B5.out⟩
/-- What is left. -/
def lft (ks : List Int) (P : List Po) : List Po := P.filter (fun p => !hitB ks p.k)
theorem lft_yes (ks : List Int) (P : List Po) (j : Nat) (hj : j < P.length) (h : hitB ks (P.getD j Po.none).k = false) : lft ks (P.take (j + 1)) = lft ks (P.take j) ++ [P.getD j Po.none] := by
  unfold lft
  rw [List.take_succ_eq_append_getElem hj, List.filter_append]
  simp [hj] at h ⊢
  simp [h]
theorem lft_no (ks : List Int) (P : List Po) (j : Nat) (hj : j < P.length) (h : hitB ks (P.getD j Po.none).k = true) : lft ks (P.take (j + 1)) = lft ks (P.take j) := by
  unfold lft
  rw [List.take_succ_eq_append_getElem hj, List.filter_append]
  simp [hj] at h ⊢
  simp [h]
/-- What Without tells. -/
def WithoutOk (w : World) (ks : List Int) (L : List Ov) (e : Ending) (w' : World) : Prop :=
  ∃ a' m cap' L', e = .returned (.slice a' m cap') ∧ Opts w' a' m cap' L' ∧ pos L' = lft ks (pos L) ∧ Below w.heap.size w w'
theorem ocs_snoc2 (L : List Ov) (o : Ov) : ocs (L ++ [o]) = ocs L ++ o.cs.toList := by simp [ocs]
set_option maxRecDepth 100000 in
set_option maxHeartbeats 1600000 in
theorem without_any (a : Option Addr) (n cap : Nat) (L : List Ov) (ka : Option Addr) (kn kc : Nat) (ks : List Int) (w : World) (hL : Opts w a n cap L) (hk : Lies .i64 w ka kn kc ks) (hsm : ∀ o ∈ L, o.n.n ≤ 100000 ∧ o.t.n ≤ 100000) (hn1000 : n ≤ 1000) :
    Calls Tryd.prog 24 #[.slice a n cap, .slice ka kn kc] w (WithoutOk w ks L) := by
  have hz := zov
  have HS := hid hsm
  have ll := hid hL.len
  have HL := hid hL
  have HK := hid hk
  clear hL hk hsm
  have C1 := hid (Row.new w 35 #[.slice ka kn kc])
  have B1 := hid (balloc (Below.refl w.heap.size w) (.cells #[.slice ka kn kc] 35))
  go_enter Tryd.func24, Tryd.ntmps24
  go_wp2_with fail
  refine (oneOf_any ka kn kc _).mono ?_
  rintro e w1 ⟨rfl, rfl⟩
  generalize hw1 : w.alloc (.cells #[.slice ka kn kc] 35) = w1 at *
  have L1 := hid (HL.out.below B1.out)
  have K1 := hid (HK.out.below B1.out)
  have D1 := hid ((C1.out.cell 0).trans rfl)
  have hsz : w.heap.size ≤ w1.heap.size := B1.out.size
  generalize hgk : w.heap.size = gk at *
  clear hw1 HL HK C1
  go_wp2_with fail
  go_loopw [6, 13] (fun v i wr => ∃ (j : Nat) (L' : List Ov), j ≤ n ∧ i = .int .i64 j ∧ Hid (pos L' = lft ks ((pos L).take j)) ∧ Hid (L'.length ≤ j) ∧ Hid (wr.ownsRow w1.heap.size 43 19 v L'.length (ocs L')) ∧ Hid (∀ o ∈ L', Own2 w1.heap.size wr o) ∧ Hid (Below w1.heap.size w1 wr)) (fun _ i _ => n - (intOf i).toNat)
  case atStart => exact ⟨0, [], Nat.zero_le _, rfl, rfl, Nat.zero_le _, World.ownsRow_nil _ _ _ _, (fun o ho => by cases ho), Below.refl _ _⟩
  case round =>
    obtain ⟨j, L', hj, rfl, HP, HLe, HO, HM, hb⟩ := hrel
    by_cases hlt : j < n
    · have hlt' : (j : Int) < (n : Int) := by omega
      obtain ⟨b, off, rfl, hp⟩ := (L1.out.below hb.out).cell j hlt
      have hok := (L1.out.below hb.out).at j hlt
      have hjl : j < L.length := by rw [ll.out]; exact hlt
      have hmem : L.getD j Ov.zero ∈ L := by simp [hjl]
      have hs := HS.out _ hmem
      have HY := hid (lft_yes ks (pos L) j (by rw [pos_len]; exact hjl))
      have HN := hid (lft_no ks (pos L) j (by rw [pos_len]; exact hjl))
      rw [pos_at L j hjl] at HY HN
      generalize L.getD j Ov.zero = o at *
      have PP := hid hp
      have OK := hid hok
      have HA := hid hok.ad
      have K2 := hid (K1.out.below hb.out)
      have D2 := hid ((hb.out.cell (p := ⟨gk, 0, none⟩) (World.block_lt_of_cell? w1 _ D1.out)).trans D1.out)
      clear hp hok hmem hjl
      have Ra := hid (layO_new wr 43 o)
      have Ba := hid (layO_below wr 43 o)
      go_upto_region 6 with (first | (refine ldO o43 _ rfl rfl _ _ rfl o HA.out PP.out ?_) | (refine stO o43 _ _ rfl rfl wr.heap.size o HA.out rfl rfl 43 Ov.zero adr_zeros (Row.new wr 43 _) ?_))
      generalize hw2 : (wr.alloc (.cells Ov.zero.cs 43)).setRow wr.heap.size o.cs = w2 at *
      have O2 := hid (OK.out.below Ba.out)
      have K3 := hid (K2.out.below Ba.out)
      have D3 := hid ((Ba.out.cell (p := ⟨gk, 0, none⟩) (World.block_lt_of_cell? wr _ D2.out)).trans D2.out)
      have W2 := hid (own_below HO.out Ba.out)
      have M2 := hid (fun o ho => (HM.out o ho).below Ba.out)
      have B2 := hid (bthen hb.out Ba.out)
      generalize wr.heap.size = g1 at *
      clear hw2 PP OK K2 D2 HO HM
      go_wp2_with (refine ldO o43 _ rfl rfl _ _ rfl o HA.out Ra.out.part ?_)
      refine (oneOf1_any o gk ka kn kc ks _ D3.out K3.out).mono ?_
      rintro e w3 ⟨rfl, hb3⟩
      have Rb := hid (Ra.out.below hb3)
      have O3 := hid (O2.out.below hb3)
      have W3 := hid (own_below W2.out hb3)
      have M3 := hid (fun o ho => (M2.out o ho).below hb3)
      have B3 := hid (bthen B2.out hb3)
      clear hb3 O2 W2 M2 Ra
      have hLe := HLe.out
      cases hh : hitB ks o.k
      · go_wp2_with (refine ldO o43 _ rfl rfl _ _ rfl o HA.out Rb.out.part ?_)
        refine (copied_any o _ O3.out hs.1 hs.2).mono ?_
        rintro e w4 ⟨⟨o', rfl, hpp, hown⟩, hb4⟩
        have HPP := hid hpp.out
        have HW := hid (hown.out.mono B3.out.size)
        have W4 := hid (own_below W3.out hb4)
        have M4 := hid (fun o ho => (M3.out o ho).below hb4)
        have B4 := hid (bthen B3.out hb4)
        clear hpp hown hb4 W3 M3
        have BA := hid (balloc (Below.refl w4.heap.size w4) (.cells o'.cs 43))
        have W5 := hid (W4.out.alloc (.cells o'.cs 43))
        have M5 := hid (fun o ho => (M4.out o ho).below BA.out)
        have HW5 := hid (HW.out.below BA.out)
        have B5 := hid (bthen B4.out BA.out)
        have RX := hid (Row.new w4 43 o'.cs)
        go_wp2_with (first | (refine bsO s23 rfl _ rfl o' HW.out.ad rfl ?_) | (at_builtin; refine wpList_pushO s23 rfl _ _ rfl w1.heap.size _ w4.heap.size _ _ rfl W5.out o' HW.out.ad rfl RX.out ?c1 ?c2 ?_))
        case c1 => exact B5.out.size
        case c2 => omega
        intro v6 w6 hown6 hg6
        have M6 := hid (fun o ho => (M5.out o ho).kept W5.out (by decide) (by decide) hg6)
        have HW6 := hid (HW5.out.kept W5.out (by decide) (by decide) hg6)
        have B6 := hid (Below.grown B5.out hg6 B5.out.size (fun j hj => (W5.out.lt j hj).1))
        have O6 := hid hown6
        clear hown6 hg6
        go_wp2_with fail
        go_roundw
        case rel =>
          refine ⟨j + 1, L' ++ [o'], by omega, by go_num, ?_, ?_, ?_, ?_, B6.out⟩
          · rw [Hid, HY.out hh, ← HP.out]; simp [pos, HPP.out]
          · rw [Hid, List.length_append]; simp; exact HLe.out
          · rw [Hid, List.length_append, ocs_snoc2]; exact O6.out
          · intro x hx
            rcases List.mem_append.1 hx with h | h
            · exact M6.out x h
            · rw [List.mem_singleton.1 h]; exact HW6.out
        case measure => simp [intOf]; omega
      · go_wp2_with fail
        go_roundw
        case rel => exact ⟨j + 1, L', by omega, by go_num, by rw [Hid, HN.out hh]; exact HP.out, Nat.le_succ_of_le HLe.out, W3.out, M3.out, B3.out⟩
        case measure => simp [intOf]; omega
    · obtain rfl : j = n := by omega
      obtain ⟨va, vc, hv, hop⟩ := owns_opts HO.out (fun o ho => (HM.out o ho).ok)
      subst hv
      have HOP := hid hop
      rw [List.take_of_length_le (by rw [pos_len, ll.out]; exact Nat.le_refl _)] at HP
      clear hop
      go_wp2_with fail
      go_ret
      unfold WithoutOk
      refine ⟨va, L'.length, vc, L', rfl, HOP.out, HP.out, ?_⟩
      rw [hgk]
      exact B1.out.trans (hb.out.mono hsz)
end Go.Proofs.YtbgogeojdibmkaaDoor

namespace Go.Proofs.YtbgogeojdibmkaaDoor
open Go.ChangeShapes Go.WideShapes Go.ChangeAt Go.RowKit Go.Deep
set_option linter.unusedVariables false
set_option linter.unusedSimpArgs false

/-- The reader of Decode in memory. -/
structure NxAt (base : Nat) (w wr : World) (p c : Nat) (a : Option Addr) (len cap : Nat) (l : List Int) (at_ : Nat) (er : Int) (gv : Value) (L : List Ov) : Prop where
  r : Row wr p 72 #[.pointer (some ⟨c, 0, none⟩), gv]
  cur : CurAt wr c a len cap l at_ er
  win : wr.ownsRow base 5 1 (.slice a len cap) len (u8s l)
  got : wr.ownsRow base 43 19 gv L.length (ocs L)
  own : ∀ o ∈ L, Own2 base wr o
  below : Below base w wr
  hc : base ≤ c
  hp : base ≤ p
section
variable {base : Nat} {w wr w' : World} {p c : Nat} {a : Option Addr} {len cap : Nat} {l : List Int} {at_ : Nat} {er : Int} {gv : Value} {L : List Ov}
theorem NxAt.size (h : NxAt base w wr p c a len cap l at_ er gv L) : base ≤ wr.heap.size := Nat.le_of_lt (Nat.lt_of_le_of_lt h.hc h.cur.lt)
theorem NxAt.read (h : NxAt base w wr p c a len cap l at_ er gv L) {at2 : Nat} {er2 : Int} (hc : CurAt w' c a len cap l at2 er2) (hg : wr.grownBy w' (some c)) : NxAt base w w' p c a len cap l at2 er2 gv L :=
  ⟨h.r.kept hg (fun e => h.r.ne h.cur.row (by decide) (Option.some.inj e)), hc, h.win.kept hg (.inr (own_row h.win h.cur.row (by decide))), h.got.kept hg (.inr (own_row h.got h.cur.row (by decide))), fun o ho => (h.own o ho).row h.cur.row (by decide) (by decide) hg,
    Below.grown h.below hg h.size (fun k hk => by cases hk; exact h.hc), h.hc, h.hp⟩
theorem NxAt.on (h : NxAt base w wr p c a len cap l at_ er gv L) (hb : Below wr.heap.size wr w') : NxAt base w w' p c a len cap l at_ er gv L :=
  h.read (h.cur.below hb) ⟨hb.os, hb.tape, hb.output, hb.size, fun k hk _ => hb.block k hk⟩
theorem NxAt.drewN (h : NxAt base w wr p c a len cap l at_ er gv L) (q : Nat) : NxAt base w (wr.drewN q) p c a len cap l at_ er gv L := h.on (bdrew (Below.refl _ _) q)
/-- An option more is appended (world w'), and the list laid in. -/
theorem NxAt.app (h : NxAt base w wr p c a len cap l at_ er gv L) (hg : wr.grownBy w' gv.ownBlock) : Row w' p 72 #[.pointer (some ⟨c, 0, none⟩), gv] ∧ CurAt w' c a len cap l at_ er ∧ w'.ownsRow base 5 1 (.slice a len cap) len (u8s l) ∧ (∀ o ∈ L, Own2 base w' o) ∧ Below base w w' := by
  have hw := own_apart h.win h.got (by decide)
  refine ⟨h.r.kept hg (fun e => own_row h.got h.r (by decide) e.symm), h.cur.other (fun e => own_row h.got h.cur.row (by decide) e.symm) ?_ hg, h.win.kept hg hw, fun o ho => (h.own o ho).kept h.got (by decide) (by decide) hg, Below.grown h.below hg h.size (fun k hk => (h.got.lt k hk).1)⟩
  intro ad e
  rcases hw with hw | hw
  · rw [e] at hw; simp [Value.ownBlock] at hw
  · rw [e] at hw; exact hw
theorem NxAt.push (h : NxAt base w wr p c a len cap l at_ er gv L) (hg : wr.grownBy w' gv.ownBlock) (o : Ov) (ho : Own2 base wr o) (gv2 : Value) (hn : w'.ownsRow base 43 19 gv2 (L.length + 1) (ocs L ++ o.cs.toList)) :
    NxAt base w (w'.setCell ⟨p, 1, none⟩ gv2) p c a len cap l at_ er gv2 (L ++ [o]) := by
  obtain ⟨h1, h2, h3, h4, h5⟩ := h.app hg
  have hs := grownBy_setCell w' p 1 gv2
  have ho2 := ho.kept h.got (by decide) (by decide) hg
  have hown : ∀ x, Own2 base w' x → Own2 base (w'.setCell ⟨p, 1, none⟩ gv2) x := fun x hx => hx.row h1 (by decide) (by decide) hs
  refine ⟨h1.set 1 gv2, h2.other (fun e => h2.row.ne h1 (by decide) (Option.some.inj e)) (fun ad e => by have := own_row h3 h1 (by decide); rw [e] at this; exact this) hs, h3.kept hs (.inr (own_row h3 h1 (by decide))), ?_, ?_,
    Below.grown h5 hs (Nat.le_of_lt (Nat.lt_of_le_of_lt h.hp h1.lt)) (fun k hk => by cases hk; exact h.hp), h.hc, h.hp⟩
  · have := hn.kept hs (.inr (own_row hn h1 (by decide)))
    rw [List.length_append, ocs_snoc2]
    exact this
  · intro x hx
    rcases List.mem_append.1 hx with hx | hx
    · exact hown x (h4 x hx)
    · rw [List.mem_singleton.1 hx]; exact hown o ho2
end
/-- What is wrong behind one option more, what it is, and how many bytes it has. -/
def nxK (m : List Int) : Int := numOf (m.take 1)
def nxL (m : List Int) : Int := takeV 1 m 1 m.length 0
def nxE1 (m : List Int) : Int := rdE 1 1 (m.length - 1) 0
def nxE2 (m : List Int) : Int := rdE 1 (nxL m) (m.length - (1 + rdN 1 1 (m.length - 1) 0)) (nxE1 m)
def nxN2 (m : List Int) : Nat := rdN 1 (nxL m) (m.length - (1 + rdN 1 1 (m.length - 1) 0)) (nxE1 m)
def nxC (m : List Int) : List Int := (m.drop (1 + rdN 1 1 (m.length - 1) 0)).take (nxN2 m)
def nxP (m : List Int) : Po := if nxK m = 0 then ⟨0, [], zeros, []⟩ else filP (nxK m).toNat (nxC m) (nxE2 m)
def nxE (n : Nat) (m : List Int) : Int :=
  if n = 16 then 2 else if kndB (nxK m) = false then 6 else if nxK m = 0 then chkP (nxP m) else spE (spE (nxE2 m) (filE (nxK m).toNat (nxC m) (nxE2 m))) (chkP (nxP m))
def nxN (m : List Int) : Nat := if nxK m = 0 then 1 else 1 + rdN 1 1 (m.length - 1) 0 + nxN2 m
def NxOk (base : Nat) (w w' : World) (p c : Nat) (a : Option Addr) (len cap : Nat) (l : List Int) (at_ : Nat) (L : List Ov) : Prop :=
  ∃ at2 er2 gv2 L2, NxAt base w w' p c a len cap l at2 er2 gv2 L2 ∧ er2 = nxE L.length (l.drop at_) ∧ L2.length ≤ 16 ∧ (er2 = 0 → pos L2 = pos L ++ [nxP (l.drop at_)] ∧ at2 = at_ + nxN (l.drop at_))
end Go.Proofs.YtbgogeojdibmkaaDoor

namespace Go.Proofs.YtbgogeojdibmkaaDoor
open Go.ChangeShapes Go.WideShapes Go.ChangeAt Go.RowKit Go.Deep
set_option linter.unusedVariables false
set_option linter.unusedSimpArgs false

theorem wpl_id2 {P : Program} {ops : Array Oper} {Q : Exit → Act → World → Prop} {o : Oper} {rest : List Oper} {a : Act} {w : World} (h : wpList P ops Q (o :: rest) a w) : wpList P ops Q (o :: rest) a w := h
theorem take_1 (w : World) (c : Nat) (a : Option Addr) (len cap at_ : Nat) (l : List Int) (h : CurAt w c a len cap l at_ 0) (hn : at_ < len) :
    Calls Tryd.prog 51 #[.pointer (some ⟨c, 0, none⟩), .int .i64 1] w fun e w' => e = .returned (.int .i64 (nxK (l.drop at_))) ∧
      CurAt w' c a len cap l (at_ + 1) 0 ∧ w.grownBy w' (some c) ∧ w'.heap.size = w.heap.size := take_n w c a len cap at_ l 1 h (by decide) (by omega)
set_option maxRecDepth 100000 in
set_option maxHeartbeats 1600000 in
theorem next_full {B base : Nat} (w w0 : World) (p c : Nat) (a : Option Addr) (len cap : Nat) (l : List Int) (at_ : Nat) (gv : Value) (L : List Ov) (h : NxAt base w w0 p c a len cap l at_ 0 gv L) (hV : Vars B w0) (hB : B ≤ base) (hat : at_ < len) (hL : L.length ≤ 16) (h16 : L.length = 16) :
    Calls Tryd.prog 35 #[.pointer (some ⟨p, 0, none⟩)] w0 fun e w' => e = .returned (.tuple #[]) ∧ Hid (NxOk base w w' p c a len cap l at_ L) := by
  obtain ⟨ga, gc, rfl⟩ := owns_len h.got
  have H := hid h
  have HV := hid hV
  have p0 := h.r.cell 0
  have p1 := h.r.cell 1
  simp only [List.getElem?_toArray, List.getElem?_cons_zero, List.getElem?_cons_succ] at p0 p1
  have hlen := h.cur.lies.1
  have HE : Hid (nxE L.length (l.drop at_) = 2) := by simp [Hid, nxE, h16]
  rw [h16] at p1
  have H16 := hid h16
  clear h hV h16
  go_enter Tryd.func35, Tryd.ntmps35
  go_wp2_with fail
  refine (spoil_any _ c a len cap at_ l 0 2 H.out.cur).mono ?_
  rintro e w1 ⟨rfl, hc, hg, hs⟩
  have H1 := hid (H.out.read hc hg)
  clear hc hg hs
  go_wp2_with fail
  go_returns
  exact ⟨rfl, _, _, _, L, H1.out, by rw [HE.out]; rfl, hL, fun e => by cases e⟩
end Go.Proofs.YtbgogeojdibmkaaDoor

namespace Go.Proofs.YtbgogeojdibmkaaDoor
open Go.ChangeShapes Go.WideShapes Go.ChangeAt Go.RowKit Go.Deep
set_option linter.unusedVariables false
set_option linter.unusedSimpArgs false

set_option maxRecDepth 100000 in
set_option maxHeartbeats 400000 in
theorem next_kind {B base : Nat} (w w0 : World) (p c : Nat) (a : Option Addr) (len cap : Nat) (l : List Int) (at_ : Nat) (gv : Value) (L : List Ov) (h : NxAt base w w0 p c a len cap l at_ 0 gv L) (hV : Vars B w0) (hB : B ≤ base) (hat : at_ < len) (hL : L.length ≤ 16) (h16 : ¬ L.length = 16) (hk : kndB (nxK (l.drop at_)) = false) :
    Calls Tryd.prog 35 #[.pointer (some ⟨p, 0, none⟩)] w0 fun e w' => e = .returned (.tuple #[]) ∧ Hid (NxOk base w w' p c a len cap l at_ L) := by
  obtain ⟨ga, gc, rfl⟩ := owns_len h.got
  have H := hid h
  have HV := hid hV
  have p0 := h.r.cell 0
  have p1 := h.r.cell 1
  simp only [List.getElem?_toArray, List.getElem?_cons_zero, List.getElem?_cons_succ] at p0 p1
  have hlen := h.cur.lies.1
  have HE : Hid (nxE L.length (l.drop at_) = 6) := by simp [Hid, nxE, h16, hk]
  generalize hn : L.length = n at *
  have HN := hid hn
  have hn16 : ((n : Int) == 16) = false := by rw [beq_eq_false_iff_ne]; omega
  clear h hV hn
  go_enter Tryd.func35, Tryd.ntmps35
  go_wp2_with fail
  refine (take_1 _ c a len cap at_ l H.out.cur hat).mono ?_
  rintro e w1 ⟨rfl, hc, hg, hs⟩
  have H1 := hid (H.out.read hc hg)
  have HV1 := hid (HV.out.rd H.out.below H1.out.below hB H1.out.size)
  generalize hx : nxK (l.drop at_) = x at *
  have HX := hid hx
  clear hc hg hs hx
  have hz := zov
  have O2 := hid (layO_new w1 43 ⟨x, Txt.none, zeros, Txt.none⟩)
  have B2 := hid (layO_below w1 43 ⟨x, Txt.none, zeros, Txt.none⟩)
  go_simp
  rename_i hKK
  refine hKK _ _ ?_
  refine bdO1 o43 _ rfl rfl x rfl ?_
  simp only [Act.put, List.setIfInBounds_toArray, List.set_cons_zero, List.set_cons_succ]
  clear hKK
  have HXp : Hid (Ov.p ⟨x, Txt.none, zeros, Txt.none⟩ = ⟨x, [], zeros, []⟩) := rfl
  have HXk : Hid ((⟨x, Txt.none, zeros, Txt.none⟩ : Ov).k = x) := rfl
  have HXa : Hid (Adr (⟨x, Txt.none, zeros, Txt.none⟩ : Ov).ad) := adr_zeros
  have HXo : Hid (∀ b w, Own2 b w (⟨x, Txt.none, zeros, Txt.none⟩ : Ov)) := fun b w => ⟨World.ownsRow_nil _ _ _ _, rfl, adr_zeros, World.ownsRow_nil _ _ _ _, rfl, fun x hx => by cases hx⟩
  generalize hX : (⟨x, Txt.none, zeros, Txt.none⟩ : Ov) = X at *
  clear hX
  have q0 := (O2.out.cell 0).trans (Ov.at0 _)
  rw [HXk.out] at q0
  go_wp2_with ((refine stO o43 _ _ rfl rfl w1.heap.size X HXa.out rfl rfl 43 Ov.zero adr_zeros (Row.new w1 43 _) ?_))

  have H2 := hid (H1.out.on B2.out)
  have q1 := H2.out.r.cell 0
  simp only [List.getElem?_toArray, List.getElem?_cons_zero] at q1
  generalize (w1.alloc (.cells Ov.zero.cs 43)).setRow w1.heap.size X.cs = w2 at *
  generalize w1.heap.size = g at *
  refine (isKind_any x _).mono ?_
  rintro e w3 ⟨rfl, rfl⟩
  rw [hk]
  go_wp2_with fail
  refine (spoil_any _ c a len cap (at_ + 1) l 0 6 H2.out.cur).mono ?_
  rintro e w4 ⟨rfl, hc, hg, hs⟩
  have H4 := hid (H2.out.read hc hg)
  clear hc hg hs
  go_wp2_with fail
  go_returns
  exact ⟨rfl, _, _, _, L, H4.out, by rw [HN.out, HE.out]; rfl, by rw [HN.out]; exact hL, fun e => by cases e⟩
end Go.Proofs.YtbgogeojdibmkaaDoor

namespace Go.Proofs.YtbgogeojdibmkaaDoor
open Go.ChangeShapes Go.WideShapes Go.ChangeAt Go.RowKit Go.Deep
set_option linter.unusedVariables false
set_option linter.unusedSimpArgs false

set_option maxRecDepth 100000 in
set_option maxHeartbeats 1600000 in
theorem next_pad {B base : Nat} (w w0 : World) (p c : Nat) (a : Option Addr) (len cap : Nat) (l : List Int) (at_ : Nat) (gv : Value) (L : List Ov) (h : NxAt base w w0 p c a len cap l at_ 0 gv L) (hV : Vars B w0) (hB : B ≤ base) (hat : at_ < len) (hL : L.length ≤ 16) (h16 : ¬ L.length = 16) (hk : nxK (l.drop at_) = 0) :
    Calls Tryd.prog 35 #[.pointer (some ⟨p, 0, none⟩)] w0 fun e w' => e = .returned (.tuple #[]) ∧ Hid (NxOk base w w' p c a len cap l at_ L) := by
  obtain ⟨ga, gc, rfl⟩ := owns_len h.got
  have H := hid h
  have HV := hid hV
  have p0 := h.r.cell 0
  have p1 := h.r.cell 1
  simp only [List.getElem?_toArray, List.getElem?_cons_zero, List.getElem?_cons_succ] at p0 p1
  have hlen := h.cur.lies.1
  have HE : Hid (nxE L.length (l.drop at_) = chkP ⟨0, [], zeros, []⟩) := by rw [Hid, nxE, if_neg h16, if_neg (by rw [hk]; decide), if_pos hk, nxP, if_pos hk]
  have HK0 := hid hk
  clear hk
  generalize hn : L.length = n at *
  have HN := hid hn
  have hn16 : ((n : Int) == 16) = false := by rw [beq_eq_false_iff_ne]; omega
  clear h hV hn
  go_enter Tryd.func35, Tryd.ntmps35
  go_wp2_with fail
  refine (take_1 _ c a len cap at_ l H.out.cur hat).mono ?_
  rintro e w1 ⟨rfl, hc, hg, hs⟩
  have H1 := hid (H.out.read hc hg)
  have HV1 := hid (HV.out.rd H.out.below H1.out.below hB H1.out.size)
  generalize hx : nxK (l.drop at_) = x at *
  have HX := hid hx
  clear hc hg hs hx
  have hz := zov
  have O2 := hid (layO_new w1 43 ⟨x, Txt.none, zeros, Txt.none⟩)
  have B2 := hid (layO_below w1 43 ⟨x, Txt.none, zeros, Txt.none⟩)
  go_simp
  rename_i hKK
  refine hKK _ _ ?_
  refine bdO1 o43 _ rfl rfl x rfl ?_
  simp only [Act.put, List.setIfInBounds_toArray, List.set_cons_zero, List.set_cons_succ]
  clear hKK
  have HXp : Hid (Ov.p ⟨x, Txt.none, zeros, Txt.none⟩ = ⟨x, [], zeros, []⟩) := rfl
  have HXk : Hid ((⟨x, Txt.none, zeros, Txt.none⟩ : Ov).k = x) := rfl
  have HXa : Hid (Adr (⟨x, Txt.none, zeros, Txt.none⟩ : Ov).ad) := adr_zeros
  have HXo : Hid (∀ b w, Own2 b w (⟨x, Txt.none, zeros, Txt.none⟩ : Ov)) := fun b w => ⟨World.ownsRow_nil _ _ _ _, rfl, adr_zeros, World.ownsRow_nil _ _ _ _, rfl, fun x hx => by cases hx⟩
  generalize hX : (⟨x, Txt.none, zeros, Txt.none⟩ : Ov) = X at *
  clear hX
  have q0 := (O2.out.cell 0).trans (Ov.at0 _)
  rw [HXk.out] at q0
  go_wp2_with ((refine stO o43 _ _ rfl rfl w1.heap.size X HXa.out rfl rfl 43 Ov.zero adr_zeros (Row.new w1 43 _) ?_))

  have H2 := hid (H1.out.on B2.out)
  have HV2 := hid (HV1.out.below B2.out)
  have q1 := H2.out.r.cell 0
  simp only [List.getElem?_toArray, List.getElem?_cons_zero] at q1
  generalize (w1.alloc (.cells Ov.zero.cs 43)).setRow w1.heap.size X.cs = wz at *
  have HGn : Hid ((Value.slice ga n gc).ownBlock ≠ some w1.heap.size) := fun e => by have := (H1.out.got.lt _ e).2; omega
  generalize w1.heap.size = g at *
  refine (isKind_any x _).mono ?_
  rintro e w3 ⟨rfl, rfl⟩
  obtain rfl : x = 0 := HK0.out
  rw [show kndB 0 = true from rfl]
  go_wp2_with fail
  have N0 := H2
  have O0 := O2
  have V0 := HV2
  have W0 := hid (HXo.out base w3)
  have HGne : Hid ((Value.slice ga n gc).ownBlock ≠ some g) := HGn
  generalize hw3 : w3 = wz at *
  clear H2 O2 HV2 H1 HV1 B2 q1 q0
  generalize hat2 : at_ + 1 = at2 at *
  generalize her2 : (0 : Int) = er2 at N0
  refine wp_region_held_drew (S := fun w' => w'.cell? ⟨p, 0, none⟩ = some (.pointer (some ⟨c, 0, none⟩)) ∧ Hid (Row w' g 43 X.cs)) (by kernel_rfl) ?_ (fun hHeld => ?_)
  · exact ⟨N0.out.r.cell 0, O0.out⟩
  refine wpAnyH_take (i := 0) (oi := _) (v := ?va0) rfl (by kernel_rfl) (by kernel_rfl) (by kernel_rfl) (fun _ _ _ h => h) (Or.inl ⟨by rfl, ?hya0⟩) (by assumption) ?resta0
  case hya0 => (intro w hSw; (try dsimp only at hSw); go_split_ands; go_simp; try (with_reducible rfl))
  try simp only [List.getElem_toArray, List.getElem_cons_zero, List.getElem_cons_succ, Act.put, List.setIfInBounds_toArray, List.set_cons_zero, List.set_cons_succ]
  refine wpAnyH_take (i := 1) (oi := _) (v := ?va1) rfl (by kernel_rfl) (by kernel_rfl) (by kernel_rfl) (fun _ _ _ h => h) (Or.inl ⟨by rfl, ?hya1⟩) (by assumption) ?resta1
  case hya1 => (intro w hSw; (try dsimp only at hSw); go_split_ands; go_simp; try (with_reducible rfl))
  try simp only [List.getElem_toArray, List.getElem_cons_zero, List.getElem_cons_succ, Act.put, List.setIfInBounds_toArray, List.set_cons_zero, List.set_cons_succ]
  refine wpAnyH_take (i := 2) (oi := _) (v := ?va2) rfl (by kernel_rfl) (by kernel_rfl) (by kernel_rfl) (fun _ _ _ h => h) (Or.inl ⟨by rfl, ?hya2⟩) (by assumption) ?resta2
  case hya2 => (intro w hSw; (try dsimp only at hSw); go_split_ands; go_simp; try (with_reducible rfl))
  try simp only [List.getElem_toArray, List.getElem_cons_zero, List.getElem_cons_succ, Act.put, List.setIfInBounds_toArray, List.set_cons_zero, List.set_cons_succ]
  refine wpAnyH_take (i := 3) (oi := _) (v := ?va3) rfl (by kernel_rfl) (by kernel_rfl) (by kernel_rfl) (fun _ _ _ h => h) (Or.inl ⟨by rfl, ?hya3⟩) (by assumption) ?resta3
  case hya3 => (intro w hSw; (try dsimp only at hSw); go_split_ands; go_simp; try (with_reducible rfl))
  try simp only [List.getElem_toArray, List.getElem_cons_zero, List.getElem_cons_succ, Act.put, List.setIfInBounds_toArray, List.set_cons_zero, List.set_cons_succ]
  refine wpAnyH_take (i := 4) (oi := _) (v := .agg X.cs) rfl (by kernel_rfl) (by kernel_rfl) (by kernel_rfl) (fun _ _ _ h => h) (yldO o43 (by rfl) _ rfl g 0 rfl X HXa.out (fun w h => (h.2).out.part)) (by assumption) ?_
  try simp only [List.getElem_toArray, List.getElem_cons_zero, List.getElem_cons_succ, Act.put, List.setIfInBounds_toArray, List.set_cons_zero, List.set_cons_succ]
  refine wpAnyH_ready (rs := [5]) (by kernel_rfl) (by simp) ?_
  refine AllReadyH.cons (o := _) rfl (fun K hK => ?_) AllReadyH.nil
  go_simp
  refine (check_any X _ (W0.out.ok.drewN 1) (V0.out.drewN 1)).mono ?_
  rintro e w6 ⟨rfl, hb6⟩
  have bb := bthen (bdrew (Below.refl wz.heap.size wz) 1) hb6
  have N6 := hid (N0.out.on bb)
  have O6 := hid (O0.out.below bb)
  have W6 := hid (W0.out.below bb)
  have HCk : Hid (chkP X.p = chkP X.p) := rfl
  clear hb6 bb N0 O0 W0
  generalize hck : chkP X.p = ck at *
  have HCK := hid hck
  clear hck HCk
  go_wp2_with fail
  refine hK.out _ _ ⟨N6.out.r.cell 0, O6.out⟩ (fun hHeld => ?_)
  clear hK K
  try simp only [List.getElem_toArray, List.getElem_cons_zero, List.getElem_cons_succ, Act.put, List.setIfInBounds_toArray, List.set_cons_zero, List.set_cons_succ]
  refine wpAnyH_ready (rs := [6]) (by kernel_rfl) (by simp) ?_
  refine AllReadyH.cons (o := _) rfl (fun K hK => ?_) AllReadyH.nil
  go_simp
  refine (spoil_any _ c a len cap at2 l er2 ck N6.out.cur).mono ?_
  rintro e w7 ⟨rfl, hc, hg, hs⟩
  have N7 := hid (N6.out.read hc hg)
  have O7 := hid (O6.out.kept hg (fun e => O6.out.ne N6.out.cur.row (by decide) (Option.some.inj e)))
  have W7 := hid (W6.out.row N6.out.cur.row (by decide) (by decide) hg)
  clear hc hg hs N6 O6 W6
  go_wp2_with fail
  refine hK.out _ _ ⟨N7.out.r.cell 0, O7.out⟩ (fun hHeld => ?_)
  clear hK K
  try simp only [List.getElem_toArray, List.getElem_cons_zero, List.getElem_cons_succ, Act.put, List.setIfInBounds_toArray, List.set_cons_zero, List.set_cons_succ]
  refine wpAnyH_done (by kernel_rfl) ?_ _
  go_wp2_with fail

  refine wp_region_held_drew (S := fun w' => w'.cell? ⟨p, 0, none⟩ = some (.pointer (some ⟨c, 0, none⟩)) ∧ Hid (Row w' g 43 X.cs)) (by kernel_rfl) ?_ (fun hHeld => ?_)
  · exact ⟨N7.out.r.cell 0, O7.out⟩
  have S8 : Hid (Row w7.drew g 43 X.cs) := hid (O7.out.drewN 1)
  have N8a : Hid (NxAt base w w7.drew p c a len cap l at2 (spE er2 ck) (.slice ga n gc) L) := hid (N7.out.drewN 1)
  have W8a : Hid (Own2 base w7.drew X) := hid (W7.out.below (bdrew (Below.refl _ _) 1))
  clear N7 O7 W7
  generalize w7.drew = wd at *
  have O8a := S8
  refine wpAnyH_take (i := 0) (oi := _) (v := ?vb0) rfl (by kernel_rfl) (by kernel_rfl) (by kernel_rfl) (fun _ _ _ h => h) (Or.inl ⟨by rfl, ?hyb0⟩) (by assumption) ?restb0
  case hyb0 => (intro w hSw; (try dsimp only at hSw); go_split_ands; go_simp; try (with_reducible rfl))
  try simp only [List.getElem_toArray, List.getElem_cons_zero, List.getElem_cons_succ, Act.put, List.setIfInBounds_toArray, List.set_cons_zero, List.set_cons_succ]
  refine wpAnyH_take (i := 1) (oi := _) (v := ?vb1) rfl (by kernel_rfl) (by kernel_rfl) (by kernel_rfl) (fun _ _ _ h => h) (Or.inl ⟨by rfl, ?hyb1⟩) (by assumption) ?restb1
  case hyb1 => (intro w hSw; (try dsimp only at hSw); go_split_ands; go_simp; try (with_reducible rfl))
  try simp only [List.getElem_toArray, List.getElem_cons_zero, List.getElem_cons_succ, Act.put, List.setIfInBounds_toArray, List.set_cons_zero, List.set_cons_succ]
  refine wpAnyH_take (i := 2) (oi := _) (v := ?vb2) rfl (by kernel_rfl) (by kernel_rfl) (by kernel_rfl) (fun _ _ _ h => h) (Or.inl ⟨by rfl, ?hyb2⟩) (by assumption) ?restb2
  case hyb2 => (intro w hSw; (try dsimp only at hSw); go_split_ands; go_simp; try (with_reducible rfl))
  try simp only [List.getElem_toArray, List.getElem_cons_zero, List.getElem_cons_succ, Act.put, List.setIfInBounds_toArray, List.set_cons_zero, List.set_cons_succ]
  refine wpAnyH_take (i := 3) (oi := _) (v := ?vb3) rfl (by kernel_rfl) (by kernel_rfl) (by kernel_rfl) (fun _ _ _ h => h) (Or.inl ⟨by rfl, ?hyb3⟩) (by assumption) ?restb3
  case hyb3 => (intro w hSw; (try dsimp only at hSw); go_split_ands; go_simp; try (with_reducible rfl))
  try simp only [List.getElem_toArray, List.getElem_cons_zero, List.getElem_cons_succ, Act.put, List.setIfInBounds_toArray, List.set_cons_zero, List.set_cons_succ]
  refine wpAnyH_take (i := 5) (oi := _) (v := .agg X.cs) rfl (by kernel_rfl) (by kernel_rfl) (by kernel_rfl) (fun _ _ _ h => h) (yldO o43 (by rfl) _ rfl g 0 rfl X HXa.out (fun w h => (h.2).out.part)) (by assumption) ?_
  try simp only [List.getElem_toArray, List.getElem_cons_zero, List.getElem_cons_succ, Act.put, List.setIfInBounds_toArray, List.set_cons_zero, List.set_cons_succ]
  refine wpAnyH_ready (rs := [4, 6]) (by kernel_rfl) (by simp) ?_
  refine AllReadyH.cons (o := _) rfl (fun K hK => ?_) (AllReadyH.cons (o := _) rfl (fun K hK => ?_) AllReadyH.nil)
  · have cn : wd.cell? ⟨p, 1, none⟩ = some (.slice ga n gc) := (N8a.out.r.cell 1)
    go_simp
    go_wp2_with fail
    refine hK.out _ _ ⟨N8a.out.r.cell 0, S8.out⟩ (fun hHeld => ?_)
    clear hK K
    try simp only [List.getElem_toArray, List.getElem_cons_zero, List.getElem_cons_succ, Act.put, List.setIfInBounds_toArray, List.set_cons_zero, List.set_cons_succ]
    clear cn
    refine wpAnyH_ready (rs := [6]) (by kernel_rfl) (by simp) ?_
    refine AllReadyH.cons (o := _) rfl (fun K hK => ?_) AllReadyH.nil
    have BA := hid (balloc (Below.refl _ _) (.cells X.cs 43) : Below wd.heap.size wd (wd.alloc (.cells X.cs 43)))
    have N8 := hid (N8a.out.on BA.out)
    have O8 := hid (O8a.out.below BA.out)
    have W8 := hid (W8a.out.below BA.out)
    have RX : Hid (Row (wd.alloc (.cells X.cs 43)) wd.heap.size 43 X.cs) := hid (Row.new wd 43 X.cs)
    clear BA
    refine step_bsO s23 rfl _ rfl X HXa.out rfl ?_
    have S8 := O8
    refine hK.out _ _ ⟨N8.out.r.cell 0, S8.out⟩ (fun hHeld => ?_)
    clear hK K
    try simp only [List.getElem_toArray, List.getElem_cons_zero, List.getElem_cons_succ, Act.put, List.setIfInBounds_toArray, List.set_cons_zero, List.set_cons_succ]
    refine wpAnyH_ready (rs := [7]) (by kernel_rfl) (by simp) ?_
    refine AllReadyH.cons (o := _) rfl (fun K hK => ?_) AllReadyH.nil
    refine step_pushO s23 rfl _ _ rfl base n wd.heap.size (.slice ga n gc) (ocs L) rfl (by have := N8.out.got; rwa [HN.out] at this) X HXa.out rfl (by exact RX.out) (by exact N8.out.size) (by omega) ?_
    intro v4 w9 hown4 hg4
    obtain ⟨na, nc, rfl⟩ := owns_len hown4
    have N10 := hid (NxAt.push N8.out hg4 X W8.out (.slice na (n + 1) nc) (by rw [HN.out]; exact hown4))
    obtain ⟨g1, _, _, _, _⟩ := N8.out.app hg4
    have P9 := hid g1
    have O9 := hid (O8.out.kept hg4 (fun e => HGne.out e.symm))
    clear hown4 hg4 g1 N8 O8 W8 RX S8
    refine hK.out _ _ ⟨P9.out.cell 0, O9.out⟩ (fun hHeld => ?_)
    clear hK K
    try simp only [List.getElem_toArray, List.getElem_cons_zero, List.getElem_cons_succ, Act.put, List.setIfInBounds_toArray, List.set_cons_zero, List.set_cons_succ]
    have f1 := P9.out.frozen 1
    have cn : w9.cell? ⟨p, 1, none⟩ = some (.slice ga n gc) := P9.out.cell 1
    refine wpAnyH_take (i := 8) (oi := _) (v := ?vc8) rfl (by kernel_rfl) (by kernel_rfl) (by kernel_rfl) (fun _ _ _ h => h) (Or.inl ⟨by rfl, ?hyc8⟩) (by assumption) ?restc8
    case hyc8 => (intro w hSw; (try dsimp only at hSw); go_split_ands; go_simp; try (with_reducible rfl))
    try simp only [List.getElem_toArray, List.getElem_cons_zero, List.getElem_cons_succ, Act.put, List.setIfInBounds_toArray, List.set_cons_zero, List.set_cons_succ]
    refine wpAnyH_take (i := 9) (oi := _) (v := ?vc9) rfl (by kernel_rfl) (by kernel_rfl) (by kernel_rfl) (fun _ _ _ h => h) (Or.inl ⟨by rfl, ?hyc9⟩) (by assumption) ?restc9
    case hyc9 => (intro w hSw; (try dsimp only at hSw); go_split_ands; go_simp; try (with_reducible rfl))
    try simp only [List.getElem_toArray, List.getElem_cons_zero, List.getElem_cons_succ, Act.put, List.setIfInBounds_toArray, List.set_cons_zero, List.set_cons_succ]
    refine wpAnyH_ready (rs := [10]) (by kernel_rfl) (by simp) ?_
    refine AllReadyH.cons (o := _) rfl (fun K hK => ?_) AllReadyH.nil
    go_simp
    go_wp2_with fail
    refine hK.out _ _ ⟨(P9.out.set 1 _).cell 0, O9.out.other _ _ (O9.out.ne P9.out (by decide))⟩ (fun hHeld => ?_)
    clear hK K
    try simp only [List.getElem_toArray, List.getElem_cons_zero, List.getElem_cons_succ, Act.put, List.setIfInBounds_toArray, List.set_cons_zero, List.set_cons_succ]
    refine wpAnyH_done (by kernel_rfl) ?_ _
    go_wp2_with fail
    go_returns
    refine ⟨rfl, at2, _, _, L ++ [X], N10.out, ?_, ?_, ?_⟩
    · rw [HN.out, HE.out, ← HCK.out, HXp.out, ← her2]; rfl
    · rw [List.length_append, HN.out]; simp; omega
    · intro _
      refine ⟨?_, ?_⟩
      · rw [pos, List.map_append, nxP, if_pos HX.out, ← HXp.out]; rfl
      · rw [nxN, if_pos HX.out, hat2]

  · have BA := hid (balloc (Below.refl _ _) (.cells X.cs 43) : Below wd.heap.size wd (wd.alloc (.cells X.cs 43)))
    have N8 := hid (N8a.out.on BA.out)
    have O8 := hid (O8a.out.below BA.out)
    have W8 := hid (W8a.out.below BA.out)
    have RX : Hid (Row (wd.alloc (.cells X.cs 43)) wd.heap.size 43 X.cs) := hid (Row.new wd 43 X.cs)
    clear BA
    refine step_bsO s23 rfl _ rfl X HXa.out rfl ?_
    have S8 := O8
    refine hK.out _ _ ⟨N8.out.r.cell 0, S8.out⟩ (fun hHeld => ?_)
    clear hK K
    try simp only [List.getElem_toArray, List.getElem_cons_zero, List.getElem_cons_succ, Act.put, List.setIfInBounds_toArray, List.set_cons_zero, List.set_cons_succ]
    refine wpAnyH_ready (rs := [4]) (by kernel_rfl) (by simp) ?_
    refine AllReadyH.cons (o := _) rfl (fun K hK => ?_) AllReadyH.nil
    have cn : (wd.alloc (.cells X.cs 43)).cell? ⟨p, 1, none⟩ = some (.slice ga n gc) := (N8.out.r.cell 1)
    go_simp
    go_wp2_with fail
    refine hK.out _ _ ⟨N8.out.r.cell 0, S8.out⟩ (fun hHeld => ?_)
    clear hK K
    try simp only [List.getElem_toArray, List.getElem_cons_zero, List.getElem_cons_succ, Act.put, List.setIfInBounds_toArray, List.set_cons_zero, List.set_cons_succ]
    clear cn
    refine wpAnyH_ready (rs := [7]) (by kernel_rfl) (by simp) ?_
    refine AllReadyH.cons (o := _) rfl (fun K hK => ?_) AllReadyH.nil
    refine step_pushO s23 rfl _ _ rfl base n wd.heap.size (.slice ga n gc) (ocs L) rfl (by have := N8.out.got; rwa [HN.out] at this) X HXa.out rfl (by exact RX.out) (by exact N8.out.size) (by omega) ?_
    intro v4 w9 hown4 hg4
    obtain ⟨na, nc, rfl⟩ := owns_len hown4
    have N10 := hid (NxAt.push N8.out hg4 X W8.out (.slice na (n + 1) nc) (by rw [HN.out]; exact hown4))
    obtain ⟨g1, _, _, _, _⟩ := N8.out.app hg4
    have P9 := hid g1
    have O9 := hid (O8.out.kept hg4 (fun e => HGne.out e.symm))
    clear hown4 hg4 g1 N8 O8 W8 RX S8
    refine hK.out _ _ ⟨P9.out.cell 0, O9.out⟩ (fun hHeld => ?_)
    clear hK K
    try simp only [List.getElem_toArray, List.getElem_cons_zero, List.getElem_cons_succ, Act.put, List.setIfInBounds_toArray, List.set_cons_zero, List.set_cons_succ]
    have f1 := P9.out.frozen 1
    have cn : w9.cell? ⟨p, 1, none⟩ = some (.slice ga n gc) := P9.out.cell 1
    refine wpAnyH_take (i := 8) (oi := _) (v := ?vd8) rfl (by kernel_rfl) (by kernel_rfl) (by kernel_rfl) (fun _ _ _ h => h) (Or.inl ⟨by rfl, ?hyd8⟩) (by assumption) ?restd8
    case hyd8 => (intro w hSw; (try dsimp only at hSw); go_split_ands; go_simp; try (with_reducible rfl))
    try simp only [List.getElem_toArray, List.getElem_cons_zero, List.getElem_cons_succ, Act.put, List.setIfInBounds_toArray, List.set_cons_zero, List.set_cons_succ]
    refine wpAnyH_take (i := 9) (oi := _) (v := ?vd9) rfl (by kernel_rfl) (by kernel_rfl) (by kernel_rfl) (fun _ _ _ h => h) (Or.inl ⟨by rfl, ?hyd9⟩) (by assumption) ?restd9
    case hyd9 => (intro w hSw; (try dsimp only at hSw); go_split_ands; go_simp; try (with_reducible rfl))
    try simp only [List.getElem_toArray, List.getElem_cons_zero, List.getElem_cons_succ, Act.put, List.setIfInBounds_toArray, List.set_cons_zero, List.set_cons_succ]
    refine wpAnyH_ready (rs := [10]) (by kernel_rfl) (by simp) ?_
    refine AllReadyH.cons (o := _) rfl (fun K hK => ?_) AllReadyH.nil
    go_simp
    go_wp2_with fail
    refine hK.out _ _ ⟨(P9.out.set 1 _).cell 0, O9.out.other _ _ (O9.out.ne P9.out (by decide))⟩ (fun hHeld => ?_)
    clear hK K
    try simp only [List.getElem_toArray, List.getElem_cons_zero, List.getElem_cons_succ, Act.put, List.setIfInBounds_toArray, List.set_cons_zero, List.set_cons_succ]
    refine wpAnyH_done (by kernel_rfl) ?_ _
    go_wp2_with fail
    go_returns
    refine ⟨rfl, at2, _, _, L ++ [X], N10.out, ?_, ?_, ?_⟩
    · rw [HN.out, HE.out, ← HCK.out, HXp.out, ← her2]; rfl
    · rw [List.length_append, HN.out]; simp; omega
    · intro _
      refine ⟨?_, ?_⟩
      · rw [pos, List.map_append, nxP, if_pos HX.out, ← HXp.out]; rfl
      · rw [nxN, if_pos HX.out, hat2]


end Go.Proofs.YtbgogeojdibmkaaDoor
