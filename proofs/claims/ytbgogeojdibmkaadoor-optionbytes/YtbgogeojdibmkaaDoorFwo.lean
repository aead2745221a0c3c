/- Options of some kinds: Find, Without. -/
import Derived.Test.YtbgogeojdibmkaaDoorCpy
namespace Go.Proofs.YtbgogeojdibmkaaDoor
open Go.ChangeShapes Go.WideShapes Go.ChangeAt Go.RowKit Go.Deep
set_option linter.unusedVariables false
set_option linter.unusedSimpArgs false

/-- An option more, in a region whose order is fixed. -/
theorem wpList_pushO {ops : Array Oper} {rest : List Oper} {o : Oper} {a : Act} {w : World} {Q : Exit → Act → World → Prop} {ts t : TypeId} (hT : ST ts t) (hg : o.guard = none) (s y : Operand)
    (ho : o.op = .call { callee := .builtin .append, args := #[s, y], argTypes := #[ts, ts] }) (base m g : Nat) (v : Value) (xs : List Value) (hs : a.eval s = v) (hown : w.ownsRow base t 19 v m xs)
    (x : Ov) (hl : Adr x.ad) (hx : a.eval y = .slice (some ⟨g, 0, none⟩) 1 1) (hr : Row w g t x.cs) (hb : base ≤ w.heap.size) (hm : m ≤ 200000)
    (h : ∀ v' w', w'.ownsRow base t 19 v' (m + 1) (xs ++ x.cs.toList) → w.grownBy w' v.ownBlock → wpList Tryd.prog ops Q rest (a.put o.dst v') w') : wpList Tryd.prog ops Q (o :: rest) a w := by
  obtain ⟨ie, hi, hz, hz1, hz2⟩ := info_parts hT.ot.zero
  refine wpList_append_own w hg s y ts ho base t ie _ 19 72 hT.und hi hz hz1 hz2 cells_zero (by decide) v m xs hs hown ⟨g, 0, none⟩ 1 1 x.cs.toList hx (by rw [Array.length_toList, Ov.size hl]) (news_row hr) (one_list x) (by unfold maxLen; omega) (by omega) hb ?_
  intro v' w' h2 h3 _
  exact h v' w' h2 h3
/-- What Find tells. -/
def FindOk (w : World) (ks : List Int) (L : List Ov) (e : Ending) (w' : World) : Prop :=
  ((e = .returned (.tuple #[.agg Ov.zero.cs, .bool false]) ∧ ∀ o ∈ L, hitB ks o.k = false) ∨
    ∃ (i : Nat) (o' : Ov), i < L.length ∧ e = .returned (.tuple #[.agg o'.cs, .bool true]) ∧ hitB ks (L.getD i Ov.zero).k = true ∧ (∀ j, j < i → hitB ks (L.getD j Ov.zero).k = false) ∧ o'.p = (L.getD i Ov.zero).p ∧ o'.ok w') ∧ Below w.heap.size w w'
set_option maxRecDepth 100000 in
set_option maxHeartbeats 1600000 in
theorem find_any (a : Option Addr) (n cap : Nat) (L : List Ov) (ka : Option Addr) (kn kc : Nat) (ks : List Int) (w : World) (hL : Opts w a n cap L) (hk : Lies .i64 w ka kn kc ks) (hsm : ∀ o ∈ L, o.n.n ≤ 100000 ∧ o.t.n ≤ 100000) :
    Calls Tryd.prog 23 #[.slice a n cap, .slice ka kn kc] w (FindOk w ks L) := by
  have hz := zov
  have Z0 := hid (Row.new w 43 Ov.zero.cs)
  have B0 := hid (balloc (Below.refl w.heap.size w) (.cells Ov.zero.cs 43))
  have L0 := hid (hL.below B0.out)
  have K0 := hid (hk.below B0.out)
  have HS := hid hsm
  have ll := hid hL.len
  have k1 := Nat.le_trans hL.le hL.max
  unfold maxLen at k1
  clear hL hk hsm
  go_enter Tryd.func23, Tryd.ntmps23
  go_upto_region 1 with fail
  generalize hw1 : w.alloc (.cells Ov.zero.cs 43) = w1 at *
  generalize hg0 : w.heap.size = g0 at *
  clear hw1 hz
  go_wp2_with fail
  have C1 := hid (Row.new w1 35 #[.slice ka kn kc])
  have B1 := hid (balloc (Below.refl w1.heap.size w1) (.cells #[.slice ka kn kc] 35))
  refine (oneOf_any ka kn kc _).mono ?_
  rintro e w2 ⟨rfl, rfl⟩
  generalize hw2 : w1.alloc (.cells #[.slice ka kn kc] 35) = w2 at *
  have L2 := hid (L0.out.below B1.out)
  have K2 := hid (K0.out.below B1.out)
  have Z2 := hid (Z0.out.below B1.out)
  have BB := hid (B0.out.trans (B1.out.mono (B := w1.heap.size) (B' := g0) (by rw [← hg0]; exact B0.out.size)))
  have D2 := hid ((C1.out.cell 0).trans rfl)
  generalize hgk : w1.heap.size = gk at *
  clear hw2 L0 K0 Z0 C1
  go_wp2_with fail
  refine (indexFunc_any a n cap L gk ka kn kc ks _ L2.out D2.out K2.out).mono ?_
  rintro e w3 ⟨⟨r, rfl, hf⟩, hb3⟩
  have L3 := hid (L2.out.below hb3)
  have Z3 := hid (Z2.out.below hb3)
  have B3 := hid (BB.out.trans (hb3.mono (by have := BB.out.size; omega)))
  clear hb3 L2 Z2 K2 D2
  rcases hf with ⟨rfl, hno⟩ | ⟨i, hi, rfl, hyes, hno⟩
  · have HN := hid hno
    clear hno
    have Z4 := hid (Z3.out.setRow Ov.zero.cs)
    have B4 := hid (below_setRow' B3.out (g := g0) (Nat.le_refl _) Ov.zero.cs)
    go_wp2_with (first | (refine bdOz o43 rfl rfl ?_) | (refine stO o43 _ _ rfl rfl g0 Ov.zero adr_zeros rfl rfl 43 Ov.zero adr_zeros Z3.out ?_))
    refine bodyPost_ret (resOe o43 rfl _ _ g0 43 Ov.zero adr_zeros _ rfl rfl Z4.out) rfl ?_
    unfold FindOk
    exact ⟨.inl ⟨rfl, HN.out⟩, by rw [hg0]; exact B4.out⟩
  · have HY := hid hyes
    have HN := hid hno
    have hin : i < n := by rw [← ll.out]; exact hi
    have hin' : (i : Int) < (n : Int) := by omega
    have HI := hid hi
    obtain ⟨b, off, rfl, hp⟩ := L3.out.cell i hin
    have hok := L3.out.at i hin
    have hmem : L.getD i Ov.zero ∈ L := by simp [show i < L.length from hi]
    have hs := HS.out _ hmem
    generalize hoo : L.getD i Ov.zero = o at *
    have HOO := hid hoo
    have PP := hid hp
    have OK := hid hok
    have HA := hid hok.ad
    clear hp hok hmem hoo hyes hno hi
    have hneg : decide ((i : Int) < 0) = false := decide_eq_false (by omega)
    go_wp2_with (refine ldO o43 _ rfl rfl _ _ rfl o HA.out PP.out ?_)
    refine (copied_any o _ OK.out hs.1 hs.2).mono ?_
    rintro e w4 ⟨⟨o', rfl, hpp, hown⟩, hb4⟩
    have HP := hid hpp.out
    have HW := hid hown.out
    have Z4 := hid (Z3.out.below hb4)
    have B4 := hid (B3.out.trans (hb4.mono (by have := B3.out.size; omega)))
    clear hpp hown hb4
    have Z5 := hid (Z4.out.setRow o'.cs)
    have B5 := hid (below_setRow' B4.out (g := g0) (Nat.le_refl _) o'.cs)
    have HW5 : Hid (Own2 w3.heap.size (w4.setRow g0 o'.cs) o') := ⟨own_setRowT HW.out.n Z4.out (by decide), HW.out.nn, HW.out.ad, own_setRowT HW.out.t Z4.out (by decide), HW.out.tn, HW.out.oct⟩
    go_wp2_with (refine stO o43 _ _ rfl rfl g0 o' HW.out.ad rfl rfl 43 Ov.zero adr_zeros Z4.out ?_)
    refine bodyPost_ret (resOe o43 rfl _ _ g0 43 o' HW.out.ad _ rfl rfl Z5.out) rfl ?_
    unfold FindOk
    exact ⟨.inr ⟨i, o', HI.out, rfl, by rw [HOO.out]; exact HY.out, HN.out, by rw [HOO.out]; exact HP.out, HW5.out.ok⟩, by rw [hg0]; exact B5.out⟩
/-- What is left. -/
def lft (ks : List Int) (P : List Po) : List Po := P.filter (fun p => !hitB ks p.k)
theorem lft_yes (ks : List Int) (P : List Po) (j : Nat) (hj : j < P.length) (h : hitB ks (P.getD j Po.none).k = false) : lft ks (P.take (j + 1)) = lft ks (P.take j) ++ [P.getD j Po.none] := by
  unfold lft
  rw [List.take_succ_eq_append_getElem hj, List.filter_append]
  simp [hj] at h ⊢
  simp [h]
theorem lft_no (ks : List Int) (P : List Po) (j : Nat) (hj : j < P.length) (h : hitB ks (P.getD j Po.none).k = true) : lft ks (P.take (j + 1)) = lft ks (P.take j) := by
  unfold lft
  rw [List.take_succ_eq_append_getElem hj, List.filter_append]
  simp [hj] at h ⊢
  simp [h]
/-- What Without tells. -/
def WithoutOk (w : World) (ks : List Int) (L : List Ov) (e : Ending) (w' : World) : Prop :=
  ∃ a' m cap' L', e = .returned (.slice a' m cap') ∧ Opts w' a' m cap' L' ∧ pos L' = lft ks (pos L) ∧ Below w.heap.size w w'
theorem ocs_snoc2 (L : List Ov) (o : Ov) : ocs (L ++ [o]) = ocs L ++ o.cs.toList := by simp [ocs]
set_option maxRecDepth 100000 in
set_option maxHeartbeats 1600000 in
theorem without_any (a : Option Addr) (n cap : Nat) (L : List Ov) (ka : Option Addr) (kn kc : Nat) (ks : List Int) (w : World) (hL : Opts w a n cap L) (hk : Lies .i64 w ka kn kc ks) (hsm : ∀ o ∈ L, o.n.n ≤ 100000 ∧ o.t.n ≤ 100000) (hn1000 : n ≤ 1000) :
    Calls Tryd.prog 24 #[.slice a n cap, .slice ka kn kc] w (WithoutOk w ks L) := by
  have hz := zov
  have HS := hid hsm
  have ll := hid hL.len
  have HL := hid hL
  have HK := hid hk
  clear hL hk hsm
  have C1 := hid (Row.new w 35 #[.slice ka kn kc])
  have B1 := hid (balloc (Below.refl w.heap.size w) (.cells #[.slice ka kn kc] 35))
  go_enter Tryd.func24, Tryd.ntmps24
  go_wp2_with fail
  refine (oneOf_any ka kn kc _).mono ?_
  rintro e w1 ⟨rfl, rfl⟩
  generalize hw1 : w.alloc (.cells #[.slice ka kn kc] 35) = w1 at *
  have L1 := hid (HL.out.below B1.out)
  have K1 := hid (HK.out.below B1.out)
  have D1 := hid ((C1.out.cell 0).trans rfl)
  have hsz : w.heap.size ≤ w1.heap.size := B1.out.size
  generalize hgk : w.heap.size = gk at *
  clear hw1 HL HK C1
  go_wp2_with fail
  go_loopw [6, 13] (fun v i wr => ∃ (j : Nat) (L' : List Ov), j ≤ n ∧ i = .int .i64 j ∧ Hid (pos L' = lft ks ((pos L).take j)) ∧ Hid (L'.length ≤ j) ∧ Hid (wr.ownsRow w1.heap.size 43 19 v L'.length (ocs L')) ∧ Hid (∀ o ∈ L', Own2 w1.heap.size wr o) ∧ Hid (Below w1.heap.size w1 wr)) (fun _ i _ => n - (intOf i).toNat)
  case atStart => exact ⟨0, [], Nat.zero_le _, rfl, rfl, Nat.zero_le _, World.ownsRow_nil _ _ _ _, (fun o ho => by cases ho), Below.refl _ _⟩
  case round =>
    obtain ⟨j, L', hj, rfl, HP, HLe, HO, HM, hb⟩ := hrel
    by_cases hlt : j < n
    · have hlt' : (j : Int) < (n : Int) := by omega
      obtain ⟨b, off, rfl, hp⟩ := (L1.out.below hb.out).cell j hlt
      have hok := (L1.out.below hb.out).at j hlt
      have hjl : j < L.length := by rw [ll.out]; exact hlt
      have hmem : L.getD j Ov.zero ∈ L := by simp [hjl]
      have hs := HS.out _ hmem
      have HY := hid (lft_yes ks (pos L) j (by rw [pos_len]; exact hjl))
      have HN := hid (lft_no ks (pos L) j (by rw [pos_len]; exact hjl))
      rw [pos_at L j hjl] at HY HN
      generalize L.getD j Ov.zero = o at *
      have PP := hid hp
      have OK := hid hok
      have HA := hid hok.ad
      have K2 := hid (K1.out.below hb.out)
      have D2 := hid ((hb.out.cell (p := ⟨gk, 0, none⟩) (World.block_lt_of_cell? w1 _ D1.out)).trans D1.out)
      clear hp hok hmem hjl
      have Ra := hid (layO_new wr 43 o)
      have Ba := hid (layO_below wr 43 o)
      go_upto_region 6 with (first | (refine ldO o43 _ rfl rfl _ _ rfl o HA.out PP.out ?_) | (refine stO o43 _ _ rfl rfl wr.heap.size o HA.out rfl rfl 43 Ov.zero adr_zeros (Row.new wr 43 _) ?_))
      generalize hw2 : (wr.alloc (.cells Ov.zero.cs 43)).setRow wr.heap.size o.cs = w2 at *
      have O2 := hid (OK.out.below Ba.out)
      have K3 := hid (K2.out.below Ba.out)
      have D3 := hid ((Ba.out.cell (p := ⟨gk, 0, none⟩) (World.block_lt_of_cell? wr _ D2.out)).trans D2.out)
      have W2 := hid (own_below HO.out Ba.out)
      have M2 := hid (fun o ho => (HM.out o ho).below Ba.out)
      have B2 := hid (bthen hb.out Ba.out)
      generalize wr.heap.size = g1 at *
      clear hw2 PP OK K2 D2 HO HM
      go_wp2_with (refine ldO o43 _ rfl rfl _ _ rfl o HA.out Ra.out.part ?_)
      refine (oneOf1_any o gk ka kn kc ks _ D3.out K3.out).mono ?_
      rintro e w3 ⟨rfl, hb3⟩
      have Rb := hid (Ra.out.below hb3)
      have O3 := hid (O2.out.below hb3)
      have W3 := hid (own_below W2.out hb3)
      have M3 := hid (fun o ho => (M2.out o ho).below hb3)
      have B3 := hid (bthen B2.out hb3)
      clear hb3 O2 W2 M2 Ra
      have hLe := HLe.out
      cases hh : hitB ks o.k
      · go_wp2_with (refine ldO o43 _ rfl rfl _ _ rfl o HA.out Rb.out.part ?_)
        refine (copied_any o _ O3.out hs.1 hs.2).mono ?_
        rintro e w4 ⟨⟨o', rfl, hpp, hown⟩, hb4⟩
        have HPP := hid hpp.out
        have HW := hid (hown.out.mono B3.out.size)
        have W4 := hid (own_below W3.out hb4)
        have M4 := hid (fun o ho => (M3.out o ho).below hb4)
        have B4 := hid (bthen B3.out hb4)
        clear hpp hown hb4 W3 M3
        have BA := hid (balloc (Below.refl w4.heap.size w4) (.cells o'.cs 43))
        have W5 := hid (W4.out.alloc (.cells o'.cs 43))
        have M5 := hid (fun o ho => (M4.out o ho).below BA.out)
        have HW5 := hid (HW.out.below BA.out)
        have B5 := hid (bthen B4.out BA.out)
        have RX := hid (Row.new w4 43 o'.cs)
        go_wp2_with (first | (refine bsO s23 rfl _ rfl o' HW.out.ad rfl ?_) | (at_builtin; refine wpList_pushO s23 rfl _ _ rfl w1.heap.size _ w4.heap.size _ _ rfl W5.out o' HW.out.ad rfl RX.out ?c1 ?c2 ?_))
        case c1 => exact B5.out.size
        case c2 => omega
        intro v6 w6 hown6 hg6
        have M6 := hid (fun o ho => (M5.out o ho).kept W5.out (by decide) (by decide) hg6)
        have HW6 := hid (HW5.out.kept W5.out (by decide) (by decide) hg6)
        have B6 := hid (Below.grown B5.out hg6 B5.out.size (fun j hj => (W5.out.lt j hj).1))
        have O6 := hid hown6
        clear hown6 hg6
        go_wp2_with fail
        go_roundw
        case rel =>
          refine ⟨j + 1, L' ++ [o'], by omega, by go_num, ?_, ?_, ?_, ?_, B6.out⟩
          · rw [Hid, HY.out hh, ← HP.out]; simp [pos, HPP.out]
          · rw [Hid, List.length_append]; simp; exact HLe.out
          · rw [Hid, List.length_append, ocs_snoc2]; exact O6.out
          · intro x hx
            rcases List.mem_append.1 hx with h | h
            · exact M6.out x h
            · rw [List.mem_singleton.1 h]; exact HW6.out
        case measure => simp [intOf]; omega
      · go_wp2_with fail
        go_roundw
        case rel => exact ⟨j + 1, L', by omega, by go_num, by rw [Hid, HN.out hh]; exact HP.out, Nat.le_succ_of_le HLe.out, W3.out, M3.out, B3.out⟩
        case measure => simp [intOf]; omega
    · obtain rfl : j = n := by omega
      obtain ⟨va, vc, hv, hop⟩ := owns_opts HO.out (fun o ho => (HM.out o ho).ok)
      subst hv
      have HOP := hid hop
      rw [List.take_of_length_le (by rw [pos_len, ll.out]; exact Nat.le_refl _)] at HP
      clear hop
      go_wp2_with fail
      go_ret
      unfold WithoutOk
      refine ⟨va, L'.length, vc, L', rfl, HOP.out, HP.out, ?_⟩
      rw [hgk]
      exact B1.out.trans (hb.out.mono hsz)
end Go.Proofs.YtbgogeojdibmkaaDoor
