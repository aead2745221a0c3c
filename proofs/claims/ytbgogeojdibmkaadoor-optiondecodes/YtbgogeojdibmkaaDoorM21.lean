/- The document's Decode: the walk. · The options that the document's answer takes: Of. · The chapter's examples. -/
import Derived.Test.YtbgogeojdibmkaaDoorM20
import Derived.Test.YtbgogeojdibmkaaDoorM7
namespace Go.Proofs.YtbgogeojdibmkaaDoor
open Go.ChangeShapes Go.WideShapes Go.ChangeAt Go.RowKit Go.Deep
set_option linter.unusedVariables false
set_option linter.unusedSimpArgs false

set_option maxRecDepth 1000000 in
set_option maxHeartbeats 3200000 in
theorem refDecode_any (a : Option Addr) (len cap : Nat) (l : List Int) (w : World) (h : Lies .u8 w a len cap l) (ho : Oct l) (hl : len ≤ 700) :
    Calls Tryd.prog 22 #[.slice a len cap] w (RdcOk w l) := by
  have hz := zov
  have HLl := hid h.1
  have HO := hid ho
  have R0 : Hid (RdcAt w w l len 0 len a cap 0 [] (.slice none 0 0)) := ⟨Nat.zero_add _, rfl, h, ⟨fun _ => by simp [pos], fun e => absurd rfl e⟩, World.ownsRow_nil _ _ _ _, fun o ho => (by cases ho), Below.refl _ _⟩
  clear h ho
  go_enter Tryd.func22, Tryd.ntmps22
  go_wp2_with fail
  go_loopw [0, 4] (fun bv v wr => ∃ (at_ m : Nat) (a2 : Option Addr) (cap2 n : Nat) (L : List Ov) (va : Option Addr) (vc : Nat), bv = .slice a2 m cap2 ∧ v = .slice va n vc ∧ n ≤ 16 ∧ m ≤ len ∧ Hid (RdcAt w wr l len at_ m a2 cap2 n L (.slice va n vc))) (fun bv _ _ => lenV bv)
  case atStart => exact ⟨0, len, a, cap, 0, [], none, 0, rfl, rfl, Nat.zero_le _, Nat.le_refl _, R0.out⟩
  case round =>
    obtain ⟨at_, m, a2, cap2, n, L, va, vc, rfl, rfl, hn16, hml, H⟩ := hrel
    have hmc := H.out.lies.2.1
    have hcm := H.out.lies.2.2.1
    unfold maxLen at hcm
    by_cases hm0 : m = 0
    · subst hm0
      go_wp2_with fail
      go_ret2
      have hat : at_ = l.length := by have := H.out.le; rw [HLl.out]; omega
      have hd : dec 0 l = (pos L, 0) := by
        have := H.out.dec.1 rfl
        rw [hat, List.drop_of_length_le (Nat.le_refl _), dec_nil] at this
        simpa using this
      refine ⟨.slice va n vc, L, by rw [hd]; rfl, H.out.below, by rw [H.out.nL]; exact H.out.own, H.out.mine, by rw [hd]; simp⟩
    · have hm1 : 0 < m := by omega
      obtain ⟨x, T, hM⟩ : ∃ x T, l.drop at_ = x :: T := by
        cases hc : l.drop at_ with
        | nil => have := H.out.lies.1; rw [hc] at this; simp at this; omega
        | cons x T => exact ⟨x, T, rfl⟩
      have HM := hid hM
      have hTl : T.length + 1 = m := by have := H.out.lies.1; rw [hM] at this; simpa using this
      obtain ⟨b, off, hab, hc0⟩ := (H.out.lies.below H.out.below).2.2.2.2 0 hm1
      rw [hM] at hc0
      have HOM : Hid (Oct (x :: T)) := by rw [Hid, ← hM]; exact fun y hy => HO.out y (List.mem_of_mem_drop hy)
      have hx := HOM.out x (by simp)
      rw [List.getD_cons_zero, Nat.add_zero] at hc0
      subst hab
      have HTl := hid hTl
      clear hM hTl hm0
      by_cases hn : n = 16
      · subst hn
        go_wp2_with fail
        go_ret2
        exact RdcOk.bad (by decide) (H.out.bad HLl.out hm1 (by decide) (by rw [nxE_full])) H.out.below
      · have h16 : ((n : Int) == 16) = false := by simp; omega
        have HN := hid hn
        clear hn
        go_wp2_with fail
        refine (parts_any x _).mono ?_
        rintro e w1 ⟨rfl, hb1⟩
        have hc1 := (H.out.lies.below (H.out.on hb1).below).2.2.2.2
        have H1 := hid (H.out.on hb1)
        cases hk : kndB x
        · have HLx : Hid (lets x = ⟨#[63]⟩) := by simp [Hid, lets, hk]
          have HE := hid (H1.out.bad HLl.out hm1 (x := 6) (by decide) (by rw [HM.out, nxE_kind _ _ HN.out (by rw [nxK_cons]; exact hk)]))
          rw [HLx.out]
          clear hk hb1 H hc1
          go_wp2_with fail
          go_ret2
          exact RdcOk.bad (by decide) HE.out H1.out.below
        · obtain ⟨k, rfl, hk10⟩ := knd_nat hk
          have HLx : Hid (lets k = chs k) := by rw [Hid, lets, hk, if_pos rfl]; rfl
          rw [HLx.out]
          have hne := chs_ne k hk10
          clear hk hb1 H
          by_cases hk0 : k = 0
          · subst hk0
            have HE : Hid (nxE n (l.drop at_) = 0 ∧ nxP (l.drop at_) = Ov.zero.p ∧ nxN (l.drop at_) = 1) := by
              obtain ⟨p1, p2, p3⟩ := nx_pad T
              rw [Hid, HM.out]; exact ⟨nxE_pad n T HN.out, p2, p3⟩
            clear hc1
            have BA := hid (balloc (Below.refl w1.heap.size w1) (.cells Ov.zero.cs 38))
            have H2 := hid (H1.out.on BA.out)
            have RX := hid (Row.new w1 38 Ov.zero.cs)
            have HZ0 : Hid (Adr Ov.zero.ad) := adr_zeros
            go_wp2_with (first | (refine bdOz o38 rfl rfl ?_) | (refine bsO s22 rfl _ rfl Ov.zero HZ0.out rfl ?_) | (at_builtin; refine wpList_pushO s22 rfl _ _ rfl w.heap.size _ w1.heap.size _ _ rfl H2.out.own Ov.zero HZ0.out rfl RX.out ?c1 ?c2 ?_))
            case c1 => exact H2.out.below.size
            case c2 => omega
            intro v3 w3 hown3 hg3
            obtain ⟨va3, vc3, rfl⟩ := owns_len hown3
            have HOW := hid hown3
            have HG := hid hg3
            clear hown3 hg3
            go_wp2_with ((with_reducible refine wpl_id ?_); refine wp_cutL rfl _ _ rfl (some ⟨b, off, none⟩) m cap2 1 1 rfl rfl rfl hm1 ?_)
            intro a4 h1 h2
            have H4 := hid (H2.out.push HLl.out hm1 HE.out.1 Ov.zero HE.out.2.1.symm (mine_zero _ _) 1 HE.out.2.2 hm1 HOW.out HG.out h1 h2)
            clear h1 h2
            go_wp2_with fail
            go_roundw
            case rel => exact ⟨at_ + 1, m - 1, a4, cap2 - 1, n + 1, _, va3, vc3, rfl, rfl, by have := HN.out; omega, by omega, H4.out⟩
            case measure => simp [lenV]; omega
          · have HK0 := hid hk0
            have hk0' : ((k : Int) == 0) = false := by simp [hk0]
            clear hk0
            have hM2 : T = [] ∨ ∃ y T2, T = y :: T2 := by
              cases T with
              | nil => exact .inl rfl
              | cons y T2 => exact .inr ⟨y, T2, rfl⟩
            rcases hM2 with hT | ⟨y, T2, hT⟩
            · have hm2 : m = 1 := by have := HTl.out; rw [hT] at this; simpa using this.symm
              have HE := hid (H1.out.bad HLl.out hm1 (x := 4) (by decide) (by rw [HM.out, hT]; exact nxE_cut n k _ HN.out hk10 HK0.out (nxK_cons _ _) (nx_none _)))
              subst hm2
              clear hT hc1
              go_wp2_with fail
              go_ret2
              exact RdcOk.bad (by decide) HE.out H1.out.below
            · have hTl2 : T2.length + 2 = m := by have := HTl.out; rw [hT] at this; simpa using this
              obtain ⟨b', off', hab', hcy⟩ := hc1 1 (by omega)
              cases hab'
              rw [HM.out, hT] at hcy
              have hcy2 : w1.cell? ⟨b, off + 1, none⟩ = some (.int .u8 y) := hcy
              have hy := HOM.out y (by rw [hT]; simp)
              obtain ⟨Y, rfl⟩ := Int.eq_ofNat_of_zero_le hy.1
              have HMy : Hid (l.drop at_ = (k : Int) :: (Y : Int) :: T2) := by rw [Hid, HM.out, hT]
              have HOT : Hid (Oct T2) := fun z hz => HOM.out z (by rw [hT]; simp [hz])
              have HT2 := hid hTl2
              have hm2 : ¬ (m : Int) < 2 := by omega
              clear hT hc1 hcy hTl2 HM HOM HTl
              by_cases hYm : (m : Int) - 2 < Y
              · have HE := hid (H1.out.bad HLl.out hm1 (x := 4) (by decide) (by rw [HMy.out]; exact nxE_cut n k _ HN.out hk10 HK0.out (nxK_cons _ _) (nx_cut _ _ _ (by omega) (by have := HT2.out; omega))))
                go_wp2_with fail
                go_ret2
                exact RdcOk.bad (by decide) HE.out H1.out.below
              · have hYT : Y ≤ T2.length := by have := HT2.out; omega
                have HF : Hid (nxE n (l.drop at_) = spE (filE k (T2.take Y) 0) (chkP (filP k (T2.take Y) 0)) ∧ nxP (l.drop at_) = filP k (T2.take Y) 0 ∧ nxN (l.drop at_) = 2 + Y) := by
                  have := nxE_long n k (Y : Int) T2 HN.out hk10 HK0.out (by omega) (by omega)
                  rw [Int.toNat_natCast] at this
                  rw [Hid, HMy.out]; exact this
                have HFo : Hid (Oct (T2.take Y)) := fun z hz => HOT.out z (List.mem_of_mem_take hz)
                have HFl : Hid ((T2.take Y).length = Y) := by rw [Hid, List.length_take]; omega
                have Q0 : Hid ((2 : Int) + (Y : Int) = ((2 + Y : Nat) : Int)) := by rw [Hid]; omega
                have Q1 : Hid (2 ≤ 2 + Y) := by rw [Hid]; omega
                have Q3 : Hid (2 + Y ≤ m) := by rw [Hid]; have := HT2.out; omega
                have Q2 : Hid (2 + Y ≤ cap2) := by rw [Hid]; have := Q3.out; omega
                have hY255 : Y ≤ 255 := by omega
                have hbw : Hid (b < w.heap.size) := by
                  obtain ⟨b', off', e, hc⟩ := H1.out.lies.2.2.2.2 0 hm1
                  cases e
                  exact World.block_lt_of_cell? w _ hc
                have hLS := fun a5 (h1 : ¬ cap2 = 2 → a5 = (some (⟨b, off, none⟩ : Addr)).map (·.add 2)) (h2 : cap2 = 2 → a5 = some ⟨b, off, none⟩) => H1.out.lies.cut 2 Y cap2 Q3.out Q2.out (Nat.le_refl _) h1 h2
                rw [HMy.out, show (((k : Int) :: (Y : Int) :: T2).drop 2) = T2 from rfl] at hLS
                have HLS := hid hLS
                generalize T2.take Y = F at *
                clear hLS hYT HT2 HOT
                have HZ0 : Hid (Adr Ov.zero.ad) := adr_zeros
                go_wp2_with ((with_reducible refine wpl_id ?_); refine wp_cutM rfl _ _ _ rfl (some ⟨b, off, none⟩) m cap2 2 (2 + Y) 2 (2 + (Y : Int)) rfl rfl rfl rfl Q0.out Q1.out Q2.out ?_)
                intro a5 h1 h2
                have LS := hid ((HLS.out a5 h1 h2).below H1.out.below)
                have HBK : Hid (∀ x, a5 = some x → x.block < w.heap.size) := fun x e => by
                  by_cases hc : cap2 = 2
                  · rw [h2 hc] at e; cases e; exact hbw.out
                  · rw [h1 hc] at e; simp at e; rw [← e]; exact hbw.out
                clear h1 h2
                go_wp2_with fail
                refine (body_any k hk10 HK0.out a5 Y (cap2 - 2) F _ LS.out HFo.out (by omega)).mono ?_
                rintro e w5 ⟨o, ok, rfl, hmi, hsrc, hb5, hiff, himp⟩
                have H5 := hid (H1.out.on hb5)
                have M5 := hid (hmi.base H1.out.below (fun x e hx => HBK.out x ((hsrc hx).symm.trans e)))
                have HA := hid hmi.ad
                have HIf := hid hiff
                have HIm := hid himp
                have RB := hid (layO_new w5 38 o)
                have BB := hid (layO_below w5 38 o)
                clear hmi hsrc hb5 hiff himp H1 LS
                go_upto_region 15 with (first | (refine stO o38 _ _ rfl rfl w5.heap.size o HA.out rfl rfl 38 Ov.zero HZ0.out (Row.new w5 38 _) ?_))
                have H6 := hid (H5.out.on BB.out)
                have M6 := hid (M5.out.below BB.out)
                clear H5 M5 BB
                generalize (w5.alloc (.cells Ov.zero.cs 38)).setRow w5.heap.size o.cs = w6 at *
                generalize w5.heap.size = g at *
                cases ok
                · have hf : filE k F 0 ≠ 0 := fun e => by have := HIf.out.2 e; cases this
                  have HE := hid (H6.out.bad HLl.out hm1 (x := 3) (by decide) (by rw [HF.out.1, fil_03 k F hf]; rfl))
                  clear hf
                  go_wp2_with fail
                  go_ret2
                  exact RdcOk.bad (by decide) HE.out H6.out.below
                · have HE0 : Hid (filE k F 0 = 0) := HIf.out.1 rfl
                  have HOP : Hid (o.p = filP k F 0) := HIm.out rfl
                  have HNE : Hid (nxE n (l.drop at_) = chkP o.p) := by rw [Hid, HF.out.1, HE0.out, spE_0, HOP.out]
                  have OK6 := hid (M6.out.ok H6.out.below)
                  have WF : Hid (∀ x ∈ o.n.l, (Lit.int .i64 x).wf = true) := by
                    have := fil_wf hk10 F HFo.out (by rw [HFl.out]; omega)
                    rw [← HOP.out] at this; exact this
                  go_wp2_with ((with_reducible refine wpl_id ?_); refine ldO o38 _ rfl rfl g 0 rfl o HA.out RB.out.part ?_)
                  refine (refCheck_any o _ OK6.out WF.out).mono ?_
                  rintro e w7 ⟨rfl, hb7⟩
                  have H7 := hid (H6.out.on hb7)
                  have M7 := hid (M6.out.below hb7)
                  have R7 := hid (RB.out.below hb7)
                  clear hb7 H6 M6 RB OK6
                  by_cases hc : chkP o.p = 0
                  · have HC := hid hc
                    rw [hc]
                    clear hc
                    have BA := hid (balloc (Below.refl w7.heap.size w7) (.cells o.cs 38))
                    have H8 := hid (H7.out.on BA.out)
                    have M8 := hid (M7.out.below BA.out)
                    have RX := hid (Row.new w7 38 o.cs)
                    go_wp2_with (first | ((with_reducible refine wpl_id ?_); refine ldO o38 _ rfl rfl g 0 rfl o HA.out R7.out.part ?_) | (refine bsO s22 rfl _ rfl o HA.out rfl ?_) | (at_builtin; refine wpList_pushO s22 rfl _ _ rfl w.heap.size _ w7.heap.size _ _ rfl H8.out.own o HA.out rfl RX.out ?c1 ?c2 ?_))
                    case c1 => exact H8.out.below.size
                    case c2 => omega
                    intro v3 w9 hown3 hg3
                    obtain ⟨va3, vc3, rfl⟩ := owns_len hown3
                    have HOW := hid hown3
                    have HG := hid hg3
                    clear hown3 hg3
                    go_wp2_with ((with_reducible refine wpl_id ?_); refine wp_cutL rfl _ _ rfl (some ⟨b, off, none⟩) m cap2 (2 + Y) (2 + (Y : Int)) rfl rfl Q0.out Q3.out ?_)
                    intro a4 h1 h2
                    have H9 := hid (H8.out.push HLl.out hm1 (by rw [HNE.out, HC.out]) o (by rw [HOP.out, HF.out.2.1]) M8.out (2 + Y) HF.out.2.2 Q3.out HOW.out HG.out (fun hc => by rw [h1 hc]; simp [Addr.add]) h2)
                    clear h1 h2
                    go_wp2_with fail
                    go_roundw
                    case rel => exact ⟨at_ + (2 + Y), m - (2 + Y), a4, cap2 - (2 + Y), n + 1, _, va3, vc3, rfl, rfl, by have := HN.out; omega, by omega, H9.out⟩
                    case measure => simp [lenV]; have := Q3.out; omega
                  · have hc' : (chkP o.p != 0) = true := by simpa using hc
                    have HE := hid (H7.out.bad HLl.out hm1 (x := chkP o.p) hc HNE.out)
                    have HC := hid hc
                    generalize chkP o.p = ce at *
                    clear hc
                    go_wp2_with fail
                    go_ret2
                    exact RdcOk.bad HC.out HE.out H7.out.below
end Go.Proofs.YtbgogeojdibmkaaDoor

namespace Go.Proofs.YtbgogeojdibmkaaDoor
open Go.ChangeShapes Go.WideShapes Go.ChangeAt Go.RowKit Go.Deep
set_option linter.unusedVariables false
set_option linter.unusedSimpArgs false

theorem ocs_single (o : Ov) : ocs [o] = o.cs.toList := by simp [ocs]
def OfOk (w : World) (n : Nat) (L : List Ov) (e : Ending) (w' : World) : Prop := ∃ a' cap', e = .returned (.slice a' n cap') ∧ Opts w' a' n cap' L ∧ Below w.heap.size w w'
set_option maxRecDepth 100000 in
set_option maxHeartbeats 3200000 in
theorem of_any (a : Option Addr) (n cap : Nat) (L : List Ov) (w : World) (hL : Opts w a n cap L) (hn : n ≤ 1000) :
    Calls Tryd.prog 8 #[.slice a n cap] w (OfOk w n L) := by
  have HL := hid hL
  have HLen := hid hL.len
  clear hL
  go_enter Tryd.func8, Tryd.ntmps8
  go_wp2_with fail
  go_loopw [3, 4] (fun v i wr => ∃ (k : Nat), k ≤ n ∧ i = .int .i64 k ∧ Hid (wr.ownsRow w.heap.size 38 19 v k (ocs (L.take k))) ∧ Hid (Below w.heap.size w wr)) (fun _ i _ => n - (intOf i).toNat)
  case atStart => exact ⟨0, by omega, rfl, World.ownsRow_nil _ _ _ _, Below.refl _ _⟩
  case round =>
    obtain ⟨k, hk, rfl, HO, HB⟩ := hrel
    by_cases hlt : k < n
    · have i1 : (k : Int) < (n : Int) := by omega
      obtain ⟨b, off, ha, hp0⟩ := HL.out.cell k hlt
      have hkl : k < L.length := by rw [HLen.out]; exact hlt
      have hok := HL.out.at k hlt
      have HT : Hid (L.take (k + 1) = L.take k ++ [L.getD k Ov.zero]) := by rw [Hid, List.take_succ_eq_append_getElem hkl]; simp [hkl]
      generalize hoo : L.getD k Ov.zero = o at *
      have PW := hid hp0
      have PP := hid (hp0.below HB.out)
      have HA := hid hok.ad
      subst ha
      clear hp0 hok hoo hkl
      have BA := hid (balloc (Below.refl wr.heap.size wr) (.cells o.cs 38))
      have P5 := hid (PP.out.below BA.out)
      have O5 := hid (HO.out.alloc (.cells o.cs 38))
      have B5 := hid (bthen HB.out BA.out)
      have RX := hid (Row.new wr 38 o.cs)
      go_wp2_with fail
      refine wp_region_held_drew (S := fun w' => w'.cell? ⟨b, off + k * 19, none⟩ = some (.int .i64 o.k) ∧ (w'.cell? ⟨b, off + k * 19 + 1, none⟩ = some (.slice o.n.a o.n.n o.n.cap) ∧ (w'.cell? ⟨b, off + k * 19 + 18, none⟩ = some (.slice o.t.a o.t.n o.t.cap) ∧ Hid (Part w' b (off + k * 19) o.cs)))) (by kernel_rfl) ?_ (fun hHeld => ?_)
      · exact ⟨PP.out 0 _ o.at0, PP.out 1 _ o.at1, PP.out 18 _ (Ov.at18 HA.out), PP.out⟩
      refine wpAnyH_take (i := 0) (oi := _) (v := ?va0) rfl (by kernel_rfl) (by kernel_rfl) (by kernel_rfl) (fun _ _ _ h => h) (Or.inl ⟨by rfl, ?hya0⟩) (by assumption) ?resta0
      case hya0 => (intro w hSw; (try dsimp only at hSw); go_split_ands; go_simp; try (with_reducible rfl))
      try simp only [List.getElem_toArray, List.getElem_cons_zero, List.getElem_cons_succ, Act.put, List.setIfInBounds_toArray, List.set_cons_zero, List.set_cons_succ]
      refine wpAnyH_take (i := 1) (oi := _) (v := ?va1) rfl (by kernel_rfl) (by kernel_rfl) (by kernel_rfl) (fun _ _ _ h => h) (Or.inl ⟨by rfl, ?hya1⟩) (by assumption) ?resta1
      case hya1 => (intro w hSw; (try dsimp only at hSw); go_split_ands; go_simp; try (with_reducible rfl))
      try simp only [List.getElem_toArray, List.getElem_cons_zero, List.getElem_cons_succ, Act.put, List.setIfInBounds_toArray, List.set_cons_zero, List.set_cons_succ]
      refine wpAnyH_take (i := 2) (oi := _) (v := ?va2) rfl (by kernel_rfl) (by kernel_rfl) (by kernel_rfl) (fun _ _ _ h => h) (Or.inl ⟨by rfl, ?hya2⟩) (by assumption) ?resta2
      case hya2 => (intro w hSw; (try dsimp only at hSw); go_split_ands; go_simp; try (with_reducible rfl))
      try simp only [List.getElem_toArray, List.getElem_cons_zero, List.getElem_cons_succ, Act.put, List.setIfInBounds_toArray, List.set_cons_zero, List.set_cons_succ]
      refine wpAnyH_take (i := 3) (oi := _) (v := ?va3) rfl (by kernel_rfl) (by kernel_rfl) (by kernel_rfl) (fun _ _ _ h => h) (Or.inl ⟨by rfl, ?hya3⟩) (by assumption) ?resta3
      case hya3 => (intro w hSw; (try dsimp only at hSw); go_split_ands; go_simp; try (with_reducible rfl))
      try simp only [List.getElem_toArray, List.getElem_cons_zero, List.getElem_cons_succ, Act.put, List.setIfInBounds_toArray, List.set_cons_zero, List.set_cons_succ]
      refine wpAnyH_take (i := 4) (oi := _) (v := ?va4) rfl (by kernel_rfl) (by kernel_rfl) (by kernel_rfl) (fun _ _ _ h => h) (Or.inl ⟨by rfl, ?hya4⟩) (by assumption) ?resta4
      case hya4 => (intro w hSw; (try dsimp only at hSw); go_split_ands; go_simp; try (with_reducible rfl))
      try simp only [List.getElem_toArray, List.getElem_cons_zero, List.getElem_cons_succ, Act.put, List.setIfInBounds_toArray, List.set_cons_zero, List.set_cons_succ]
      refine wpAnyH_take (i := 5) (oi := _) (v := ?va5) rfl (by kernel_rfl) (by kernel_rfl) (by kernel_rfl) (fun _ _ _ h => h) (Or.inl ⟨by rfl, ?hya5⟩) (by assumption) ?resta5
      case hya5 => (intro w hSw; (try dsimp only at hSw); go_split_ands; go_simp; try (with_reducible rfl))
      try simp only [List.getElem_toArray, List.getElem_cons_zero, List.getElem_cons_succ, Act.put, List.setIfInBounds_toArray, List.set_cons_zero, List.set_cons_succ]
      refine wpAnyH_take (i := 6) (oi := _) (v := ?va6) rfl (by kernel_rfl) (by kernel_rfl) (by kernel_rfl) (fun _ _ _ h => h) (Or.inl ⟨by rfl, ?hya6⟩) (by assumption) ?resta6
      case hya6 => (intro w hSw; (try dsimp only at hSw); go_split_ands; go_simp; try (with_reducible rfl))
      try simp only [List.getElem_toArray, List.getElem_cons_zero, List.getElem_cons_succ, Act.put, List.setIfInBounds_toArray, List.set_cons_zero, List.set_cons_succ]
      refine wpAnyH_take (i := 7) (oi := _) (v := ?va7) rfl (by kernel_rfl) (by kernel_rfl) (by kernel_rfl) (fun _ _ _ h => h) (Or.inl ⟨by rfl, ?hya7⟩) (by assumption) ?resta7
      case hya7 => (intro w hSw; (try dsimp only at hSw); go_split_ands; go_simp; try (with_reducible rfl))
      try simp only [List.getElem_toArray, List.getElem_cons_zero, List.getElem_cons_succ, Act.put, List.setIfInBounds_toArray, List.set_cons_zero, List.set_cons_succ]
      refine wpAnyH_take (i := 8) (oi := _) (v := ?va8) rfl (by kernel_rfl) (by kernel_rfl) (by kernel_rfl) (fun _ _ _ h => h) (Or.inl ⟨by rfl, ?hya8⟩) (by assumption) ?resta8
      case hya8 => (intro w hSw; (try dsimp only at hSw); go_split_ands; go_simp; try (with_reducible rfl))
      try simp only [List.getElem_toArray, List.getElem_cons_zero, List.getElem_cons_succ, Act.put, List.setIfInBounds_toArray, List.set_cons_zero, List.set_cons_succ]
      refine wpAnyH_take (i := 9) (oi := _) (v := ?va9) rfl (by kernel_rfl) (by kernel_rfl) (by kernel_rfl) (fun _ _ _ h => h) (Or.inl ⟨by rfl, ?hya9⟩) (by assumption) ?resta9
      case hya9 => (intro w hSw; (try dsimp only at hSw); go_split_ands; go_simp; try (with_reducible rfl))
      try simp only [List.getElem_toArray, List.getElem_cons_zero, List.getElem_cons_succ, Act.put, List.setIfInBounds_toArray, List.set_cons_zero, List.set_cons_succ]
      refine wpAnyH_take (i := 10) (oi := _) (v := ?va10) rfl (by kernel_rfl) (by kernel_rfl) (by kernel_rfl) (fun _ _ _ h => h) (Or.inl ⟨by rfl, ?hya10⟩) (by assumption) ?resta10
      case hya10 => (intro w hSw; (try dsimp only at hSw); go_split_ands; go_simp; try (with_reducible rfl))
      try simp only [List.getElem_toArray, List.getElem_cons_zero, List.getElem_cons_succ, Act.put, List.setIfInBounds_toArray, List.set_cons_zero, List.set_cons_succ]
      refine wpAnyH_take (i := 11) (oi := _) (v := ?va11) rfl (by kernel_rfl) (by kernel_rfl) (by kernel_rfl) (fun _ _ _ h => h) (Or.inl ⟨by rfl, ?hya11⟩) (by assumption) ?resta11
      case hya11 => (intro w hSw; (try dsimp only at hSw); go_split_ands; go_simp; try (with_reducible rfl))
      try simp only [List.getElem_toArray, List.getElem_cons_zero, List.getElem_cons_succ, Act.put, List.setIfInBounds_toArray, List.set_cons_zero, List.set_cons_succ]
      refine wpAnyH_take (i := 12) (oi := _) (v := ?va12) rfl (by kernel_rfl) (by kernel_rfl) (by kernel_rfl) (fun _ _ _ h => h) (Or.inl ⟨by rfl, ?hya12⟩) (by assumption) ?resta12
      case hya12 => (intro w hSw; (try dsimp only at hSw); go_split_ands; go_simp; try (with_reducible rfl))
      try simp only [List.getElem_toArray, List.getElem_cons_zero, List.getElem_cons_succ, Act.put, List.setIfInBounds_toArray, List.set_cons_zero, List.set_cons_succ]
      refine wpAnyH_take (i := 13) (oi := _) (v := ?va13) rfl (by kernel_rfl) (by kernel_rfl) (by kernel_rfl) (fun _ _ _ h => h) (Or.inl ⟨by rfl, ?hya13⟩) (by assumption) ?resta13
      case hya13 => (intro w hSw; (try dsimp only at hSw); go_split_ands; go_simp; try (with_reducible rfl))
      try simp only [List.getElem_toArray, List.getElem_cons_zero, List.getElem_cons_succ, Act.put, List.setIfInBounds_toArray, List.set_cons_zero, List.set_cons_succ]
      refine wpAnyH_take (i := 14) (oi := _) (v := ?va14) rfl (by kernel_rfl) (by kernel_rfl) (by kernel_rfl) (fun _ _ _ h => h) (Or.inl ⟨by rfl, ?hya14⟩) (by assumption) ?resta14
      case hya14 => (intro w hSw; (try dsimp only at hSw); go_split_ands; go_simp; try (with_reducible rfl))
      try simp only [List.getElem_toArray, List.getElem_cons_zero, List.getElem_cons_succ, Act.put, List.setIfInBounds_toArray, List.set_cons_zero, List.set_cons_succ]
      refine wpAnyH_take (i := 15) (oi := _) (v := .agg (arr o.ad)) rfl (by kernel_rfl) (by kernel_rfl) (by kernel_rfl) (fun _ _ _ h => h) (yld41 (by rfl) _ rfl b (off + k * 19 + 2) rfl o.ad HA.out (fun w h => by have := h.2.2.2.out.ovA HA.out; exact this)) (by assumption) ?_
      try simp only [List.getElem_toArray, List.getElem_cons_zero, List.getElem_cons_succ, Act.put, List.setIfInBounds_toArray, List.set_cons_zero, List.set_cons_succ]
      refine wpAnyH_take (i := 16) (oi := _) (v := ?va16) rfl (by kernel_rfl) (by kernel_rfl) (by kernel_rfl) (fun _ _ _ h => h) (Or.inl ⟨by rfl, ?hya16⟩) (by assumption) ?resta16
      case hya16 => (intro w hSw; (try dsimp only at hSw); go_split_ands; go_simp; try (with_reducible rfl))
      try simp only [List.getElem_toArray, List.getElem_cons_zero, List.getElem_cons_succ, Act.put, List.setIfInBounds_toArray, List.set_cons_zero, List.set_cons_succ]
      refine wpAnyH_take (i := 17) (oi := _) (v := ?va17) rfl (by kernel_rfl) (by kernel_rfl) (by kernel_rfl) (fun _ _ _ h => h) (Or.inl ⟨by rfl, ?hya17⟩) (by assumption) ?resta17
      case hya17 => (intro w hSw; (try dsimp only at hSw); go_split_ands; go_simp; try (with_reducible rfl))
      try simp only [List.getElem_toArray, List.getElem_cons_zero, List.getElem_cons_succ, Act.put, List.setIfInBounds_toArray, List.set_cons_zero, List.set_cons_succ]
      refine wpAnyH_take (i := 18) (oi := _) (v := ?va18) rfl (by kernel_rfl) (by kernel_rfl) (by kernel_rfl) (fun _ _ _ h => h) (Or.inl ⟨by rfl, ?hya18⟩) (by assumption) ?resta18
      case hya18 => (intro w hSw; (try dsimp only at hSw); go_split_ands; go_simp; try (with_reducible rfl))
      try simp only [List.getElem_toArray, List.getElem_cons_zero, List.getElem_cons_succ, Act.put, List.setIfInBounds_toArray, List.set_cons_zero, List.set_cons_succ]
      refine wpAnyH_take (i := 19) (oi := _) (v := ?va19) rfl (by kernel_rfl) (by kernel_rfl) (by kernel_rfl) (fun _ _ _ h => h) (Or.inl ⟨by rfl, ?hya19⟩) (by assumption) ?resta19
      case hya19 => (intro w hSw; (try dsimp only at hSw); go_split_ands; go_simp; try (with_reducible rfl))
      try simp only [List.getElem_toArray, List.getElem_cons_zero, List.getElem_cons_succ, Act.put, List.setIfInBounds_toArray, List.set_cons_zero, List.set_cons_succ]
      refine wpAnyH_take (i := 20) (oi := _) (v := ?va20) rfl (by kernel_rfl) (by kernel_rfl) (by kernel_rfl) (fun _ _ _ h => h) (Or.inl ⟨by rfl, ?hya20⟩) (by assumption) ?resta20
      case hya20 => (intro w hSw; (try dsimp only at hSw); go_split_ands; go_simp; try (with_reducible rfl))
      try simp only [List.getElem_toArray, List.getElem_cons_zero, List.getElem_cons_succ, Act.put, List.setIfInBounds_toArray, List.set_cons_zero, List.set_cons_succ]
      refine wpAnyH_take (i := 21) (oi := _) (v := .agg o.cs) rfl (by kernel_rfl) (by kernel_rfl) (by kernel_rfl) (fun _ _ _ h => h) (ybdO o38 (by rfl) _ _ _ _ rfl o HA.out rfl rfl rfl rfl) (by assumption) ?_
      try simp only [List.getElem_toArray, List.getElem_cons_zero, List.getElem_cons_succ, Act.put, List.setIfInBounds_toArray, List.set_cons_zero, List.set_cons_succ]
      refine wpAnyH_ready (rs := [22]) (by kernel_rfl) (by simp) ?_
      refine AllReadyH.cons (o := _) rfl (fun K hK => ?_) AllReadyH.nil
      refine step_bsO s22 rfl _ rfl o HA.out rfl ?_
      refine hK.out _ _ ⟨P5.out 0 _ o.at0, P5.out 1 _ o.at1, P5.out 18 _ (Ov.at18 HA.out), P5.out⟩ (fun hHeld => ?_)
      clear hK K
      try simp only [List.getElem_toArray, List.getElem_cons_zero, List.getElem_cons_succ, Act.put, List.setIfInBounds_toArray, List.set_cons_zero, List.set_cons_succ]
      refine wpAnyH_ready (rs := [23]) (by kernel_rfl) (by simp) ?_
      refine AllReadyH.cons (o := _) rfl (fun K hK => ?_) AllReadyH.nil
      refine step_pushO s22 rfl _ _ rfl w.heap.size k wr.heap.size _ (ocs (L.take k)) rfl (by exact O5.out) o HA.out rfl (by exact RX.out) (by exact B5.out.size) (by omega) ?_
      intro v6 w6 hown6 hg6
      have hg6 : (wr.alloc (.cells o.cs 38)).grownBy w6 u3.ownBlock := ⟨hg6.os, hg6.tape, hg6.output, hg6.size, hg6.block⟩
      have B7 := hid (Below.grown B5.out hg6 B5.out.size (fun j hj => (O5.out.lt j hj).1))
      have O6 := hid hown6
      have P7 := hid (PW.out.below B7.out)
      clear hown6 hg6
      refine hK.out _ _ ⟨P7.out 0 _ o.at0, P7.out 1 _ o.at1, P7.out 18 _ (Ov.at18 HA.out), P7.out⟩ (fun hHeld => ?_)
      clear hK K
      try simp only [List.getElem_toArray, List.getElem_cons_zero, List.getElem_cons_succ, Act.put, List.setIfInBounds_toArray, List.set_cons_zero, List.set_cons_succ]
      refine wpAnyH_take (i := 24) (oi := _) (v := ?va24) rfl (by kernel_rfl) (by kernel_rfl) (by kernel_rfl) (fun _ _ _ h => h) (Or.inl ⟨by rfl, ?hya24⟩) (by assumption) ?resta24
      case hya24 => (intro w hSw; (try dsimp only at hSw); go_split_ands; go_simp; try (with_reducible rfl))
      try simp only [List.getElem_toArray, List.getElem_cons_zero, List.getElem_cons_succ, Act.put, List.setIfInBounds_toArray, List.set_cons_zero, List.set_cons_succ]
      refine wpAnyH_done (by kernel_rfl) ?_ _
      go_wp2_with fail
      go_roundw
      case rel =>
        refine ⟨k + 1, by omega, by go_num, ?_, B7.out⟩
        rw [Hid, HT.out, ocs_app, ocs_single]; exact O6.out
      case measure => simp [intOf]; omega
    · obtain rfl : k = n := by omega
      rw [List.take_of_length_le (by rw [HLen.out]; exact Nat.le_refl _)] at HO
      obtain ⟨va, vc, hv, hop⟩ := owns_opts (by rw [HLen.out]; exact HO.out) (fun o ho => (HL.out.ok o ho).below HB.out)
      rw [HLen.out] at hv hop
      subst hv
      have HOP := hid hop
      clear hop
      go_wp2_with fail
      go_ret
      unfold OfOk
      exact ⟨va, vc, rfl, HOP.out, HB.out⟩
end Go.Proofs.YtbgogeojdibmkaaDoor

namespace Go.Proofs.YtbgogeojdibmkaaDoor
open Go.ChangeShapes Go.WideShapes Go.ChangeAt Go.RowKit Go.Deep
set_option linter.unusedVariables false
set_option linter.unusedSimpArgs false

/-- One option in a slice of its own. -/
theorem opts_one (w : World) (t : TypeId) (x : Ov) (h : x.ok w) : Opts (w.alloc (.cells x.cs t)) (some ⟨w.heap.size, 0, none⟩) 1 1 [x] := by
  refine ⟨rfl, Nat.le_refl _, by decide, (fun h => by cases h), fun k hk => ⟨w.heap.size, 0, rfl, ?_⟩, ?_⟩
  · obtain rfl : k = 0 := by omega
    exact (Row.new w t x.cs).part
  · intro o ho
    rw [List.mem_singleton.1 ho]
    exact h.below (balloc (Below.refl _ _) _)
def ex1 : List Int := [0, 0, 5, 255]
def po1 : Po := ⟨6, [0, 0, 5, 255], zeros, []⟩
def po2 : Po := ⟨1, [2], zeros, []⟩
theorem ex1_ok : (encE [po1], encL [po1]) = (0, [6, 4, 0, 0, 5, 255]) := by kernel_rfl
theorem ex2_ok : (encE [po2], encL [po2]) = (0, [1, 2, 0, 0]) := by kernel_rfl
theorem ex3_ok : wordOf 3 = ⟨#[114, 111, 117, 116, 101]⟩ := by kernel_rfl
theorem lies_lit (kd : IntKind) (w : World) (cs : Array Value) (t : TypeId) (l : List Int) (n : Nat) (h : cs.toList = l.map (Value.int kd)) (hn : l.length = n) (hs : n ≤ 100) : Lies kd (w.alloc (.cells cs t)) (some ⟨w.heap.size, 0, none⟩) n n l := by
  subst hn; exact lies_new kd w cs t l h hs
theorem enc_at {B : Nat} (a : Option Addr) (n cap : Nat) (L : List Ov) (P : List Po) (l : List Int) (w : World) (hL : Opts w a n cap L) (hV : Vars B w) (hn : n ≤ 1000) (hP : pos L = P) (he : (encE P, encL P) = (0, l)) :
    Calls Tryd.prog 9 #[.slice a n cap] w fun e w' => ∃ v c, e = .returned (.tuple #[.slice v l.length c, .int .i64 0]) ∧ Lies .u8 w' v l.length c l ∧ Below w.heap.size w w' := by
  refine (encode_any a n cap L w hL hV hn).mono ?_
  rintro e w' ⟨v, rfl, hown, hb⟩
  have h2 : encL P = l := congrArg Prod.snd he
  rw [hP, h2] at hown
  obtain ⟨va, vc, rfl, hl, _⟩ := owns_lies hown
  refine ⟨va, vc, ?_, hl, hb⟩
  rw [hP, show encE P = 0 from congrArg Prod.fst he]
set_option maxHeartbeats 1600000 in
theorem known_any {B : Nat} (w : World) (hV : Vars B w) : Calls Tryd.prog 18 #[] w fun e w' => e = .returned (.bool true) ∧ Below w.heap.size w w' := by
  have B1 := hid (balloc (Below.refl w.heap.size w) (.cells #[.int .i64 0, .int .i64 0, .int .i64 5, .int .i64 255] 3))
  have L1 := hid (lies_lit .i64 w #[.int .i64 0, .int .i64 0, .int .i64 5, .int .i64 255] 3 [0, 0, 5, 255] 4 rfl rfl (by decide))
  have V1 := hid (hV.below B1.out)
  have zo : Oct [] := fun x hx => by cases hx
  clear hV
  go_enter Tryd.func18, Tryd.ntmps18
  go_wp2_with (first
    | (refine bdO2 o43 _ _ rfl rfl 6 ⟨some ⟨w.heap.size, 0, none⟩, 4, 4, [0, 0, 5, 255]⟩ rfl rfl ?_)
    | (refine bsO s23 rfl _ rfl ⟨6, ⟨some ⟨w.heap.size, 0, none⟩, 4, 4, [0, 0, 5, 255]⟩, zeros, Txt.none⟩ adr_zeros rfl ?_))
  have hs1 : (w.alloc (.cells #[.int .i64 0, .int .i64 0, .int .i64 5, .int .i64 255] 3)).heap.size = w.heap.size + 1 := World.size_alloc ..
  generalize hw1 : w.alloc (.cells #[.int .i64 0, .int .i64 0, .int .i64 5, .int .i64 255] 3) = w1 at *
  have OP := hid (opts_one w1 43 ⟨6, ⟨some ⟨w.heap.size, 0, none⟩, 4, 4, [0, 0, 5, 255]⟩, zeros, Txt.none⟩ ⟨L1.out, adr_zeros, Lies.nil _ _, zo⟩)
  rw [hs1] at OP
  have BA := hid (balloc (Below.refl w1.heap.size w1) (.cells (Ov.cs ⟨6, ⟨some ⟨w.heap.size, 0, none⟩, 4, 4, [0, 0, 5, 255]⟩, zeros, Txt.none⟩) 43))
  have V2 := hid (V1.out.below BA.out)
  have B2 := hid (bthen B1.out BA.out)
  clear hw1 hs1
  refine (enc_at _ 1 1 _ [po1] _ _ OP.out V2.out (by decide) rfl ex1_ok).mono ?_
  rintro e w2 ⟨a2, c2, rfl, hl2, hb2⟩
  have L2 := hid hl2
  have B3 := hid (bthen B2.out hb2)
  have V3 := hid (V2.out.below hb2)
  clear hl2 hb2 OP BA V2 B2 V1 B1 L1
  have B4 := hid (balloc (Below.refl w2.heap.size w2) (.cells #[.int .i64 2] 3))
  have L4 := hid (lies_lit .i64 w2 #[.int .i64 2] 3 [2] 1 rfl rfl (by decide))
  have V4 := hid (V3.out.below B4.out)
  have hs4 : (w2.alloc (.cells #[.int .i64 2] 3)).heap.size = w2.heap.size + 1 := World.size_alloc ..
  go_wp2_with (first
    | (refine bdO2 o43 _ _ rfl rfl 1 ⟨some ⟨w2.heap.size, 0, none⟩, 1, 1, [2]⟩ rfl rfl ?_)
    | (refine bsO s23 rfl _ rfl ⟨1, ⟨some ⟨w2.heap.size, 0, none⟩, 1, 1, [2]⟩, zeros, Txt.none⟩ adr_zeros rfl ?_))
  generalize hw4 : w2.alloc (.cells #[.int .i64 2] 3) = w4 at *
  have OP := hid (opts_one w4 43 ⟨1, ⟨some ⟨w2.heap.size, 0, none⟩, 1, 1, [2]⟩, zeros, Txt.none⟩ ⟨L4.out, adr_zeros, Lies.nil _ _, zo⟩)
  rw [hs4] at OP
  have BA := hid (balloc (Below.refl w4.heap.size w4) (.cells (Ov.cs ⟨1, ⟨some ⟨w2.heap.size, 0, none⟩, 1, 1, [2]⟩, zeros, Txt.none⟩) 43))
  have V5 := hid (V4.out.below BA.out)
  have B5 := hid (bthen B4.out BA.out)
  clear hw4 hs4
  refine (enc_at _ 1 1 _ [po2] _ _ OP.out V5.out (by decide) rfl ex2_ok).mono ?_
  rintro e w6 ⟨a6, c6, rfl, hl6, hb6⟩
  have L6 := hid hl6
  have B6 := hid (bthen B5.out hb6)
  have B7 := hid (bthen B3.out B6.out)
  have V6 := hid (V5.out.below hb6)
  have L7 := hid (L2.out.below B6.out)
  clear hl6 hb6 OP BA V5 B5 V4 B4 L4 L2 B3 V3 B6
  have LA := hid (lies_lit .u8 w6 #[.int .u8 6, .int .u8 4, .int .u8 0, .int .u8 0, .int .u8 5, .int .u8 255] 5 [6, 4, 0, 0, 5, 255] 6 rfl rfl (by decide))
  have BA := hid (balloc (Below.refl w6.heap.size w6) (.cells #[.int .u8 6, .int .u8 4, .int .u8 0, .int .u8 0, .int .u8 5, .int .u8 255] 5))
  go_wp2_with fail
  generalize hw7 : w6.alloc (.cells #[.int .u8 6, .int .u8 4, .int .u8 0, .int .u8 0, .int .u8 5, .int .u8 255] 5) = w7 at *
  refine (same_any a2 _ 6 c2 6 6 [6, 4, 0, 0, 5, 255] [6, 4, 0, 0, 5, 255] _ (L7.out.below BA.out) LA.out).mono ?_
  rintro e w8 ⟨rfl, q, rfl⟩
  have BB := hid (bdrew (bthen B7.out BA.out) q)
  have L8 := hid ((L6.out.below BA.out).drewN q)
  have V8 := hid ((V6.out.below BA.out).drewN q)
  generalize hw9 : w7.drewN q = w9 at *
  have LC := hid (lies_lit .u8 w9 #[.int .u8 1, .int .u8 2, .int .u8 0, .int .u8 0] 5 [1, 2, 0, 0] 4 rfl rfl (by decide))
  have BC := hid (balloc (Below.refl w9.heap.size w9) (.cells #[.int .u8 1, .int .u8 2, .int .u8 0, .int .u8 0] 5))
  rw [show (([6, 4, 0, 0, 5, 255] : List Int) == [6, 4, 0, 0, 5, 255]) = true from rfl]
  clear hw9 hw7 LA L7 L6 V6 B7 BA
  go_wp2_with fail
  generalize hw10 : w9.alloc (.cells #[.int .u8 1, .int .u8 2, .int .u8 0, .int .u8 0] 5) = w10 at *
  refine (same_any a6 _ 4 c6 4 4 [1, 2, 0, 0] [1, 2, 0, 0] _ (L8.out.below BC.out) LC.out).mono ?_
  rintro e w11 ⟨rfl, q2, rfl⟩
  have BD := hid (bdrew (bthen BB.out BC.out) q2)
  have V9 := hid ((V8.out.below BC.out).drewN q2)
  rw [show (([1, 2, 0, 0] : List Int) == [1, 2, 0, 0]) = true from rfl]
  generalize hw12 : w10.drewN q2 = w12 at *
  clear hw12 hw10 LC L8 V8 BB BC
  go_wp2_with fail
  refine (word_any 3 _ V9.out).mono ?_
  rintro e w12 ⟨rfl, rfl⟩
  rw [ex3_ok]
  go_wp2_with fail
  go_ret
  exact ⟨rfl, BD.out⟩
end Go.Proofs.YtbgogeojdibmkaaDoor
