/- datagram's Encode: control messages. · datagram's reading: data. · datagram's reading: control messages. · datagram's reading: control messages. -/
import Derived.Test.YtbklpelikaapoaaGreatDoorM13
import Derived.Test.YtbklpelikaapoaaGreatDoorM11
import Derived.Test.YtbklpelikaapoaaGreatDoorM5
import Derived.Test.YtbklpelikaapoaaGreatDoorM12
namespace Go.Proofs.YtbklpelikaapoaaGreatDoor
open Go.ChangeShapes Go.WideShapes Go.ChangeAt Go.RowKit Go.Deep
set_option linter.unusedVariables false
set_option linter.unusedSimpArgs false

theorem own_txt {w : World} {b n : Nat} {a : Option Addr} {cap : Nat} {l : List Int} (h : w.ownsRow b 5 1 (.slice a n cap) n (u8s l)) (hn : l.length = n) (ho : Oct l) : Txt.ok w ⟨a, n, cap, l⟩ := by
  subst hn
  obtain ⟨a9, k9, e9, h9, _⟩ := owns_lies h
  cases e9
  exact ⟨h9, ho⟩
theorem eL_oct {w : World} {m : Mv} (h : m.ok w) : Oct (eL m.p) := by
  unfold eL
  split
  · intro x hx
    rcases List.mem_append.1 hx with e | e
    · rw [hdM] at e
      rcases List.mem_append.1 e with e | e
      · exact hdV_oct _ _ x e
      · split at e
        · exact h.ro.2 x e
        · cases e
    · exact encsL_oct (fun o ho => ⟨(h.o.ok o ho).ad, (h.o.ok o ho).oct⟩) x e
  · intro x hx; cases hx
theorem ctlE_bad {p : Pp} (h : ctlE p ≠ 0) : ctlO p = [] := by rw [ctlO, if_neg h]
theorem ctlE_1 {p : Pp} (h : eE p.m ≠ 0) : ctlE p = eE p.m := by rw [ctlE, if_neg h]
theorem ctlE_2 {p : Pp} (h : eE p.m = 0) : ctlE p = withE (p.h.setNx 58) (ctlL p) := by rw [ctlE, if_pos h]
theorem withL_take {h : Hd} (k : h.ok) {B : List Int} (e : withE h B = 0) : (withL h B).take 40 = hdrL (h.setLn B.length) ∧ (withL h B).drop 40 = B ∧ (withL h B).length = 40 + B.length := by
  have hl := hdrL_len (Hd.setLn_ok k (B.length : Nat))
  rw [withL, if_pos e]
  exact ⟨List.take_left' hl, List.drop_left' hl, by rw [List.length_append, hl]⟩
/-- A slice's part from a place on. -/
theorem lies_drop {w : World} {b off n cap : Nat} {l : List Int} (h : Lies .u8 w (some ⟨b, off, none⟩) n cap l) (k : Nat) (hk : k ≤ n) : Lies .u8 w (some ⟨b, off + k, none⟩) (n - k) (cap - k) (l.drop k) := by
  refine ⟨by rw [List.length_drop, h.1], by have := h.2.1; omega, by have := h.2.2.1; omega, (fun e => by cases e), fun j hj => ?_⟩
  obtain ⟨b', off', he, hc⟩ := h.2.2.2.2 (k + j) (by omega)
  injection he with he
  injection he with e1 e2
  subst e1; subst e2
  refine ⟨b, off + k, rfl, ?_⟩
  rw [Nat.add_assoc, hc]
  simp [List.getD_eq_getElem?_getD, List.getElem?_drop]
set_option maxRecDepth 100000 in
set_option maxHeartbeats 3200000 in
theorem controlBytes_any {B : Nat} (p : Pv) (w : World) (h : p.ok w) (hV : CV B w) (hn : p.m.on ≤ 1000) :
    Calls Tryz.prog 26 #[.agg p.cs] w fun e w' => (∃ v, e = .returned (.tuple #[v, .int .i64 (ctlE p.p)]) ∧ Hid (w'.ownsRow w.heap.size 5 1 v (ctlO p.p).length (u8s (ctlO p.p)))) ∧ Below w.heap.size w w' := by
  have HF := hid h.fit
  have R0 := hid (Row.new w 41 p.cs)
  have B0 := hid (balloc (Below.refl w.heap.size w) (.cells p.cs 41))
  have U0 := hid h.t
  have M1 := hid (h.m.below B0.out)
  have V1 := hid (hV.below B0.out)
  have HLO := hid (eL_oct h.m)
  have HN := hid hn
  have HEb : Hid (eE p.m.p ≠ 0 → ctlE p.p = eE p.m.p ∧ ctlO p.p = []) := hid (fun e => ⟨ctlE_1 (p := p.p) e, ctlE_bad (by rw [ctlE_1 (p := p.p) e]; exact e)⟩)
  obtain ⟨i0, hi, hz0, hz1, hz2⟩ := info_parts info5
  clear h hV hn
  go_enter Tryz.func26, Tryz.ntmps26
  go_upto_region 1 with fail
  generalize hw1 : w.alloc (.cells p.cs 41) = w1 at *
  clear hw1
  go_wp2_with (refine ldM m29 _ rfl rfl w.heap.size 38 rfl p.m HF.out.2 (Pv.rM HF.out R0.out) ?_)
  refine (cEncode_any p.m _ M1.out V1.out HN.out).mono ?_
  rintro e w2 ⟨⟨v2, rfl, hown⟩, hb⟩
  have R2 := hid (R0.out.below hb)
  have B2 := hid (bthen B0.out hb)
  clear hb R0 B0 M1 V1
  by_cases he : eE p.m.p = 0
  · have HCE : Hid (ctlE p.p = withE (p.h.setNx 58) (ctlL p.p)) := hid (ctlE_2 (p := p.p) he)
    have HC0 : Hid (putE 1 ([] : List Int).length [155, p.m.c] = 0 ∧ putL 1 [] [155, p.m.c] = [155, p.m.c]) := hid (put_code (eE_cod he))
    obtain ⟨a2, k2, rfl, _, _⟩ := owns_lies hown.out
    have O2 := hid hown.out
    rw [he]
    have hcl : (ctlL p.p).length = 4 + (eL p.m.p).length := ctlL_len p.p
    have HCL : Hid (ctlL p.p = [155, p.m.c] ++ ([0, 0] ++ eL p.m.p)) := rfl
    have HOC := hid (ctlL_oct (p := p.p) he HLO.out)
    have HLn := hid hcl
    clear hown HEb hcl
    generalize hel : eL p.m.p = E at *
    generalize hen : E.length = en at *
    have HEN := hid hen
    clear hel hen he
    have c38 : w2.cell? ⟨w.heap.size, 38, none⟩ = some (.int .i64 p.m.c) := (Pv.rM HF.out R2.out).at 0 _ p.m.at0
    have L3 := hid (lies_new .i64 w2 #[.int .i64 155, .int .i64 p.m.c] 3 [155, p.m.c] rfl (by simp))
    have b3 := balloc (Below.refl w2.heap.size w2) (.cells #[.int .i64 155, .int .i64 p.m.c] 3)
    have R3 := hid (R2.out.below b3)
    have B3 := hid (bthen B2.out b3)
    have O3 := hid (own_below O2.out b3)
    go_wp2_with fail
    generalize w2.alloc (.cells #[.int .i64 155, .int .i64 p.m.c] 3) = w3 at *
    refine (put_any none _ 0 0 2 2 1 [] [155, p.m.c] _ (Txt.none_ok _).1 L3.out (by omega) (by omega)).mono ?_
    rintro e w4 ⟨v4, rfl, hown, hb⟩
    rw [HC0.out.1]
    rw [HC0.out.2] at hown
    obtain ⟨a4, k4, rfl, _, _⟩ := owns_lies hown
    have O4 := hid hown
    have R4 := hid (R3.out.below hb)
    have B4 := hid (bthen B3.out hb)
    have O4' := hid (own_below O3.out hb)
    have c3 : w4.cell? ⟨w.heap.size, 3, none⟩ = some (.int .i64 p.h.nx) := (Pv.rH HF.out R4.out).at 3 _ p.h.at3
    have f3 := R4.out.frozen 3
    have R5 : Hid (Row (w4.setCell ⟨w.heap.size, 3, none⟩ (.int .i64 58)) w.heap.size 41 (p.setNx 58).cs) := by rw [Hid, ← Pv.put3 HF.out]; exact R4.out.set 3 _
    have B5 := hid (Below.setCell B4.out (p := ⟨w.heap.size, 3, none⟩) (Nat.le_refl _) (.int .i64 58))
    have O5 := hid (O4.out.kept (grownBy_setCell w4 w.heap.size 3 (.int .i64 58)) (.inr (own_row O4.out R4.out (by decide))))
    have O5' := hid (O4'.out.kept (grownBy_setCell w4 w.heap.size 3 (.int .i64 58)) (.inr (own_row O4'.out R4.out (by decide))))
    have hmk : ∀ w, (Instr.makeSlice 30 (.int .i64 2) (.int .i64 2)).run Tryz.prog w = .ok (.slice (some ⟨w.heap.size, 0, none⟩) 2 2) (w.alloc (.cells #[.int .u8 0, .int .u8 0] 5)) := fun _ => by kernel_rfl
    have HOCc : Hid (Oct [155, p.m.c]) := by intro x hx; exact HOC.out x (by rw [HCL.out]; exact List.mem_append_left _ hx)
    clear hb hown L3 b3 c38 R2 R3 B2 B3 O2 O3
    go_upto_region 6 with fail
    generalize w4.setCell ⟨w.heap.size, 3, none⟩ (.int .i64 58) = w5 at *
    clear c3 f3 R4 B4 O4 O4'
    refine wp_region_held_drew (S := fun w' => Hid (Row w' w.heap.size 41 (p.setNx 58).cs)) (by kernel_rfl) ?_ (fun hHeld => ?_)
    · exact R5
    replace B5 : Hid (Below w.heap.size w w5.drew) := hid (B5.out.trans ⟨rfl, rfl, rfl, Nat.le_refl _, fun _ _ => rfl⟩)
    replace R5 : Hid (Row w5.drew w.heap.size 41 (p.setNx 58).cs) := R5
    replace O5 : Hid (w5.drew.ownsRow w3.heap.size 5 1 (.slice a4 2 k4) 2 (u8s [155, p.m.c])) := O5
    replace O5' : Hid (w5.drew.ownsRow w1.heap.size 5 1 (.slice a2 en k2) en (u8s E)) := O5'
    generalize w5.drew = w6 at *
    refine wpAnyH_take (i := 0) (oi := _) (v := ?vap60) rfl (by kernel_rfl) (by kernel_rfl) (by kernel_rfl) (fun _ _ _ h => h) (Or.inl ⟨by rfl, ?hyap60⟩) (by assumption) ?restap60
    case hyap60 => (intro w hSw; (try dsimp only at hSw); go_split_ands; go_simp; try (with_reducible rfl))
    try simp only [List.getElem_toArray, List.getElem_cons_zero, List.getElem_cons_succ, Act.put, List.setIfInBounds_toArray, List.set_cons_zero, List.set_cons_succ]
    refine wpAnyH_take (i := 1) (oi := _) (v := .agg (p.h.setNx 58).cs) rfl (by kernel_rfl) (by kernel_rfl) (by kernel_rfl) (fun _ _ _ h => h) (yldHoH (by rfl) _ rfl w.heap.size 0 rfl (p.h.setNx 58) (Hd.setNx_ok HF.out.1 58) (fun w2 h => Pv.rH HF.out (p := p.setNx 58) h.out)) (by assumption) ?_
    try simp only [List.getElem_toArray, List.getElem_cons_zero, List.getElem_cons_succ, Act.put, List.setIfInBounds_toArray, List.set_cons_zero, List.set_cons_succ]
    refine wpAnyH_take (i := 2) (oi := _) (v := ?vbp62) rfl (by kernel_rfl) (by kernel_rfl) (by kernel_rfl) (fun _ _ _ h => h) (Or.inl ⟨by rfl, ?hybp62⟩) (by assumption) ?restbp62
    case hybp62 => (intro w hSw; (try dsimp only at hSw); go_split_ands; go_simp; try (with_reducible rfl))
    try simp only [List.getElem_toArray, List.getElem_cons_zero, List.getElem_cons_succ, Act.put, List.setIfInBounds_toArray, List.set_cons_zero, List.set_cons_succ]
    refine wpAnyH_take (i := 4) (oi := _) (v := ?vbp64) rfl (by kernel_rfl) (by kernel_rfl) (by kernel_rfl) (fun _ _ _ h => h) (Or.inl ⟨by rfl, ?hybp64⟩) (by assumption) ?restbp64
    case hybp64 => (intro w hSw; (try dsimp only at hSw); go_split_ands; go_simp; try (with_reducible rfl))
    try simp only [List.getElem_toArray, List.getElem_cons_zero, List.getElem_cons_succ, Act.put, List.setIfInBounds_toArray, List.set_cons_zero, List.set_cons_succ]
    refine wpAnyH_ready (rs := [3]) (by kernel_rfl) (by simp) ?_
    refine AllReadyH.cons (o := _) rfl (fun K hK => ?_) AllReadyH.nil
    go_simp
    have LZ := hid (lies_new .u8 w6 #[.int .u8 0, .int .u8 0] 5 [0, 0] rfl (by simp))
    have hb := balloc (Below.refl w6.heap.size w6) (.cells #[.int .u8 0, .int .u8 0] 5)
    replace R5 := hid (R5.out.below hb)
    replace B5 := hid (bthen B5.out hb)
    replace O5 := hid (own_below O5.out hb)
    replace O5' := hid (own_below O5'.out hb)
    clear hb
    refine hK.out _ _ R5 (fun hHeld => ?_)
    clear hK K
    try simp only [List.getElem_toArray, List.getElem_cons_zero, List.getElem_cons_succ, Act.put, List.setIfInBounds_toArray, List.set_cons_zero, List.set_cons_succ]
    generalize w6.alloc (.cells #[.int .u8 0, .int .u8 0] 5) = w7 at *
    generalize w6.heap.size = gz at *
    have HT := hid (texts_lit w7 [⟨a4, 2, k4, [155, p.m.c]⟩, ⟨some ⟨gz, 0, none⟩, 2, 2, [0, 0]⟩, ⟨a2, en, k2, E⟩] (by
      intro t ht
      simp at ht
      rcases ht with rfl | rfl | rfl
      · exact own_txt O5.out rfl HOCc.out
      · exact ⟨LZ.out, by intro x hx; simp at hx; omega⟩
      · exact own_txt O5'.out HEN.out HLO.out) (by simp))
    refine wpAnyH_ready (rs := [5]) (by kernel_rfl) (by simp) ?_
    refine AllReadyH.cons (o := _) rfl (fun K hK => ?_) AllReadyH.nil
    go_simp
    have hb := balloc (Below.refl w7.heap.size w7) (.cells #[Value.slice a4 2 k4, .slice (some ⟨gz, 0, none⟩) 2 2, .slice a2 en k2] 30)
    replace R5 := hid (R5.out.below hb)
    replace B5 := hid (bthen B5.out hb)
    replace HT : Hid (Texts (w7.alloc (.cells #[Value.slice a4 2 k4, .slice (some ⟨gz, 0, none⟩) 2 2, .slice a2 en k2] 30)) (some ⟨w7.heap.size, 0, none⟩) 3 3 [⟨a4, 2, k4, [155, p.m.c]⟩, ⟨some ⟨gz, 0, none⟩, 2, 2, [0, 0]⟩, ⟨a2, en, k2, E⟩]) := HT
    clear hb O5 O5' LZ
    refine hK.out _ _ R5 (fun hHeld => ?_)
    clear hK K
    try simp only [List.getElem_toArray, List.getElem_cons_zero, List.getElem_cons_succ, Act.put, List.setIfInBounds_toArray, List.set_cons_zero, List.set_cons_succ]
    generalize w7.alloc (.cells #[Value.slice a4 2 k4, .slice (some ⟨gz, 0, none⟩) 2 2, .slice a2 en k2] 30) = w8 at *
    generalize w7.heap.size = g7 at *
    refine wpAnyH_ready (rs := [6]) (by kernel_rfl) (by simp) ?_
    refine AllReadyH.cons (o := _) rfl (fun K hK => ?_) AllReadyH.nil
    go_simp
    refine (hdrWith_any (p.h.setNx 58) (Hd.setNx_ok HF.out.1 58) _ 3 3 [⟨a4, 2, k4, [155, p.m.c]⟩, ⟨some ⟨gz, 0, none⟩, 2, 2, [0, 0]⟩, ⟨a2, en, k2, E⟩] _ HT.out).mono ?_
    rintro e w9 ⟨v9, rfl, hown, hb⟩
    have hbb : bytes [⟨a4, 2, k4, [155, p.m.c]⟩, ⟨some ⟨gz, 0, none⟩, 2, 2, [0, 0]⟩, ⟨a2, en, k2, E⟩] = ctlL p.p := by
      rw [HCL.out]; simp [bytes]
    rw [hbb] at hown ⊢
    rw [← HCE.out]
    replace R5 := hid (R5.out.below hb)
    have O9 := hid (own_mono hown B5.out.size)
    replace B5 := hid (bthen B5.out hb)
    clear hb hbb hown HT
    go_wp2_with fail
    refine hK.out _ _ R5 (fun hHeld => ?_)
    clear hK K
    try simp only [List.getElem_toArray, List.getElem_cons_zero, List.getElem_cons_succ, Act.put, List.setIfInBounds_toArray, List.set_cons_zero, List.set_cons_succ]
    refine wpAnyH_take (i := 7) (oi := _) (v := ?vcp67) rfl (by kernel_rfl) (by kernel_rfl) (by kernel_rfl) (fun _ _ _ h => h) (Or.inl ⟨by rfl, ?hycp67⟩) (by assumption) ?restcp67
    case hycp67 => (intro w hSw; (try dsimp only at hSw); go_split_ands; go_simp; try (with_reducible rfl))
    try simp only [List.getElem_toArray, List.getElem_cons_zero, List.getElem_cons_succ, Act.put, List.setIfInBounds_toArray, List.set_cons_zero, List.set_cons_succ]
    refine wpAnyH_take (i := 8) (oi := _) (v := ?vcp68) rfl (by kernel_rfl) (by kernel_rfl) (by kernel_rfl) (fun _ _ _ h => h) (Or.inl ⟨by rfl, ?hycp68⟩) (by assumption) ?restcp68
    case hycp68 => (intro w hSw; (try dsimp only at hSw); go_split_ands; go_simp; try (with_reducible rfl))
    try simp only [List.getElem_toArray, List.getElem_cons_zero, List.getElem_cons_succ, Act.put, List.setIfInBounds_toArray, List.set_cons_zero, List.set_cons_succ]
    refine wpAnyH_take (i := 9) (oi := _) (v := ?vcp69) rfl (by kernel_rfl) (by kernel_rfl) (by kernel_rfl) (fun _ _ _ h => h) (Or.inl ⟨by rfl, ?hycp69⟩) (by assumption) ?restcp69
    case hycp69 => (intro w hSw; (try dsimp only at hSw); go_split_ands; go_simp; try (with_reducible rfl))
    try simp only [List.getElem_toArray, List.getElem_cons_zero, List.getElem_cons_succ, Act.put, List.setIfInBounds_toArray, List.set_cons_zero, List.set_cons_succ]
    refine wpAnyH_take (i := 10) (oi := _) (v := ?vcp610) rfl (by kernel_rfl) (by kernel_rfl) (by kernel_rfl) (fun _ _ _ h => h) (Or.inl ⟨by rfl, ?hycp610⟩) (by assumption) ?restcp610
    case hycp610 => (intro w hSw; (try dsimp only at hSw); go_split_ands; go_simp; try (with_reducible rfl))
    try simp only [List.getElem_toArray, List.getElem_cons_zero, List.getElem_cons_succ, Act.put, List.setIfInBounds_toArray, List.set_cons_zero, List.set_cons_succ]
    refine wpAnyH_take (i := 11) (oi := _) (v := ?vcp611) rfl (by kernel_rfl) (by kernel_rfl) (by kernel_rfl) (fun _ _ _ h => h) (Or.inl ⟨by rfl, ?hycp611⟩) (by assumption) ?restcp611
    case hycp611 => (intro w hSw; (try dsimp only at hSw); go_split_ands; go_simp; try (with_reducible rfl))
    try simp only [List.getElem_toArray, List.getElem_cons_zero, List.getElem_cons_succ, Act.put, List.setIfInBounds_toArray, List.set_cons_zero, List.set_cons_succ]
    refine wpAnyH_done (by kernel_rfl) ?_ _
    generalize hcv : ctlE p.p = CE at *
    have HCV := hid hcv
    clear hcv
    by_cases hce : CE = 0
    · subst hce
      obtain ⟨t1, t2, t3⟩ := withL_take (Hd.setNx_ok HF.out.1 58) HCE.out.symm
      obtain ⟨_, h1240⟩ := withE_0 HCE.out.symm
      have HCO : Hid (ctlO p.p = (withL (p.h.setNx 58) (ctlL p.p)).take 40 ++ ctlR p.p) := hid (by rw [ctlO, if_pos HCV.out, t1]; rfl)
      have HT2 := hid t2
      have hln := HLn.out
      clear t1 t2
      generalize withL (p.h.setNx 58) (ctlL p.p) = WL at *
      generalize hN : WL.length = N at *
      have HNN := hid hN
      clear hN
      rcases O9.out.2 with ⟨_, h0⟩ | ⟨g9, cap, cur, rfl, _, _, hnc, hcm, _⟩
      · exact absurd h0 (by omega)
      have hcm' : cap ≤ 9223372036854775807 := hcm
      have L9 : Hid (Lies .u8 w9 (some ⟨g9, 40, none⟩) (N - 40) (cap - 40) (ctlL p.p)) := by
        have o9 := O9.out
        rw [← HNN.out] at o9 ⊢
        obtain ⟨a9, k9, e9, h9, _⟩ := owns_lies o9
        cases e9
        have := lies_drop h9 40 (by rw [HNN.out]; omega)
        rw [HT2.out, Nat.zero_add] at this
        exact this
      have HPS : Hid (psE 58 (ctlL p.p).length = 0) := hid (psE_58 (by omega))
      have HSL : Hid (setL p.h.f p.h.t 58 (ctlL p.p) 2 = ctlR p.p) := rfl
      have HRL : Hid ((ctlR p.p).length = N - 40) := hid (by rw [ctlR_len]; omega)
      have HRO : Hid (Oct (ctlR p.p)) := hid (setL_oct _ _ _ _ _ HOC.out)
      have n1 : (40 : Int) ≤ (N : Int) := by omega
      have n3 : 44 ≤ N ∧ N ≤ 1280 := by omega
      have n4 : ¬ cap = 40 := by omega
      have HNL : Hid (N = 40 + (ctlL p.p).length) := hid t3
      clear HCE hcm t3 hln h1240
      go_upto_region 9 with fail
      refine wp_region_held_drew (S := fun w' => Hid (Row w' w.heap.size 41 (p.setNx 58).cs)) (by kernel_rfl) ?_ (fun hHeld => ?_)
      · exact R5
      replace B5 : Hid (Below w.heap.size w w9.drew) := hid (B5.out.trans ⟨rfl, rfl, rfl, Nat.le_refl _, fun _ _ => rfl⟩)
      replace R5 : Hid (Row w9.drew w.heap.size 41 (p.setNx 58).cs) := R5
      replace O9 : Hid (w9.drew.ownsRow w.heap.size 5 1 (.slice (some ⟨g9, 0, none⟩) N cap) N (u8s WL)) := O9
      replace L9 : Hid (Lies .u8 w9.drew (some ⟨g9, 40, none⟩) (N - 40) (cap - 40) (ctlL p.p)) := L9
      generalize w9.drew = w10 at *
      refine wpAnyH_take (i := 0) (oi := _) (v := ?vap90) rfl (by kernel_rfl) (by kernel_rfl) (by kernel_rfl) (fun _ _ _ h => h) (Or.inl ⟨by rfl, ?hyap90⟩) (by assumption) ?restap90
      case hyap90 => (intro w hSw; (try dsimp only at hSw); go_split_ands; go_simp; try (with_reducible rfl))
      try simp only [List.getElem_toArray, List.getElem_cons_zero, List.getElem_cons_succ, Act.put, List.setIfInBounds_toArray, List.set_cons_zero, List.set_cons_succ]
      refine wpAnyH_take (i := 1) (oi := _) (v := ?vap91) rfl (by kernel_rfl) (by kernel_rfl) (by kernel_rfl) (fun _ _ _ h => h) (Or.inl ⟨by rfl, ?hyap91⟩) (by assumption) ?restap91
      case hyap91 => (intro w hSw; (try dsimp only at hSw); go_split_ands; go_simp; try (with_reducible rfl))
      try simp only [List.getElem_toArray, List.getElem_cons_zero, List.getElem_cons_succ, Act.put, List.setIfInBounds_toArray, List.set_cons_zero, List.set_cons_succ]
      refine wpAnyH_take (i := 2) (oi := _) (v := .agg (arr p.h.f)) rfl (by kernel_rfl) (by kernel_rfl) (by kernel_rfl) (fun _ _ _ h => h) (yields_ldo (by rfl) 33 _ rfl w.heap.size 5 rfl (arr p.h.f) _ (fun w2 h => by have := Hd.pF (Pv.rH HF.out (p := p.setNx 58) h.out); rwa [Nat.zero_add] at this) Tryz.underlying33 rfl (by rw [arr_size, HF.out.1.1.1]; exact sizeAd)) (by assumption) ?_
      try simp only [List.getElem_toArray, List.getElem_cons_zero, List.getElem_cons_succ, Act.put, List.setIfInBounds_toArray, List.set_cons_zero, List.set_cons_succ]
      refine wpAnyH_take (i := 3) (oi := _) (v := ?vbp93) rfl (by kernel_rfl) (by kernel_rfl) (by kernel_rfl) (fun _ _ _ h => h) (Or.inl ⟨by rfl, ?hybp93⟩) (by assumption) ?restbp93
      case hybp93 => (intro w hSw; (try dsimp only at hSw); go_split_ands; go_simp; try (with_reducible rfl))
      try simp only [List.getElem_toArray, List.getElem_cons_zero, List.getElem_cons_succ, Act.put, List.setIfInBounds_toArray, List.set_cons_zero, List.set_cons_succ]
      refine wpAnyH_take (i := 4) (oi := _) (v := ?vbp94) rfl (by kernel_rfl) (by kernel_rfl) (by kernel_rfl) (fun _ _ _ h => h) (Or.inl ⟨by rfl, ?hybp94⟩) (by assumption) ?restbp94
      case hybp94 => (intro w hSw; (try dsimp only at hSw); go_split_ands; go_simp; try (with_reducible rfl))
      try simp only [List.getElem_toArray, List.getElem_cons_zero, List.getElem_cons_succ, Act.put, List.setIfInBounds_toArray, List.set_cons_zero, List.set_cons_succ]
      refine wpAnyH_take (i := 5) (oi := _) (v := .agg (arr p.h.t)) rfl (by kernel_rfl) (by kernel_rfl) (by kernel_rfl) (fun _ _ _ h => h) (yields_ldo (by rfl) 33 _ rfl w.heap.size 21 rfl (arr p.h.t) _ (fun w2 h => by have := Hd.pT (h := (p.setNx 58).h) HF.out.1 (Pv.rH HF.out (p := p.setNx 58) h.out); rwa [Nat.zero_add] at this) Tryz.underlying33 rfl (by rw [arr_size, HF.out.1.2.1]; exact sizeAd)) (by assumption) ?_
      try simp only [List.getElem_toArray, List.getElem_cons_zero, List.getElem_cons_succ, Act.put, List.setIfInBounds_toArray, List.set_cons_zero, List.set_cons_succ]
      refine wpAnyH_take (i := 6) (oi := _) (v := ?vcp96) rfl (by kernel_rfl) (by kernel_rfl) (by kernel_rfl) (fun _ _ _ h => h) (Or.inl ⟨by rfl, ?hycp96⟩) (by assumption) ?restcp96
      case hycp96 => (intro w hSw; (try dsimp only at hSw); go_split_ands; go_simp; try (with_reducible rfl))
      try simp only [List.getElem_toArray, List.getElem_cons_zero, List.getElem_cons_succ, Act.put, List.setIfInBounds_toArray, List.set_cons_zero, List.set_cons_succ]
      refine wpAnyH_take (i := 7) (oi := _) (v := ?vcp97) rfl (by kernel_rfl) (by kernel_rfl) (by kernel_rfl) (fun _ _ _ h => h) (Or.inl ⟨by rfl, ?hycp97⟩) (by assumption) ?restcp97
      case hycp97 => (intro w hSw; (try dsimp only at hSw); go_split_ands; go_simp; try (with_reducible rfl))
      try simp only [List.getElem_toArray, List.getElem_cons_zero, List.getElem_cons_succ, Act.put, List.setIfInBounds_toArray, List.set_cons_zero, List.set_cons_succ]
      refine wpAnyH_ready (rs := [8]) (by kernel_rfl) (by simp) ?_
      refine AllReadyH.cons (o := _) rfl (fun K hK => ?_) AllReadyH.nil
      go_simp
      refine (set_ok p.h.f p.h.t 58 2 (some ⟨g9, 40, none⟩) (N - 40) (cap - 40) (ctlL p.p) _ HF.out.1.1 HF.out.1.2 L9.out HOC.out HPS.out ⟨by decide, by have := n3.1; omega⟩).mono ?_
      rintro e w11 ⟨v11, rfl, hown, hb⟩
      obtain ⟨i11, ⟨a11, k11, rfl⟩⟩ : ∃ _ : True, ∃ a k, v11 = .slice a (N - 40) k := ⟨trivial, owns_len hown⟩
      have O11 := hid hown
      replace R5 := hid (R5.out.below hb)
      replace O9 := hid (own_below O9.out hb)
      replace B5 := hid (bthen B5.out hb)
      clear hb hown
      go_wp2_with fail
      refine hK.out _ _ R5 (fun hHeld => ?_)
      clear hK K
      try simp only [List.getElem_toArray, List.getElem_cons_zero, List.getElem_cons_succ, Act.put, List.setIfInBounds_toArray, List.set_cons_zero, List.set_cons_succ]
      refine wpAnyH_take (i := 9) (oi := _) (v := ?vdp99) rfl (by kernel_rfl) (by kernel_rfl) (by kernel_rfl) (fun _ _ _ h => h) (Or.inl ⟨by rfl, ?hydp99⟩) (by assumption) ?restdp99
      case hydp99 => (intro w hSw; (try dsimp only at hSw); go_split_ands; go_simp; try (with_reducible rfl))
      try simp only [List.getElem_toArray, List.getElem_cons_zero, List.getElem_cons_succ, Act.put, List.setIfInBounds_toArray, List.set_cons_zero, List.set_cons_succ]
      refine wpAnyH_take (i := 10) (oi := _) (v := ?vdp910) rfl (by kernel_rfl) (by kernel_rfl) (by kernel_rfl) (fun _ _ _ h => h) (Or.inl ⟨by rfl, ?hydp910⟩) (by assumption) ?restdp910
      case hydp910 => (intro w hSw; (try dsimp only at hSw); go_split_ands; go_simp; try (with_reducible rfl))
      try simp only [List.getElem_toArray, List.getElem_cons_zero, List.getElem_cons_succ, Act.put, List.setIfInBounds_toArray, List.set_cons_zero, List.set_cons_succ]
      refine wpAnyH_take (i := 11) (oi := _) (v := ?vdp911) rfl (by kernel_rfl) (by kernel_rfl) (by kernel_rfl) (fun _ _ _ h => h) (Or.inl ⟨by rfl, ?hydp911⟩) (by assumption) ?restdp911
      case hydp911 => (intro w hSw; (try dsimp only at hSw); go_split_ands; go_simp; try (with_reducible rfl))
      try simp only [List.getElem_toArray, List.getElem_cons_zero, List.getElem_cons_succ, Act.put, List.setIfInBounds_toArray, List.set_cons_zero, List.set_cons_succ]
      refine wpAnyH_take (i := 12) (oi := _) (v := ?vdp912) rfl (by kernel_rfl) (by kernel_rfl) (by kernel_rfl) (fun _ _ _ h => h) (Or.inl ⟨by rfl, ?hydp912⟩) (by assumption) ?restdp912
      case hydp912 => (intro w hSw; (try dsimp only at hSw); go_split_ands; go_simp; try (with_reducible rfl))
      try simp only [List.getElem_toArray, List.getElem_cons_zero, List.getElem_cons_succ, Act.put, List.setIfInBounds_toArray, List.set_cons_zero, List.set_cons_succ]
      refine wpAnyH_take (i := 13) (oi := _) (v := ?vdp913) rfl (by kernel_rfl) (by kernel_rfl) (by kernel_rfl) (fun _ _ _ h => h) (Or.inl ⟨by rfl, ?hydp913⟩) (by assumption) ?restdp913
      case hydp913 => (intro w hSw; (try dsimp only at hSw); go_split_ands; go_simp; try (with_reducible rfl))
      try simp only [List.getElem_toArray, List.getElem_cons_zero, List.getElem_cons_succ, Act.put, List.setIfInBounds_toArray, List.set_cons_zero, List.set_cons_succ]
      refine wpAnyH_done (by kernel_rfl) ?_ _
      have T11 : Hid (Txt.ok w11 ⟨a11, N - 40, k11, ctlR p.p⟩) := hid (own_txt O11.out HRL.out HRO.out)
      go_wp2_with (at_builtin; refine wpList_append_own_any _ rfl _ _ 30 rfl w.heap.size 5 i0 (.int .u8 0) 1 1 Tryz.underlying30 hi hz0 hz1 hz2 rfl (by decide) _ _ _ rfl (own_pre O9.out 40 (by omega)) a11 (N - 40) k11 (u8s (ctlR p.p)) rfl ?c1 ?c2 ?c3 (ints_oneCell8 _ _) ?c4 ?c5 ?c6 ?_)
      case c1 => simp [u8s]; exact HRL.out
      case c2 => exact T11.out.1.isNil
      case c3 => exact T11.out.1.cells
      case c4 => unfold maxLen; omega
      case c5 => omega
      case c6 => exact B5.out.size
      intro v12 w12 hown12 hg12
      have hfin : 40 + (N - 40) = (ctlO p.p).length := by
        rw [HCO.out, List.length_append, List.length_take, HNN.out, HRL.out]; omega
      have O12 : Hid (w12.ownsRow w.heap.size 5 1 v12 (ctlO p.p).length (u8s (ctlO p.p))) := by
        rw [← hfin, HCO.out]
        have e : u8s (List.take 40 WL ++ ctlR p.p) = List.take 40 (u8s WL) ++ u8s (ctlR p.p) := by simp [u8s, List.map_take]
        rw [e]; exact hown12
      have B12 := hid (B5.out.trans hg12)
      clear hown12 hg12 hfin
      go_wp2_with fail
      go_ret2
      exact ⟨⟨_, by rw [HCV.out]; rfl, O12⟩, B12.out⟩
    · have hcq : (CE != 0) = true := bne_iff_ne.2 hce
      have HCO : Hid (ctlO p.p = []) := hid (ctlE_bad (by rw [HCV.out]; exact hce))
      clear hce HCE
      go_wp2_with fail
      go_ret2
      exact ⟨⟨.slice none 0 0, by rw [HCV.out]; rfl, by rw [HCO.out]; exact World.ownsRow_nil _ _ _ _⟩, B5.out⟩
  · obtain ⟨e1, e2⟩ := HEb.out he
    have H1 := hid e1
    have H2 := hid e2
    have hq : (eE p.m.p != 0) = true := bne_iff_ne.2 he
    clear e1 e2 hown he HEb
    generalize eE p.m.p = E at *
    go_wp2_with fail
    go_ret2
    exact ⟨⟨.slice none 0 0, by rw [H1.out]; rfl, by rw [H2.out]; exact World.ownsRow_nil _ _ _ _⟩, B2.out⟩
def pgO (p : Pp) : List Int := if p.d = true then datO p else ctlO p
theorem pgO_eq (p : Pp) : pgO p = pgL p := by
  unfold pgO pgL pgE
  cases p.d
  · simp [ctlO]
  · simp [datO]
set_option maxRecDepth 100000 in
set_option maxHeartbeats 1600000 in
theorem dgEncode_any {B : Nat} (p : Pv) (w : World) (h : p.ok w) (hV : CV B w) (hn : p.m.on ≤ 1000) :
    Calls Tryz.prog 8 #[.agg p.cs] w fun e w' => (∃ v, e = .returned (.tuple #[v, .int .i64 (pgE p.p)]) ∧ Hid (w'.ownsRow w.heap.size 5 1 v (pgL p.p).length (u8s (pgL p.p)))) ∧ Below w.heap.size w w' := by
  have HF := hid h.fit
  have R0 := hid (Row.new w 41 p.cs)
  have B0 := hid (balloc (Below.refl w.heap.size w) (.cells p.cs 41))
  have U := hid (h.below B0.out)
  have V := hid (hV.below B0.out)
  have HN := hid hn
  have c37 := Pv.rD HF.out R0.out
  have HGL := hid (pgO_eq p.p)
  cases hd : p.d
  · rw [hd] at c37
    have HE : Hid (pgE p.p = ctlE p.p) := hid (by rw [pgE, if_neg (by show ¬ p.d = true; rw [hd]; simp)])
    have HL : Hid (pgL p.p = ctlO p.p) := hid (by rw [← HGL.out, pgO, if_neg (by show ¬ p.d = true; rw [hd]; simp)])
    rw [HE.out, HL.out]
    clear h hV hn hd
    go_enter Tryz.func8, Tryz.ntmps8
    go_upto_region 1 with fail
    generalize w.alloc (.cells p.cs 41) = w1 at *
    go_wp2_with (refine ldP ptP _ rfl rfl w.heap.size rfl p HF.out 41 R0.out ?_)
    refine (controlBytes_any p _ U.out V.out HN.out).mono ?_
    rintro e w2 ⟨⟨v, rfl, ho⟩, hb⟩
    have O2 := hid (own_mono ho.out B0.out.size)
    have B2 := hid (bthen B0.out hb)
    clear ho hb
    go_wp2_with fail
    go_ret2
    exact ⟨⟨_, rfl, O2⟩, B2.out⟩
  · rw [hd] at c37
    have HE : Hid (pgE p.p = datE p.p) := hid (by rw [pgE, if_pos (by exact hd)])
    have HL : Hid (pgL p.p = datO p.p) := hid (by rw [← HGL.out, pgO, if_pos (by exact hd)])
    rw [HE.out, HL.out]
    clear h hV hn hd
    go_enter Tryz.func8, Tryz.ntmps8
    go_upto_region 1 with fail
    generalize w.alloc (.cells p.cs 41) = w1 at *
    go_wp2_with (refine ldP ptP _ rfl rfl w.heap.size rfl p HF.out 41 R0.out ?_)
    refine (dataBytes_any p _ U.out).mono ?_
    rintro e w2 ⟨⟨v, rfl, ho⟩, hb⟩
    have O2 := hid (own_mono ho.out B0.out.size)
    have B2 := hid (bthen B0.out hb)
    clear ho hb
    go_wp2_with fail
    go_ret2
    exact ⟨⟨_, rfl, O2⟩, B2.out⟩
end Go.Proofs.YtbklpelikaapoaaGreatDoor

namespace Go.Proofs.YtbklpelikaapoaaGreatDoor
open Go.ChangeShapes Go.WideShapes Go.ChangeAt Go.RowKit Go.Deep
set_option linter.unusedVariables false
set_option linter.unusedSimpArgs false

set_option maxRecDepth 100000 in
set_option maxHeartbeats 3200000 in
theorem rdData4 (h : Hd) (t : Txt) (k : h.ok) (w : World) (ht : t.ok w) (hs : t.n ≤ 100000) (h1 : dcE t.l = 0) (h2 : dcN t.l = 17) (h3 : ¬ (dcR t.l).length < 4) :
    Calls Tryz.prog 70 #[.agg (rdc h t)] w (RdOk w (rdtE t.l) (rdtP h t.l)) := by
  have hz := zpkP
  have hzo := zho
  have HK := hid k
  have R1 := hid (Row.new (w.alloc (.cells (rdc h t) 91)) 41 Pv.zero.cs)
  have S1 := hid ((Row.new w 91 (rdc h t)).alloc (.cells Pv.zero.cs 41))
  have B1 := hid (balloc (balloc (Below.refl w.heap.size w) (.cells (rdc h t) 91)) (.cells Pv.zero.cs 41))
  have hs1 : (w.alloc (.cells (rdc h t) 91)).heap.size = w.heap.size + 1 := World.size_alloc ..
  rw [hs1] at R1
  have T1 := hid (ht.below B1.out)
  have HG : Hid (w.heap.size ≤ w.heap.size + 1) := hid (Nat.le_succ _)
  have c37 := rdc_t k S1.out
  have HDO := hid (dcR_oct ht.2)
  have HDL := hid (dcR_len t.l)
  have HTL := hid ht.1.1
  have HSm := hid hs
  have HE : Hid (rdtE t.l = 0) := hid (rdtE_4 h1 h2 h3)
  have HP : Hid (rdtP h t.l = ⟨h, true, Pm.zero, dcO t.l, numOf ((dcR t.l).take 4), (dcR t.l).drop 4⟩) := hid (rdtP_ok HE.out)
  have HE0 := hid h1
  have HN0 := hid h2
  have H4 := hid h3
  clear h1 h2 h3
  clear k ht hs
  go_enter Tryz.func70, Tryz.ntmps70
  go_upto_region 1 with fail
  generalize (w.alloc (.cells (rdc h t) 91)).alloc (.cells Pv.zero.cs 41) = w1 at *
  clear hs1
  generalize hg1 : w.heap.size + 1 = g1 at *
  have HG1 := hid hg1
  clear hg1
  go_wp2_with fail
  refine (hopDecode_any t.a t.n t.cap t.l _ T1.out.1 T1.out.2 HSm.out).mono ?_
  rintro e w2 ⟨v2, rfl, hown, hb⟩
  have R2 := hid (R1.out.below hb)
  have S2 := hid (S1.out.below hb)
  have B2 := hid (bthen B1.out hb)
  have O2 := hid hown
  clear hb hown R1 S1 T1 c37 B1
  rw [HE0.out, HN0.out]
  generalize dcO t.l = O at *
  have Z3 := hid (layO_new w2 39 O)
  have b3 := layO_below w2 39 O
  have R3 := hid (R2.out.below b3)
  have S3 := hid (S2.out.below b3)
  have B3 := hid (bthen B2.out b3)
  have O3 := hid (own_below O2.out b3)
  clear b3
  go_upto_region 2 with (refine stO oh _ _ rfl rfl w2.heap.size O rfl rfl 39 Ho.zero (Row.new w2 39 _) ?_)
  generalize (w2.alloc (.cells Ho.zero.cs 39)).setRow w2.heap.size O.cs = w3 at *
  have HG3 : Hid (w.heap.size + 1 < w2.heap.size) := hid (by rw [HG1.out]; exact R2.out.lt)
  generalize w2.heap.size = g3 at *
  clear R2 S2 B2 O2
  obtain ⟨a3, k3, rfl, _, _⟩ := owns_lies O3.out
  have L3 : Hid (Lies .u8 w3 a3 (dcR t.l).length k3 (dcR t.l)) := by
    obtain ⟨a9, k9, e9, h9, _⟩ := owns_lies O3.out
    cases e9
    exact h9
  clear O3
  generalize dcR t.l = X at *
  generalize hxn : X.length = xn at *
  have HXN := hid hxn
  clear hxn
  go_wp2_with fail
  refine (over_any a3 xn k3 X _ L3.out HDO.out (by have := HDL.out; have := HTL.out; have := HSm.out; omega)).mono ?_
  rintro e w4 ⟨c, a4, k4, rfl, hc, hb, hc1, hc2⟩
  have R4 := hid (R3.out.below hb)
  have S4 := hid (S3.out.below hb)
  have Z4 := hid (Z3.out.below hb)
  have B4 := hid (bthen B3.out hb)
  have C4 := hid hc
  have HC := hid hc1
  have HR3 := hid R3.out.lt
  have HS3 := hid S3.out.lt
  have HZ3 := hid Z3.out.lt
  have HW3 := hid B3.out.size
  clear hc hb hc1 hc2 R3 S3 Z3 B3 L3
  go_wp2_with fail
  refine (take_ok _ c a4 xn k4 0 X 4 4 C4.out rfl (by decide) (by have := H4.out; omega)).mono ?_
  rintro e w5 ⟨rfl, hc, hg, hz5⟩
  rw [List.drop_zero]
  rw [Nat.zero_add] at hc
  have R5 := hid (R4.out.kept hg (fun e => absurd (Option.some.inj e) (by have := HC.out; have := HR3.out; omega)))
  have S5 := hid (S4.out.kept hg (fun e => absurd (Option.some.inj e) (by have := HC.out; have := HS3.out; omega)))
  have Z5 := hid (Z4.out.kept hg (fun e => absurd (Option.some.inj e) (by have := HC.out; have := HZ3.out; omega)))
  have B5 := hid (bgrown B4.out hg (by have := HC.out; have := HW3.out; omega))
  have C5 := hid hc
  clear hc hg hz5 R4 S4 Z4 B4 C4
  go_wp2_with fail
  refine (err_any _ c 0 C5.out.cell2).mono ?_
  rintro e w5 ⟨rfl, rfl⟩
  go_upto_region 11 with fail
  as_aux_lemma =>
    refine wp_region_held_drew (S := fun w' => Hid (Row w' w.heap.size 91 (rdc h t)) ∧ Hid (Row w' g3 39 O.cs)) (by kernel_rfl) ?_ (fun hHeld => ?_)
    · exact ⟨S5, Z5⟩
    replace B5 : Hid (Below w.heap.size w w5.drew) := hid (B5.out.trans ⟨rfl, rfl, rfl, Nat.le_refl _, fun _ _ => rfl⟩)
    replace R5 : Hid (Row w5.drew g1 41 Pv.zero.cs) := R5
    replace S5 : Hid (Row w5.drew w.heap.size 91 (rdc h t)) := S5
    replace Z5 : Hid (Row w5.drew g3 39 O.cs) := Z5
    replace C5 : Hid (CurAt w5.drew c a4 xn k4 X 4 0) := hid (C5.out.drewN 1)
    generalize w5.drew = w6 at *
    refine wpAnyH_take (i := 0) (oi := _) (v := ?var10) rfl (by kernel_rfl) (by kernel_rfl) (by kernel_rfl) (fun _ _ _ h => h) (Or.inl ⟨by rfl, ?hyar10⟩) (by assumption) ?restar10
    case hyar10 => (intro w hSw; (try dsimp only at hSw); go_split_ands; go_simp; try (with_reducible rfl))
    try simp only [List.getElem_toArray, List.getElem_cons_zero, List.getElem_cons_succ, Act.put, List.setIfInBounds_toArray, List.set_cons_zero, List.set_cons_succ]
    refine wpAnyH_take (i := 1) (oi := _) (v := .agg h.cs) rfl (by kernel_rfl) (by kernel_rfl) (by kernel_rfl) (fun _ _ _ h => h) (yldHoH (by rfl) _ rfl w.heap.size 0 rfl h HK.out (fun w2 h => rdc_h h.1.out)) (by assumption) ?_
    try simp only [List.getElem_toArray, List.getElem_cons_zero, List.getElem_cons_succ, Act.put, List.setIfInBounds_toArray, List.set_cons_zero, List.set_cons_succ]
    refine wpAnyH_take (i := 2) (oi := _) (v := .agg O.cs) rfl (by kernel_rfl) (by kernel_rfl) (by kernel_rfl) (fun _ _ _ h => h) (yldO oh (by rfl) _ rfl g3 rfl O 39 (fun w2 h => h.2.out)) (by assumption) ?_
    try simp only [List.getElem_toArray, List.getElem_cons_zero, List.getElem_cons_succ, Act.put, List.setIfInBounds_toArray, List.set_cons_zero, List.set_cons_succ]
    refine wpAnyH_take (i := 3) (oi := _) (v := ?vbr13) rfl (by kernel_rfl) (by kernel_rfl) (by kernel_rfl) (fun _ _ _ h => h) (Or.inl ⟨by rfl, ?hybr13⟩) (by assumption) ?restbr13
    case hybr13 => (intro w hSw; (try dsimp only at hSw); go_split_ands; go_simp; try (with_reducible rfl))
    try simp only [List.getElem_toArray, List.getElem_cons_zero, List.getElem_cons_succ, Act.put, List.setIfInBounds_toArray, List.set_cons_zero, List.set_cons_succ]
    refine wpAnyH_take (i := 4) (oi := _) (v := ?vbr14) rfl (by kernel_rfl) (by kernel_rfl) (by kernel_rfl) (fun _ _ _ h => h) (Or.inl ⟨by rfl, ?hybr14⟩) (by assumption) ?restbr14
    case hybr14 => (intro w hSw; (try dsimp only at hSw); go_split_ands; go_simp; try (with_reducible rfl))
    try simp only [List.getElem_toArray, List.getElem_cons_zero, List.getElem_cons_succ, Act.put, List.setIfInBounds_toArray, List.set_cons_zero, List.set_cons_succ]
    refine wpAnyH_take (i := 5) (oi := _) (v := ?vbr15) rfl (by kernel_rfl) (by kernel_rfl) (by kernel_rfl) (fun _ _ _ h => h) (Or.inl ⟨by rfl, ?hybr15⟩) (by assumption) ?restbr15
    case hybr15 => (intro w hSw; (try dsimp only at hSw); go_split_ands; go_simp; try (with_reducible rfl))
    try simp only [List.getElem_toArray, List.getElem_cons_zero, List.getElem_cons_succ, Act.put, List.setIfInBounds_toArray, List.set_cons_zero, List.set_cons_succ]
    refine wpAnyH_ready (rs := [6]) (by kernel_rfl) (by simp) ?_
    refine AllReadyH.cons (o := _) rfl (fun K hK => ?_) AllReadyH.nil
    go_simp
    refine (left_any _ c a4 xn k4 4 X 0 C5.out).mono ?_
    rintro e w7 ⟨rfl, q, rfl⟩
    have hb : Below w6.heap.size w6 (w6.drewN q) := bdrew (Below.refl _ _) q
    replace R5 := hid (R5.out.below hb)
    replace S5 := hid (S5.out.below hb)
    replace Z5 := hid (Z5.out.below hb)
    replace B5 := hid (bthen B5.out hb)
    replace C5 := hid (C5.out.below hb)
    clear hb
    generalize w6.drewN q = w7 at *
    go_wp2_with fail
    refine hK.out _ _ ⟨S5, Z5⟩ (fun hHeld => ?_)
    clear hK K
    try simp only [List.getElem_toArray, List.getElem_cons_zero, List.getElem_cons_succ, Act.put, List.setIfInBounds_toArray, List.set_cons_zero, List.set_cons_succ]
    refine wpAnyH_ready (rs := [7]) (by kernel_rfl) (by simp) ?_
    refine AllReadyH.cons (o := _) rfl (fun K hK => ?_) AllReadyH.nil
    go_simp
    refine (bytes_ok _ c a4 xn k4 4 X ((xn : Int) - ((4 : Nat) : Int)) (xn - 4) C5.out (by have := H4.out; omega) (by have := H4.out; omega)).mono ?_
    rintro e w8 ⟨v8, rfl, hown, hc, hg⟩
    obtain ⟨a8, ⟨k8, rfl⟩⟩ : ∃ a, ∃ k, v8 = .slice a (xn - 4) k := owns_len hown
    have hx4 : (X.drop 4).take (xn - 4) = X.drop 4 := List.take_of_length_le (by rw [List.length_drop, HXN.out]; exact Nat.le_refl _)
    rw [hx4] at hown
    replace R5 := hid (R5.out.kept hg (fun e => absurd (Option.some.inj e) (by have := HC.out; have := HR3.out; omega)))
    replace S5 := hid (S5.out.kept hg (fun e => absurd (Option.some.inj e) (by have := HC.out; have := HS3.out; omega)))
    replace Z5 := hid (Z5.out.kept hg (fun e => absurd (Option.some.inj e) (by have := HC.out; have := HZ3.out; omega)))
    have O8 := hid (own_mono hown B5.out.size)
    replace B5 := hid (bgrown B5.out hg (by have := HC.out; have := HW3.out; omega))
    clear hown hc hg hx4 C5
    go_wp2_with fail
    refine hK.out _ _ ⟨S5, Z5⟩ (fun hHeld => ?_)
    clear hK K
    try simp only [List.getElem_toArray, List.getElem_cons_zero, List.getElem_cons_succ, Act.put, List.setIfInBounds_toArray, List.set_cons_zero, List.set_cons_succ]
    obtain ⟨P, hP⟩ : ∃ P : Pv, P = ⟨h, true, Mv.zero, O, numOf (X.take 4), ⟨a8, xn - 4, k8, X.drop 4⟩⟩ := ⟨_, rfl⟩
    have kP : Hid P.fit := hid (by rw [hP]; exact ⟨HK.out, adr_zeros⟩)
    have HPP := hid hP
    clear hP
    refine wpAnyH_take (i := 8) (oi := _) (v := .agg P.cs) rfl (by kernel_rfl) (by kernel_rfl) (by kernel_rfl) (fun _ _ _ h => h) ((by rw [HPP.out]; exact ybdPd ptP (by rfl) _ _ _ _ _ rfl h O (numOf (X.take 4)) ⟨a8, xn - 4, k8, X.drop 4⟩ HK.out rfl rfl rfl rfl rfl)) (by assumption) ?_
    try simp only [List.getElem_toArray, List.getElem_cons_zero, List.getElem_cons_succ, Act.put, List.setIfInBounds_toArray, List.set_cons_zero, List.set_cons_succ]
    have g5 := grownBy_setRow w8 g1 P.cs
    replace S5 := hid (S5.out.kept g5 (fun e => absurd (Option.some.inj e) (by have := HG1.out; omega)))
    replace Z5 := hid (Z5.out.kept g5 (fun e => absurd (Option.some.inj e) (by have := HG3.out; have := HG1.out; omega)))
    replace O8 := hid (O8.out.kept g5 (.inr (own_row O8.out R5.out (by decide))))
    have R6 := hid (R5.out.setRow P.cs)
    replace B5 := hid (below_setRow' B5.out HG.out P.cs)
    clear g5
    refine anyH_st 9 (by kernel_rfl) rfl rfl 41 _ _ rfl g1 P.cs rfl rfl 41 Pv.zero.cs R5.out (by rw [Pv.size kP.out]; exact ptP.info) (by rw [Pv.size Pv.zero_fit, Pv.size kP.out]) (Pv.one _) ⟨S5, Z5⟩ ?_
    try simp only [List.getElem_toArray, List.getElem_cons_zero, List.getElem_cons_succ, Act.put, List.setIfInBounds_toArray, List.set_cons_zero, List.set_cons_succ]
    replace R5 := R6
    clear R6
    generalize w8.setRow g1 P.cs = w9 at *
    have hHeld := And.intro S5 Z5
    refine wpAnyH_take (i := 10) (oi := _) (v := ?vcr110) rfl (by kernel_rfl) (by kernel_rfl) (by kernel_rfl) (fun _ _ _ h => h) (Or.inl ⟨by rfl, ?hycr110⟩) (by assumption) ?restcr110
    case hycr110 => (intro w hSw; (try dsimp only at hSw); go_split_ands; go_simp; try (with_reducible rfl))
    try simp only [List.getElem_toArray, List.getElem_cons_zero, List.getElem_cons_succ, Act.put, List.setIfInBounds_toArray, List.set_cons_zero, List.set_cons_succ]
    refine wpAnyH_done (by kernel_rfl) ?_ _
    go_wp2_with fail
    have HPo : Hid (POwn w.heap.size w9 P) := by
      rw [HPP.out]
      exact hid ⟨HK.out, zero_own _ _, by rw [show (X.drop 4).length = xn - 4 by rw [List.length_drop, HXN.out]]; exact O8.out, by rw [List.length_drop, HXN.out], oct_drop HDO.out 4⟩
    have HPq : Hid (P.p = rdtP h t.l) := hid (by rw [HP.out, HPP.out]; rfl)
    refine bodyPost_ret (resPe ptP rfl _ _ g1 41 P kP.out (.int .i64 0) rfl rfl R5.out) rfl ?_
    exact ⟨P, by rw [HE.out], HPo, HPq, B5⟩
theorem rdData_any (h : Hd) (t : Txt) (k : h.ok) (w : World) (ht : t.ok w) (hs : t.n ≤ 100000) :
    Calls Tryz.prog 70 #[.agg (rdc h t)] w (RdOk w (rdtE t.l) (rdtP h t.l)) := by
  by_cases h1 : dcE t.l = 0
  · by_cases h2 : dcN t.l = 17
    · by_cases h3 : (dcR t.l).length < 4
      · exact rdData3 h t k w ht hs h1 h2 h3
      · exact rdData4 h t k w ht hs h1 h2 h3
    · exact rdData2 h t k w ht hs h1 h2
  · exact rdData1 h t k w ht hs h1
end Go.Proofs.YtbklpelikaapoaaGreatDoor

namespace Go.Proofs.YtbklpelikaapoaaGreatDoor
open Go.ChangeShapes Go.WideShapes Go.ChangeAt Go.RowKit Go.Deep
set_option linter.unusedVariables false
set_option linter.unusedSimpArgs false

theorem take3_small {n : Nat} (h : n < 4) : rdE 2 1 (n - (0 + rdN 1 1 (n - 0) 0 + rdN 1 1 (n - (0 + rdN 1 1 (n - 0) 0)) (rdE 1 1 (n - 0) 0))) (rdE 1 1 (n - (0 + rdN 1 1 (n - 0) 0)) (rdE 1 1 (n - 0) 0)) = 4 := by
  have : n = 0 ∨ n = 1 ∨ n = 2 ∨ n = 3 := by omega
  rcases this with rfl | rfl | rfl | rfl <;> decide
def rcP (h : Hd) (l : List Int) : Pp := if rcE h l = 0 then ⟨h, false, dM (l.getD 1 0) (l.drop 4), Ho.zero, 0, []⟩ else Pp.zero
theorem rcP_bad {h : Hd} {l : List Int} (e : rcE h l ≠ 0) : rcP h l = Pp.zero := by rw [rcP, if_neg e]
theorem rcE_1 {h : Hd} {l : List Int} (h1 : l.length < 4) : rcE h l = 4 := by rw [rcE, if_pos h1]
theorem rcE_2 {h : Hd} {l : List Int} (h1 : ¬ l.length < 4) (h2 : chkB h.f h.t 58 l = false) : rcE h l = 5 := by rw [rcE, if_neg h1, h2]; rfl
theorem rcE_3 {h : Hd} {l : List Int} (h1 : ¬ l.length < 4) (h2 : chkB h.f h.t 58 l = true) (h3 : l.getD 0 0 ≠ 155) : rcE h l = 6 := by rw [rcE, if_neg h1, if_pos h2, if_neg h3]
theorem rcE_4 {h : Hd} {l : List Int} (h1 : ¬ l.length < 4) (h2 : chkB h.f h.t 58 l = true) (h3 : l.getD 0 0 = 155) : rcE h l = dE (l.getD 1 0) (l.drop 4) := by rw [rcE, if_neg h1, if_pos h2, if_pos h3]
set_option maxRecDepth 100000 in
set_option maxHeartbeats 3200000 in
theorem rdCtl1 {B : Nat} (h : Hd) (t : Txt) (k : h.ok) (w : World) (ht : t.ok w) (hs : t.n ≤ 1280) (hnx : h.nx = 58) (hV : CV B w) (h4 : t.l.length < 4) :
    Calls Tryz.prog 69 #[.agg (rdc h t)] w (RdOk w (rcE h t.l) (rcP h t.l)) := by
  have hz := zpkP
  have hzm := zmv
  have HK := hid k
  have R1 := hid (Row.new (w.alloc (.cells (rdc h t) 91)) 41 Pv.zero.cs)
  have S1 := hid ((Row.new w 91 (rdc h t)).alloc (.cells Pv.zero.cs 41))
  have B1 := hid (balloc (balloc (Below.refl w.heap.size w) (.cells (rdc h t) 91)) (.cells Pv.zero.cs 41))
  have hs1 : (w.alloc (.cells (rdc h t) 91)).heap.size = w.heap.size + 1 := World.size_alloc ..
  rw [hs1] at R1
  have T1 := hid (ht.below B1.out)
  have V1 := hid (hV.below B1.out)
  have HG : Hid (w.heap.size ≤ w.heap.size + 1) := hid (Nat.le_succ _)
  have c37 := rdc_t k S1.out
  have HTO := hid ht.2
  have HTL := hid ht.1.1
  have HSm := hid hs
  have HNX := hid hnx
  have HE : Hid (rcE h t.l = 4) := hid (rcE_1 h4)
  have HP : Hid (rcP h t.l = Pp.zero) := hid (rcP_bad (by rw [HE.out]; decide))
  have H4 := hid h4
  have V0B := hid hV.le
  clear h4
  clear k ht hs hnx hV
  go_enter Tryz.func69, Tryz.ntmps69
  go_upto_region 1 with fail
  generalize (w.alloc (.cells (rdc h t) 91)).alloc (.cells Pv.zero.cs 41) = w1 at *
  clear hs1
  generalize hg1 : w.heap.size + 1 = g1 at *
  have HG1 := hid hg1
  clear hg1
  go_wp2_with fail
  refine (over_any t.a t.n t.cap t.l _ T1.out.1 T1.out.2 (by have := HSm.out; omega)).mono ?_
  rintro e w2 ⟨c, a2, k2, rfl, hc, hb, hc1, hc2⟩
  have R2 := hid (R1.out.below hb)
  have S2 := hid (S1.out.below hb)
  have B2 := hid (bthen B1.out hb)
  have T2 := hid (T1.out.below hb)
  have V2 := hid (V1.out.below hb)
  have C2 := hid hc
  have HC := hid hc1
  have HR := hid R1.out.lt
  have HS := hid S1.out.lt
  have HW := hid B1.out.size
  clear hc hb hc1 hc2 R1 S1 T1 V1 c37 B1
  go_wp2_with fail
  refine (take_any _ c a2 t.n k2 _ t.l _ 1 C2.out).mono ?_
  rintro e w3 ⟨rfl, hc, hg, hz3⟩
  have R3 := hid (R2.out.kept hg (fun e => absurd (Option.some.inj e) (by have := HC.out; have := HR.out; omega)))
  have S3 := hid (S2.out.kept hg (fun e => absurd (Option.some.inj e) (by have := HC.out; have := HS.out; omega)))
  have B3 := hid (bgrown B2.out hg (by have := HC.out; have := HW.out; omega))
  have C3 := hid hc
  have V3 := hid (V2.out.grown hg (by have := HC.out; have := V0B.out; have := HW.out; omega))
  have T3 : Hid (t.ok w3) := hid ⟨T2.out.1.grown C2.out.noU8 hg, T2.out.2⟩
  clear hc hg hz3 R2 S2 B2 C2 V2 T2
  go_wp2_with fail
  refine (take_any _ c a2 t.n k2 _ t.l _ 1 C3.out).mono ?_
  rintro e w4 ⟨rfl, hc, hg, hz4⟩
  have R4 := hid (R3.out.kept hg (fun e => absurd (Option.some.inj e) (by have := HC.out; have := HR.out; omega)))
  have S4 := hid (S3.out.kept hg (fun e => absurd (Option.some.inj e) (by have := HC.out; have := HS.out; omega)))
  have B4 := hid (bgrown B3.out hg (by have := HC.out; have := HW.out; omega))
  have C4 := hid hc
  have V4 := hid (V3.out.grown hg (by have := HC.out; have := V0B.out; have := HW.out; omega))
  have T4 : Hid (t.ok w4) := hid ⟨T3.out.1.grown C3.out.noU8 hg, T3.out.2⟩
  clear hc hg hz4 R3 S3 B3 C3 V3 T3
  go_wp2_with fail
  refine (take_any _ c a2 t.n k2 _ t.l _ 2 C4.out).mono ?_
  rintro e w5 ⟨rfl, hc, hg, hz5⟩
  rw [take3_small (by have := HTL.out; have := H4.out; omega)] at hc
  have R5 := hid (R4.out.kept hg (fun e => absurd (Option.some.inj e) (by have := HC.out; have := HR.out; omega)))
  have S5 := hid (S4.out.kept hg (fun e => absurd (Option.some.inj e) (by have := HC.out; have := HS.out; omega)))
  have B5 := hid (bgrown B4.out hg (by have := HC.out; have := HW.out; omega))
  have C5 := hid hc
  have V5 := hid (V4.out.grown hg (by have := HC.out; have := V0B.out; have := HW.out; omega))
  have T5 : Hid (t.ok w5) := hid ⟨T4.out.1.grown C4.out.noU8 hg, T4.out.2⟩
  clear hc hg hz5 R4 S4 B4 C4 V4 T4
  go_wp2_with fail
  refine (err_any _ c 4 C5.out.cell2).mono ?_
  rintro e w5 ⟨rfl, rfl⟩
  go_wp2_with (refine bdPz ptP rfl rfl ?_)
  refine (err_any _ c 4 C5.out.cell2).mono ?_
  rintro e w5 ⟨rfl, rfl⟩
  go_wp2_with (first | (refine bdPz ptP rfl rfl ?_) | (refine stP ptP _ _ rfl rfl g1 Pv.zero Pv.zero_fit rfl rfl 41 Pv.zero Pv.zero_fit R5.out ?_))
  refine bodyPost_ret (resPe ptP rfl _ _ g1 41 Pv.zero Pv.zero_fit (.int .i64 (4)) rfl rfl (R5.out.setRow _)) rfl ?_
  exact ⟨Pv.zero, by rw [HE.out], hid (POwn.zero _ _), HP.out.symm, hid (below_setRow' B5.out HG.out _)⟩
set_option maxRecDepth 100000 in
set_option maxHeartbeats 3200000 in
theorem rdCtl2 {B : Nat} (h : Hd) (t : Txt) (k : h.ok) (w : World) (ht : t.ok w) (hs : t.n ≤ 1280) (hnx : h.nx = 58) (hV : CV B w) (h4 : ¬ t.l.length < 4) (h5 : chkB h.f h.t 58 t.l = false) :
    Calls Tryz.prog 69 #[.agg (rdc h t)] w (RdOk w (rcE h t.l) (rcP h t.l)) := by
  have hz := zpkP
  have hzm := zmv
  have HK := hid k
  have R1 := hid (Row.new (w.alloc (.cells (rdc h t) 91)) 41 Pv.zero.cs)
  have S1 := hid ((Row.new w 91 (rdc h t)).alloc (.cells Pv.zero.cs 41))
  have B1 := hid (balloc (balloc (Below.refl w.heap.size w) (.cells (rdc h t) 91)) (.cells Pv.zero.cs 41))
  have hs1 : (w.alloc (.cells (rdc h t) 91)).heap.size = w.heap.size + 1 := World.size_alloc ..
  rw [hs1] at R1
  have T1 := hid (ht.below B1.out)
  have V1 := hid (hV.below B1.out)
  have HG : Hid (w.heap.size ≤ w.heap.size + 1) := hid (Nat.le_succ _)
  have c37 := rdc_t k S1.out
  have HTO := hid ht.2
  have HTL := hid ht.1.1
  have HSm := hid hs
  have HNX := hid hnx
  obtain ⟨K0, hk0⟩ : ∃ K0, K0 = t.l.getD 0 0 := ⟨_, rfl⟩
  obtain ⟨K1, hk1⟩ : ∃ K1, K1 = t.l.getD 1 0 := ⟨_, rfl⟩
  have HK0 := hid hk0
  have HK1 := hid hk1
  have HE : Hid (rcE h t.l = 5) := hid (rcE_2 h4 h5)
  have HP : Hid (rcP h t.l = Pp.zero) := hid (rcP_bad (by rw [HE.out]; decide))
  have HCK := hid h5
  have H4 := hid h4
  have V0B := hid hV.le
  clear h4 h5 hk0 hk1
  clear k ht hs hnx hV
  go_enter Tryz.func69, Tryz.ntmps69
  go_upto_region 1 with fail
  generalize (w.alloc (.cells (rdc h t) 91)).alloc (.cells Pv.zero.cs 41) = w1 at *
  clear hs1
  generalize hg1 : w.heap.size + 1 = g1 at *
  have HG1 := hid hg1
  clear hg1
  go_wp2_with fail
  refine (over_any t.a t.n t.cap t.l _ T1.out.1 T1.out.2 (by have := HSm.out; omega)).mono ?_
  rintro e w2 ⟨c, a2, k2, rfl, hc, hb, hc1, hc2⟩
  have R2 := hid (R1.out.below hb)
  have S2 := hid (S1.out.below hb)
  have B2 := hid (bthen B1.out hb)
  have T2 := hid (T1.out.below hb)
  have V2 := hid (V1.out.below hb)
  have C2 := hid hc
  have HC := hid hc1
  have HR := hid R1.out.lt
  have HS := hid S1.out.lt
  have HW := hid B1.out.size
  clear hc hb hc1 hc2 R1 S1 T1 V1 c37 B1
  go_wp2_with fail
  refine (take_ok _ c a2 t.n k2 0 t.l 1 1 C2.out rfl (by decide) (by have := H4.out; have := HTL.out; omega)).mono ?_
  rintro e w3 ⟨rfl, hc, hg, hz3⟩
  rw [num1 t.l 0 (by have := H4.out; omega), ← HK0.out]
  rw [show 0 + 1 = 1 from rfl] at hc
  have R3 := hid (R2.out.kept hg (fun e => absurd (Option.some.inj e) (by have := HC.out; have := HR.out; omega)))
  have S3 := hid (S2.out.kept hg (fun e => absurd (Option.some.inj e) (by have := HC.out; have := HS.out; omega)))
  have B3 := hid (bgrown B2.out hg (by have := HC.out; have := HW.out; omega))
  have C3 := hid hc
  have V3 := hid (V2.out.grown hg (by have := HC.out; have := V0B.out; have := HW.out; omega))
  have T3 : Hid (t.ok w3) := hid ⟨T2.out.1.grown C2.out.noU8 hg, T2.out.2⟩
  clear hc hg hz3 R2 S2 B2 C2 V2 T2
  go_wp2_with fail
  refine (take_ok _ c a2 t.n k2 1 t.l 1 1 C3.out rfl (by decide) (by have := H4.out; have := HTL.out; omega)).mono ?_
  rintro e w4 ⟨rfl, hc, hg, hz4⟩
  rw [num1 t.l 1 (by have := H4.out; omega), ← HK1.out]
  rw [show 1 + 1 = 2 from rfl] at hc
  have R4 := hid (R3.out.kept hg (fun e => absurd (Option.some.inj e) (by have := HC.out; have := HR.out; omega)))
  have S4 := hid (S3.out.kept hg (fun e => absurd (Option.some.inj e) (by have := HC.out; have := HS.out; omega)))
  have B4 := hid (bgrown B3.out hg (by have := HC.out; have := HW.out; omega))
  have C4 := hid hc
  have V4 := hid (V3.out.grown hg (by have := HC.out; have := V0B.out; have := HW.out; omega))
  have T4 : Hid (t.ok w4) := hid ⟨T3.out.1.grown C3.out.noU8 hg, T3.out.2⟩
  clear hc hg hz4 R3 S3 B3 C3 V3 T3
  go_wp2_with fail
  refine (take_ok _ c a2 t.n k2 2 t.l 2 2 C4.out rfl (by decide) (by have := H4.out; have := HTL.out; omega)).mono ?_
  rintro e w5 ⟨rfl, hc, hg, hz5⟩
  rw [show 2 + 2 = 4 from rfl] at hc
  have R5 := hid (R4.out.kept hg (fun e => absurd (Option.some.inj e) (by have := HC.out; have := HR.out; omega)))
  have S5 := hid (S4.out.kept hg (fun e => absurd (Option.some.inj e) (by have := HC.out; have := HS.out; omega)))
  have B5 := hid (bgrown B4.out hg (by have := HC.out; have := HW.out; omega))
  have C5 := hid hc
  have V5 := hid (V4.out.grown hg (by have := HC.out; have := V0B.out; have := HW.out; omega))
  have T5 : Hid (t.ok w5) := hid ⟨T4.out.1.grown C4.out.noU8 hg, T4.out.2⟩
  clear hc hg hz5 R4 S4 B4 C4 V4 T4
  go_wp2_with fail
  refine (err_any _ c 0 C5.out.cell2).mono ?_
  rintro e w5 ⟨rfl, rfl⟩
  have c3 : w5.cell? ⟨w.heap.size, 3, none⟩ = some (.int .i64 58) := by rw [← HNX.out]; exact (rdc_h S5.out).at 3 _ h.at3
  have c37 := rdc_t HK.out S5.out
  go_wp2_with (first | (refine ldAd _ rfl rfl w.heap.size 5 rfl h.f HK.out.1.1 (by have := Hd.pF (rdc_h S5.out); rwa [Nat.zero_add] at this) ?_) | (refine ldAd _ rfl rfl w.heap.size 21 rfl h.t HK.out.2.1 (by have := Hd.pT HK.out (rdc_h S5.out); rwa [Nat.zero_add] at this) ?_))
  refine (check_any h.f h.t 58 t.a t.n t.cap t.l _ HK.out.1 HK.out.2 T5.out.1 T5.out.2).mono ?_
  rintro e w6 ⟨rfl, hb⟩
  rw [HCK.out]
  have R6 := hid (R5.out.below hb)
  have S6 := hid (S5.out.below hb)
  have B6 := hid (bthen B5.out hb)
  have C6 := hid (C5.out.below hb)
  have V6 := hid (V5.out.below hb)
  clear hb c3 c37 R5 S5 B5 C5 V5 T5
  go_wp2_with (first | (refine bdPz ptP rfl rfl ?_) | (refine stP ptP _ _ rfl rfl g1 Pv.zero Pv.zero_fit rfl rfl 41 Pv.zero Pv.zero_fit R6.out ?_))
  refine bodyPost_ret (resPe ptP rfl _ _ g1 41 Pv.zero Pv.zero_fit (.int .i64 (5)) rfl rfl (R6.out.setRow _)) rfl ?_
  exact ⟨Pv.zero, by rw [HE.out], hid (POwn.zero _ _), HP.out.symm, hid (below_setRow' B6.out HG.out _)⟩
set_option maxRecDepth 100000 in
set_option maxHeartbeats 3200000 in
theorem rdCtl3 {B : Nat} (h : Hd) (t : Txt) (k : h.ok) (w : World) (ht : t.ok w) (hs : t.n ≤ 1280) (hnx : h.nx = 58) (hV : CV B w) (h4 : ¬ t.l.length < 4) (h5 : chkB h.f h.t 58 t.l = true) (h6 : t.l.getD 0 0 ≠ 155) :
    Calls Tryz.prog 69 #[.agg (rdc h t)] w (RdOk w (rcE h t.l) (rcP h t.l)) := by
  have hz := zpkP
  have hzm := zmv
  have HK := hid k
  have R1 := hid (Row.new (w.alloc (.cells (rdc h t) 91)) 41 Pv.zero.cs)
  have S1 := hid ((Row.new w 91 (rdc h t)).alloc (.cells Pv.zero.cs 41))
  have B1 := hid (balloc (balloc (Below.refl w.heap.size w) (.cells (rdc h t) 91)) (.cells Pv.zero.cs 41))
  have hs1 : (w.alloc (.cells (rdc h t) 91)).heap.size = w.heap.size + 1 := World.size_alloc ..
  rw [hs1] at R1
  have T1 := hid (ht.below B1.out)
  have V1 := hid (hV.below B1.out)
  have HG : Hid (w.heap.size ≤ w.heap.size + 1) := hid (Nat.le_succ _)
  have c37 := rdc_t k S1.out
  have HTO := hid ht.2
  have HTL := hid ht.1.1
  have HSm := hid hs
  have HNX := hid hnx
  obtain ⟨K0, hk0⟩ : ∃ K0, K0 = t.l.getD 0 0 := ⟨_, rfl⟩
  obtain ⟨K1, hk1⟩ : ∃ K1, K1 = t.l.getD 1 0 := ⟨_, rfl⟩
  have HK0 := hid hk0
  have HK1 := hid hk1
  have HE : Hid (rcE h t.l = 6) := hid (rcE_3 h4 h5 h6)
  have HP : Hid (rcP h t.l = Pp.zero) := hid (rcP_bad (by rw [HE.out]; decide))
  have HCK := hid h5
  have hq : (K0 != 155) = true := by rw [hk0]; exact bne_iff_ne.2 h6
  have H4 := hid h4
  have V0B := hid hV.le
  clear h4 h5 h6 hk0 hk1
  clear k ht hs hnx hV
  go_enter Tryz.func69, Tryz.ntmps69
  go_upto_region 1 with fail
  generalize (w.alloc (.cells (rdc h t) 91)).alloc (.cells Pv.zero.cs 41) = w1 at *
  clear hs1
  generalize hg1 : w.heap.size + 1 = g1 at *
  have HG1 := hid hg1
  clear hg1
  go_wp2_with fail
  refine (over_any t.a t.n t.cap t.l _ T1.out.1 T1.out.2 (by have := HSm.out; omega)).mono ?_
  rintro e w2 ⟨c, a2, k2, rfl, hc, hb, hc1, hc2⟩
  have R2 := hid (R1.out.below hb)
  have S2 := hid (S1.out.below hb)
  have B2 := hid (bthen B1.out hb)
  have T2 := hid (T1.out.below hb)
  have V2 := hid (V1.out.below hb)
  have C2 := hid hc
  have HC := hid hc1
  have HR := hid R1.out.lt
  have HS := hid S1.out.lt
  have HW := hid B1.out.size
  clear hc hb hc1 hc2 R1 S1 T1 V1 c37 B1
  go_wp2_with fail
  refine (take_ok _ c a2 t.n k2 0 t.l 1 1 C2.out rfl (by decide) (by have := H4.out; have := HTL.out; omega)).mono ?_
  rintro e w3 ⟨rfl, hc, hg, hz3⟩
  rw [num1 t.l 0 (by have := H4.out; omega), ← HK0.out]
  rw [show 0 + 1 = 1 from rfl] at hc
  have R3 := hid (R2.out.kept hg (fun e => absurd (Option.some.inj e) (by have := HC.out; have := HR.out; omega)))
  have S3 := hid (S2.out.kept hg (fun e => absurd (Option.some.inj e) (by have := HC.out; have := HS.out; omega)))
  have B3 := hid (bgrown B2.out hg (by have := HC.out; have := HW.out; omega))
  have C3 := hid hc
  have V3 := hid (V2.out.grown hg (by have := HC.out; have := V0B.out; have := HW.out; omega))
  have T3 : Hid (t.ok w3) := hid ⟨T2.out.1.grown C2.out.noU8 hg, T2.out.2⟩
  clear hc hg hz3 R2 S2 B2 C2 V2 T2
  go_wp2_with fail
  refine (take_ok _ c a2 t.n k2 1 t.l 1 1 C3.out rfl (by decide) (by have := H4.out; have := HTL.out; omega)).mono ?_
  rintro e w4 ⟨rfl, hc, hg, hz4⟩
  rw [num1 t.l 1 (by have := H4.out; omega), ← HK1.out]
  rw [show 1 + 1 = 2 from rfl] at hc
  have R4 := hid (R3.out.kept hg (fun e => absurd (Option.some.inj e) (by have := HC.out; have := HR.out; omega)))
  have S4 := hid (S3.out.kept hg (fun e => absurd (Option.some.inj e) (by have := HC.out; have := HS.out; omega)))
  have B4 := hid (bgrown B3.out hg (by have := HC.out; have := HW.out; omega))
  have C4 := hid hc
  have V4 := hid (V3.out.grown hg (by have := HC.out; have := V0B.out; have := HW.out; omega))
  have T4 : Hid (t.ok w4) := hid ⟨T3.out.1.grown C3.out.noU8 hg, T3.out.2⟩
  clear hc hg hz4 R3 S3 B3 C3 V3 T3
  go_wp2_with fail
  refine (take_ok _ c a2 t.n k2 2 t.l 2 2 C4.out rfl (by decide) (by have := H4.out; have := HTL.out; omega)).mono ?_
  rintro e w5 ⟨rfl, hc, hg, hz5⟩
  rw [show 2 + 2 = 4 from rfl] at hc
  have R5 := hid (R4.out.kept hg (fun e => absurd (Option.some.inj e) (by have := HC.out; have := HR.out; omega)))
  have S5 := hid (S4.out.kept hg (fun e => absurd (Option.some.inj e) (by have := HC.out; have := HS.out; omega)))
  have B5 := hid (bgrown B4.out hg (by have := HC.out; have := HW.out; omega))
  have C5 := hid hc
  have V5 := hid (V4.out.grown hg (by have := HC.out; have := V0B.out; have := HW.out; omega))
  have T5 : Hid (t.ok w5) := hid ⟨T4.out.1.grown C4.out.noU8 hg, T4.out.2⟩
  clear hc hg hz5 R4 S4 B4 C4 V4 T4
  go_wp2_with fail
  refine (err_any _ c 0 C5.out.cell2).mono ?_
  rintro e w5 ⟨rfl, rfl⟩
  have c3 : w5.cell? ⟨w.heap.size, 3, none⟩ = some (.int .i64 58) := by rw [← HNX.out]; exact (rdc_h S5.out).at 3 _ h.at3
  have c37 := rdc_t HK.out S5.out
  go_wp2_with (first | (refine ldAd _ rfl rfl w.heap.size 5 rfl h.f HK.out.1.1 (by have := Hd.pF (rdc_h S5.out); rwa [Nat.zero_add] at this) ?_) | (refine ldAd _ rfl rfl w.heap.size 21 rfl h.t HK.out.2.1 (by have := Hd.pT HK.out (rdc_h S5.out); rwa [Nat.zero_add] at this) ?_))
  refine (check_any h.f h.t 58 t.a t.n t.cap t.l _ HK.out.1 HK.out.2 T5.out.1 T5.out.2).mono ?_
  rintro e w6 ⟨rfl, hb⟩
  rw [HCK.out]
  have R6 := hid (R5.out.below hb)
  have S6 := hid (S5.out.below hb)
  have B6 := hid (bthen B5.out hb)
  have C6 := hid (C5.out.below hb)
  have V6 := hid (V5.out.below hb)
  clear hb c3 c37 R5 S5 B5 C5 V5 T5
  go_wp2_with (first | (refine bdPz ptP rfl rfl ?_) | (refine stP ptP _ _ rfl rfl g1 Pv.zero Pv.zero_fit rfl rfl 41 Pv.zero Pv.zero_fit R6.out ?_))
  refine bodyPost_ret (resPe ptP rfl _ _ g1 41 Pv.zero Pv.zero_fit (.int .i64 (6)) rfl rfl (R6.out.setRow _)) rfl ?_
  exact ⟨Pv.zero, by rw [HE.out], hid (POwn.zero _ _), HP.out.symm, hid (below_setRow' B6.out HG.out _)⟩
end Go.Proofs.YtbklpelikaapoaaGreatDoor

namespace Go.Proofs.YtbklpelikaapoaaGreatDoor
open Go.ChangeShapes Go.WideShapes Go.ChangeAt Go.RowKit Go.Deep
set_option linter.unusedVariables false
set_option linter.unusedSimpArgs false

set_option maxRecDepth 100000 in
set_option maxHeartbeats 3200000 in
theorem rdCtl4 {B : Nat} (h : Hd) (t : Txt) (k : h.ok) (w : World) (ht : t.ok w) (hs : t.n ≤ 1280) (hnx : h.nx = 58) (hV : CV B w) (h4 : ¬ t.l.length < 4) (h5 : chkB h.f h.t 58 t.l = true) (h6 : t.l.getD 0 0 = 155) (h7 : dE (t.l.getD 1 0) (t.l.drop 4) ≠ 0) :
    Calls Tryz.prog 69 #[.agg (rdc h t)] w (RdOk w (rcE h t.l) (rcP h t.l)) := by
  have hz := zpkP
  have hzm := zmv
  have HK := hid k
  have R1 := hid (Row.new (w.alloc (.cells (rdc h t) 91)) 41 Pv.zero.cs)
  have S1 := hid ((Row.new w 91 (rdc h t)).alloc (.cells Pv.zero.cs 41))
  have B1 := hid (balloc (balloc (Below.refl w.heap.size w) (.cells (rdc h t) 91)) (.cells Pv.zero.cs 41))
  have hs1 : (w.alloc (.cells (rdc h t) 91)).heap.size = w.heap.size + 1 := World.size_alloc ..
  rw [hs1] at R1
  have T1 := hid (ht.below B1.out)
  have V1 := hid (hV.below B1.out)
  have HG : Hid (w.heap.size ≤ w.heap.size + 1) := hid (Nat.le_succ _)
  have c37 := rdc_t k S1.out
  have HTO := hid ht.2
  have HTL := hid ht.1.1
  have HSm := hid hs
  have HNX := hid hnx
  obtain ⟨K0, hk0⟩ : ∃ K0, K0 = t.l.getD 0 0 := ⟨_, rfl⟩
  obtain ⟨K1, hk1⟩ : ∃ K1, K1 = t.l.getD 1 0 := ⟨_, rfl⟩
  have HK0 := hid hk0
  have HK1 := hid hk1
  have HE : Hid (rcE h t.l = dE K1 (t.l.drop 4)) := hid (by rw [hk1]; exact rcE_4 h4 h5 h6)
  have HP : Hid (rcP h t.l = Pp.zero) := hid (rcP_bad (by rw [HE.out, hk1]; exact h7))
  have HCK := hid h5
  have hq : (K0 != 155) = false := by rw [hk0, h6]; rfl
  have hq2 : (dE K1 (t.l.drop 4) != 0) = true := by rw [hk1]; exact bne_iff_ne.2 h7
  have H4 := hid h4
  have V0B := hid hV.le
  clear h4 h5 h6 h7 hk0 hk1
  clear k ht hs hnx hV
  go_enter Tryz.func69, Tryz.ntmps69
  go_upto_region 1 with fail
  generalize (w.alloc (.cells (rdc h t) 91)).alloc (.cells Pv.zero.cs 41) = w1 at *
  clear hs1
  generalize hg1 : w.heap.size + 1 = g1 at *
  have HG1 := hid hg1
  clear hg1
  go_wp2_with fail
  refine (over_any t.a t.n t.cap t.l _ T1.out.1 T1.out.2 (by have := HSm.out; omega)).mono ?_
  rintro e w2 ⟨c, a2, k2, rfl, hc, hb, hc1, hc2⟩
  have R2 := hid (R1.out.below hb)
  have S2 := hid (S1.out.below hb)
  have B2 := hid (bthen B1.out hb)
  have T2 := hid (T1.out.below hb)
  have V2 := hid (V1.out.below hb)
  have C2 := hid hc
  have HC := hid hc1
  have HR := hid R1.out.lt
  have HS := hid S1.out.lt
  have HW := hid B1.out.size
  clear hc hb hc1 hc2 R1 S1 T1 V1 c37 B1
  go_wp2_with fail
  refine (take_ok _ c a2 t.n k2 0 t.l 1 1 C2.out rfl (by decide) (by have := H4.out; have := HTL.out; omega)).mono ?_
  rintro e w3 ⟨rfl, hc, hg, hz3⟩
  rw [num1 t.l 0 (by have := H4.out; omega), ← HK0.out]
  rw [show 0 + 1 = 1 from rfl] at hc
  have R3 := hid (R2.out.kept hg (fun e => absurd (Option.some.inj e) (by have := HC.out; have := HR.out; omega)))
  have S3 := hid (S2.out.kept hg (fun e => absurd (Option.some.inj e) (by have := HC.out; have := HS.out; omega)))
  have B3 := hid (bgrown B2.out hg (by have := HC.out; have := HW.out; omega))
  have C3 := hid hc
  have V3 := hid (V2.out.grown hg (by have := HC.out; have := V0B.out; have := HW.out; omega))
  have T3 : Hid (t.ok w3) := hid ⟨T2.out.1.grown C2.out.noU8 hg, T2.out.2⟩
  clear hc hg hz3 R2 S2 B2 C2 V2 T2
  go_wp2_with fail
  refine (take_ok _ c a2 t.n k2 1 t.l 1 1 C3.out rfl (by decide) (by have := H4.out; have := HTL.out; omega)).mono ?_
  rintro e w4 ⟨rfl, hc, hg, hz4⟩
  rw [num1 t.l 1 (by have := H4.out; omega), ← HK1.out]
  rw [show 1 + 1 = 2 from rfl] at hc
  have R4 := hid (R3.out.kept hg (fun e => absurd (Option.some.inj e) (by have := HC.out; have := HR.out; omega)))
  have S4 := hid (S3.out.kept hg (fun e => absurd (Option.some.inj e) (by have := HC.out; have := HS.out; omega)))
  have B4 := hid (bgrown B3.out hg (by have := HC.out; have := HW.out; omega))
  have C4 := hid hc
  have V4 := hid (V3.out.grown hg (by have := HC.out; have := V0B.out; have := HW.out; omega))
  have T4 : Hid (t.ok w4) := hid ⟨T3.out.1.grown C3.out.noU8 hg, T3.out.2⟩
  clear hc hg hz4 R3 S3 B3 C3 V3 T3
  go_wp2_with fail
  refine (take_ok _ c a2 t.n k2 2 t.l 2 2 C4.out rfl (by decide) (by have := H4.out; have := HTL.out; omega)).mono ?_
  rintro e w5 ⟨rfl, hc, hg, hz5⟩
  rw [show 2 + 2 = 4 from rfl] at hc
  have R5 := hid (R4.out.kept hg (fun e => absurd (Option.some.inj e) (by have := HC.out; have := HR.out; omega)))
  have S5 := hid (S4.out.kept hg (fun e => absurd (Option.some.inj e) (by have := HC.out; have := HS.out; omega)))
  have B5 := hid (bgrown B4.out hg (by have := HC.out; have := HW.out; omega))
  have C5 := hid hc
  have V5 := hid (V4.out.grown hg (by have := HC.out; have := V0B.out; have := HW.out; omega))
  have T5 : Hid (t.ok w5) := hid ⟨T4.out.1.grown C4.out.noU8 hg, T4.out.2⟩
  clear hc hg hz5 R4 S4 B4 C4 V4 T4
  go_wp2_with fail
  refine (err_any _ c 0 C5.out.cell2).mono ?_
  rintro e w5 ⟨rfl, rfl⟩
  have c3 : w5.cell? ⟨w.heap.size, 3, none⟩ = some (.int .i64 58) := by rw [← HNX.out]; exact (rdc_h S5.out).at 3 _ h.at3
  have c37 := rdc_t HK.out S5.out
  go_wp2_with (first | (refine ldAd _ rfl rfl w.heap.size 5 rfl h.f HK.out.1.1 (by have := Hd.pF (rdc_h S5.out); rwa [Nat.zero_add] at this) ?_) | (refine ldAd _ rfl rfl w.heap.size 21 rfl h.t HK.out.2.1 (by have := Hd.pT HK.out (rdc_h S5.out); rwa [Nat.zero_add] at this) ?_))
  refine (check_any h.f h.t 58 t.a t.n t.cap t.l _ HK.out.1 HK.out.2 T5.out.1 T5.out.2).mono ?_
  rintro e w6 ⟨rfl, hb⟩
  rw [HCK.out]
  have R6 := hid (R5.out.below hb)
  have S6 := hid (S5.out.below hb)
  have B6 := hid (bthen B5.out hb)
  have C6 := hid (C5.out.below hb)
  have V6 := hid (V5.out.below hb)
  clear hb c3 c37 R5 S5 B5 C5 V5 T5
  go_wp2_with fail
  refine (left_any _ c a2 t.n k2 4 t.l 0 C6.out).mono ?_
  rintro e w7 ⟨rfl, q, rfl⟩
  have hb : Below w6.heap.size w6 (w6.drewN q) := bdrew (Below.refl _ _) q
  have R7 := hid (R6.out.below hb)
  have S7 := hid (S6.out.below hb)
  have B7 := hid (bthen B6.out hb)
  have C7 := hid (C6.out.below hb)
  have V7 := hid (V6.out.below hb)
  clear hb R6 S6 B6 C6 V6
  generalize w6.drewN q = w7 at *
  go_wp2_with fail
  refine (bytes_ok _ c a2 t.n k2 4 t.l ((t.n : Int) - ((4 : Nat) : Int)) (t.n - 4) C7.out (by have := H4.out; have := HTL.out; omega) (by have := H4.out; have := HTL.out; omega)).mono ?_
  rintro e w8 ⟨v8, rfl, hown, hc, hg⟩
  have hx4 : (t.l.drop 4).take (t.n - 4) = t.l.drop 4 := List.take_of_length_le (by rw [List.length_drop, HTL.out]; exact Nat.le_refl _)
  have hx5 : (t.l.drop 4).length = t.n - 4 := by rw [List.length_drop, HTL.out]
  rw [hx4] at hown
  rw [← hx5] at hown
  obtain ⟨a8, k8, rfl, hl8, _⟩ := owns_lies hown
  have L8 := hid hl8
  have R8 := hid (R7.out.kept hg (fun e => absurd (Option.some.inj e) (by have := HC.out; have := HR.out; omega)))
  have S8 := hid (S7.out.kept hg (fun e => absurd (Option.some.inj e) (by have := HC.out; have := HS.out; omega)))
  have B8 := hid (bgrown B7.out hg (by have := HC.out; have := HW.out; omega))
  have V8 := hid (V7.out.grown hg (by have := HC.out; have := V0B.out; have := HW.out; omega))
  have HX5 : Hid ((t.l.drop 4).length ≤ 1280) := hid (by have := HSm.out; omega)
  have HXO : Hid (Oct (t.l.drop 4)) := hid (oct_drop HTO.out 4)
  clear hown hl8 hc hg hx4 hx5 R7 S7 B7 C7 V7
  generalize t.l.drop 4 = X at *
  generalize X.length = xn at *
  go_wp2_with fail
  refine (cDecode_any K1 a8 xn k8 X _ L8.out HXO.out (by have := HX5.out; omega) V8.out).mono ?_
  rintro e w9 ⟨m, rfl, hmo, hmp, hb9⟩
  have hb := hb9.out
  have R9 := hid (R8.out.below hb)
  have S9 := hid (S8.out.below hb)
  have B9 := hid (bthen B8.out hb)
  have M9 := hid (hmo.out.mono B8.out.size)
  have HMP := hid hmp.out
  have HMR := hid hmo.out.ro
  clear hb hb9 hmo hmp R8 S8 B8 V8 L8
  have Z3 := hid (layM_new w9 38 m)
  have b3 := layM_below w9 38 m
  have R3 := hid (R9.out.below b3)
  have S3 := hid (S9.out.below b3)
  have B3 := hid (bthen B9.out b3)
  have M3 := hid (M9.out.below b3)
  have HR9 := hid R9.out.lt
  clear b3 R9 S9 B9 M9
  go_upto_region 12 with (refine stM m29 _ _ rfl rfl w9.heap.size m HMR.out rfl rfl 38 Mv.zero adr_zeros (Row.new w9 38 _) ?_)
  generalize (w9.alloc (.cells Mv.zero.cs 38)).setRow w9.heap.size m.cs = w10 at *
  generalize w9.heap.size = g9 at *
  generalize dE K1 X = E at *
  go_wp2_with (first | (refine bdPz ptP rfl rfl ?_) | (refine stP ptP _ _ rfl rfl g1 Pv.zero Pv.zero_fit rfl rfl 41 Pv.zero Pv.zero_fit R3.out ?_))
  refine bodyPost_ret (resPe ptP rfl _ _ g1 41 Pv.zero Pv.zero_fit (.int .i64 (E)) rfl rfl (R3.out.setRow _)) rfl ?_
  exact ⟨Pv.zero, by rw [HE.out], hid (POwn.zero _ _), HP.out.symm, hid (below_setRow' B3.out HG.out _)⟩
set_option maxRecDepth 100000 in
set_option maxHeartbeats 3200000 in
theorem rdCtl5 {B : Nat} (h : Hd) (t : Txt) (k : h.ok) (w : World) (ht : t.ok w) (hs : t.n ≤ 1280) (hnx : h.nx = 58) (hV : CV B w) (h4 : ¬ t.l.length < 4) (h5 : chkB h.f h.t 58 t.l = true) (h6 : t.l.getD 0 0 = 155) (h7 : dE (t.l.getD 1 0) (t.l.drop 4) = 0) :
    Calls Tryz.prog 69 #[.agg (rdc h t)] w (RdOk w (rcE h t.l) (rcP h t.l)) := by
  have hz := zpkP
  have hzm := zmv
  have HK := hid k
  have R1 := hid (Row.new (w.alloc (.cells (rdc h t) 91)) 41 Pv.zero.cs)
  have S1 := hid ((Row.new w 91 (rdc h t)).alloc (.cells Pv.zero.cs 41))
  have B1 := hid (balloc (balloc (Below.refl w.heap.size w) (.cells (rdc h t) 91)) (.cells Pv.zero.cs 41))
  have hs1 : (w.alloc (.cells (rdc h t) 91)).heap.size = w.heap.size + 1 := World.size_alloc ..
  rw [hs1] at R1
  have T1 := hid (ht.below B1.out)
  have V1 := hid (hV.below B1.out)
  have HG : Hid (w.heap.size ≤ w.heap.size + 1) := hid (Nat.le_succ _)
  have c37 := rdc_t k S1.out
  have HTO := hid ht.2
  have HTL := hid ht.1.1
  have HSm := hid hs
  have HNX := hid hnx
  obtain ⟨K0, hk0⟩ : ∃ K0, K0 = t.l.getD 0 0 := ⟨_, rfl⟩
  obtain ⟨K1, hk1⟩ : ∃ K1, K1 = t.l.getD 1 0 := ⟨_, rfl⟩
  have HK0 := hid hk0
  have HK1 := hid hk1
  have HE : Hid (rcE h t.l = 0) := hid ((rcE_4 h4 h5 h6).trans h7)
  have HP : Hid (rcP h t.l = ⟨h, false, dM K1 (t.l.drop 4), Ho.zero, 0, []⟩) := hid (by rw [rcP, if_pos HE.out, hk1])
  have HCK := hid h5
  have hq : (K0 != 155) = false := by rw [hk0, h6]; rfl
  have HDE : Hid (dE K1 (t.l.drop 4) = 0) := hid (by rw [hk1]; exact h7)
  have H4 := hid h4
  have V0B := hid hV.le
  clear h4 h5 h6 h7 hk0 hk1
  clear k ht hs hnx hV
  go_enter Tryz.func69, Tryz.ntmps69
  go_upto_region 1 with fail
  generalize (w.alloc (.cells (rdc h t) 91)).alloc (.cells Pv.zero.cs 41) = w1 at *
  clear hs1
  generalize hg1 : w.heap.size + 1 = g1 at *
  have HG1 := hid hg1
  clear hg1
  go_wp2_with fail
  refine (over_any t.a t.n t.cap t.l _ T1.out.1 T1.out.2 (by have := HSm.out; omega)).mono ?_
  rintro e w2 ⟨c, a2, k2, rfl, hc, hb, hc1, hc2⟩
  have R2 := hid (R1.out.below hb)
  have S2 := hid (S1.out.below hb)
  have B2 := hid (bthen B1.out hb)
  have T2 := hid (T1.out.below hb)
  have V2 := hid (V1.out.below hb)
  have C2 := hid hc
  have HC := hid hc1
  have HR := hid R1.out.lt
  have HS := hid S1.out.lt
  have HW := hid B1.out.size
  clear hc hb hc1 hc2 R1 S1 T1 V1 c37 B1
  go_wp2_with fail
  refine (take_ok _ c a2 t.n k2 0 t.l 1 1 C2.out rfl (by decide) (by have := H4.out; have := HTL.out; omega)).mono ?_
  rintro e w3 ⟨rfl, hc, hg, hz3⟩
  rw [num1 t.l 0 (by have := H4.out; omega), ← HK0.out]
  rw [show 0 + 1 = 1 from rfl] at hc
  have R3 := hid (R2.out.kept hg (fun e => absurd (Option.some.inj e) (by have := HC.out; have := HR.out; omega)))
  have S3 := hid (S2.out.kept hg (fun e => absurd (Option.some.inj e) (by have := HC.out; have := HS.out; omega)))
  have B3 := hid (bgrown B2.out hg (by have := HC.out; have := HW.out; omega))
  have C3 := hid hc
  have V3 := hid (V2.out.grown hg (by have := HC.out; have := V0B.out; have := HW.out; omega))
  have T3 : Hid (t.ok w3) := hid ⟨T2.out.1.grown C2.out.noU8 hg, T2.out.2⟩
  clear hc hg hz3 R2 S2 B2 C2 V2 T2
  go_wp2_with fail
  refine (take_ok _ c a2 t.n k2 1 t.l 1 1 C3.out rfl (by decide) (by have := H4.out; have := HTL.out; omega)).mono ?_
  rintro e w4 ⟨rfl, hc, hg, hz4⟩
  rw [num1 t.l 1 (by have := H4.out; omega), ← HK1.out]
  rw [show 1 + 1 = 2 from rfl] at hc
  have R4 := hid (R3.out.kept hg (fun e => absurd (Option.some.inj e) (by have := HC.out; have := HR.out; omega)))
  have S4 := hid (S3.out.kept hg (fun e => absurd (Option.some.inj e) (by have := HC.out; have := HS.out; omega)))
  have B4 := hid (bgrown B3.out hg (by have := HC.out; have := HW.out; omega))
  have C4 := hid hc
  have V4 := hid (V3.out.grown hg (by have := HC.out; have := V0B.out; have := HW.out; omega))
  have T4 : Hid (t.ok w4) := hid ⟨T3.out.1.grown C3.out.noU8 hg, T3.out.2⟩
  clear hc hg hz4 R3 S3 B3 C3 V3 T3
  go_wp2_with fail
  refine (take_ok _ c a2 t.n k2 2 t.l 2 2 C4.out rfl (by decide) (by have := H4.out; have := HTL.out; omega)).mono ?_
  rintro e w5 ⟨rfl, hc, hg, hz5⟩
  rw [show 2 + 2 = 4 from rfl] at hc
  have R5 := hid (R4.out.kept hg (fun e => absurd (Option.some.inj e) (by have := HC.out; have := HR.out; omega)))
  have S5 := hid (S4.out.kept hg (fun e => absurd (Option.some.inj e) (by have := HC.out; have := HS.out; omega)))
  have B5 := hid (bgrown B4.out hg (by have := HC.out; have := HW.out; omega))
  have C5 := hid hc
  have V5 := hid (V4.out.grown hg (by have := HC.out; have := V0B.out; have := HW.out; omega))
  have T5 : Hid (t.ok w5) := hid ⟨T4.out.1.grown C4.out.noU8 hg, T4.out.2⟩
  clear hc hg hz5 R4 S4 B4 C4 V4 T4
  go_wp2_with fail
  refine (err_any _ c 0 C5.out.cell2).mono ?_
  rintro e w5 ⟨rfl, rfl⟩
  have c3 : w5.cell? ⟨w.heap.size, 3, none⟩ = some (.int .i64 58) := by rw [← HNX.out]; exact (rdc_h S5.out).at 3 _ h.at3
  have c37 := rdc_t HK.out S5.out
  go_wp2_with (first | (refine ldAd _ rfl rfl w.heap.size 5 rfl h.f HK.out.1.1 (by have := Hd.pF (rdc_h S5.out); rwa [Nat.zero_add] at this) ?_) | (refine ldAd _ rfl rfl w.heap.size 21 rfl h.t HK.out.2.1 (by have := Hd.pT HK.out (rdc_h S5.out); rwa [Nat.zero_add] at this) ?_))
  refine (check_any h.f h.t 58 t.a t.n t.cap t.l _ HK.out.1 HK.out.2 T5.out.1 T5.out.2).mono ?_
  rintro e w6 ⟨rfl, hb⟩
  rw [HCK.out]
  have R6 := hid (R5.out.below hb)
  have S6 := hid (S5.out.below hb)
  have B6 := hid (bthen B5.out hb)
  have C6 := hid (C5.out.below hb)
  have V6 := hid (V5.out.below hb)
  clear hb c3 c37 R5 S5 B5 C5 V5 T5
  go_wp2_with fail
  refine (left_any _ c a2 t.n k2 4 t.l 0 C6.out).mono ?_
  rintro e w7 ⟨rfl, q, rfl⟩
  have hb : Below w6.heap.size w6 (w6.drewN q) := bdrew (Below.refl _ _) q
  have R7 := hid (R6.out.below hb)
  have S7 := hid (S6.out.below hb)
  have B7 := hid (bthen B6.out hb)
  have C7 := hid (C6.out.below hb)
  have V7 := hid (V6.out.below hb)
  clear hb R6 S6 B6 C6 V6
  generalize w6.drewN q = w7 at *
  go_wp2_with fail
  refine (bytes_ok _ c a2 t.n k2 4 t.l ((t.n : Int) - ((4 : Nat) : Int)) (t.n - 4) C7.out (by have := H4.out; have := HTL.out; omega) (by have := H4.out; have := HTL.out; omega)).mono ?_
  rintro e w8 ⟨v8, rfl, hown, hc, hg⟩
  have hx4 : (t.l.drop 4).take (t.n - 4) = t.l.drop 4 := List.take_of_length_le (by rw [List.length_drop, HTL.out]; exact Nat.le_refl _)
  have hx5 : (t.l.drop 4).length = t.n - 4 := by rw [List.length_drop, HTL.out]
  rw [hx4] at hown
  rw [← hx5] at hown
  obtain ⟨a8, k8, rfl, hl8, _⟩ := owns_lies hown
  have L8 := hid hl8
  have R8 := hid (R7.out.kept hg (fun e => absurd (Option.some.inj e) (by have := HC.out; have := HR.out; omega)))
  have S8 := hid (S7.out.kept hg (fun e => absurd (Option.some.inj e) (by have := HC.out; have := HS.out; omega)))
  have B8 := hid (bgrown B7.out hg (by have := HC.out; have := HW.out; omega))
  have V8 := hid (V7.out.grown hg (by have := HC.out; have := V0B.out; have := HW.out; omega))
  have HX5 : Hid ((t.l.drop 4).length ≤ 1280) := hid (by have := HSm.out; omega)
  have HXO : Hid (Oct (t.l.drop 4)) := hid (oct_drop HTO.out 4)
  clear hown hl8 hc hg hx4 hx5 R7 S7 B7 C7 V7
  generalize t.l.drop 4 = X at *
  generalize X.length = xn at *
  go_wp2_with fail
  refine (cDecode_any K1 a8 xn k8 X _ L8.out HXO.out (by have := HX5.out; omega) V8.out).mono ?_
  rintro e w9 ⟨m, rfl, hmo, hmp, hb9⟩
  rw [HDE.out]
  have hb := hb9.out
  have R9 := hid (R8.out.below hb)
  have S9 := hid (S8.out.below hb)
  have B9 := hid (bthen B8.out hb)
  have M9 := hid (hmo.out.mono B8.out.size)
  have HMP := hid hmp.out
  have HMR := hid hmo.out.ro
  clear hb hb9 hmo hmp R8 S8 B8 V8 L8
  have Z3 := hid (layM_new w9 38 m)
  have b3 := layM_below w9 38 m
  have R3 := hid (R9.out.below b3)
  have S3 := hid (S9.out.below b3)
  have B3 := hid (bthen B9.out b3)
  have M3 := hid (M9.out.below b3)
  have HR9 := hid R9.out.lt
  clear b3 R9 S9 B9 M9
  go_upto_region 12 with (refine stM m29 _ _ rfl rfl w9.heap.size m HMR.out rfl rfl 38 Mv.zero adr_zeros (Row.new w9 38 _) ?_)
  generalize (w9.alloc (.cells Mv.zero.cs 38)).setRow w9.heap.size m.cs = w10 at *
  generalize w9.heap.size = g9 at *
  obtain ⟨P, hP⟩ : ∃ P : Pv, P = ⟨h, false, m, Ho.zero, 0, Txt.none⟩ := ⟨_, rfl⟩
  have kP : Hid P.fit := hid (by rw [hP]; exact ⟨HK.out, HMR.out⟩)
  have HPp : Hid (P.p = rcP h t.l) := hid (by rw [HP.out, hP]; show (⟨h, false, m.p, Ho.zero, 0, []⟩ : Pp) = _; rw [HMP.out])
  have HPo : Hid (∀ w', MOwn w.heap.size w' m → POwn w.heap.size w' P) := hid (fun w' hm => by rw [hP]; exact ⟨HK.out, hm, World.ownsRow_nil _ _ _ _, rfl, fun x hx => by cases hx⟩)
  have HPb : Hid (Pv.cs ⟨h, false, m, Ho.zero, 0, Txt.none⟩ = P.cs) := hid (by rw [hP])
  clear hP
  go_wp2_with (first
    | (refine ldHoH _ rfl rfl w.heap.size 0 rfl h HK.out (rdc_h S3.out) ?_)
    | (refine ldM m29 _ rfl rfl g9 0 rfl m HMR.out Z3.out.part ?_)
    | (refine bdPc ptP _ _ rfl rfl h m HK.out HMR.out rfl rfl ?_; rw [HPb.out])
    | (refine stP ptP _ _ rfl rfl g1 P kP.out rfl rfl 41 Pv.zero Pv.zero_fit R3.out ?_))
  refine bodyPost_ret (resPe ptP rfl _ _ g1 41 P kP.out (.int .i64 0) rfl rfl (R3.out.setRow _)) rfl ?_
  exact ⟨P, by rw [HE.out], hid (HPo.out _ (M3.out.row R3.out (by decide) (by decide) (by decide) (grownBy_setRow _ _ _))), HPp, hid (below_setRow' B3.out HG.out _)⟩
theorem rdCtl_any {B : Nat} (h : Hd) (t : Txt) (k : h.ok) (w : World) (ht : t.ok w) (hs : t.n ≤ 1280) (hnx : h.nx = 58) (hV : CV B w) :
    Calls Tryz.prog 69 #[.agg (rdc h t)] w (RdOk w (rcE h t.l) (rcP h t.l)) := by
  by_cases h4 : t.l.length < 4
  · exact rdCtl1 h t k w ht hs hnx hV h4
  · cases h5 : chkB h.f h.t 58 t.l
    · exact rdCtl2 h t k w ht hs hnx hV h4 h5
    · by_cases h6 : t.l.getD 0 0 = 155
      · by_cases h7 : dE (t.l.getD 1 0) (t.l.drop 4) = 0
        · exact rdCtl5 h t k w ht hs hnx hV h4 h5 h6 h7
        · exact rdCtl4 h t k w ht hs hnx hV h4 h5 h6 h7
      · exact rdCtl3 h t k w ht hs hnx hV h4 h5 h6
end Go.Proofs.YtbklpelikaapoaaGreatDoor
