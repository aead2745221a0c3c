/- The document's answer: Check. · The document's answer: Check. · The document's answer: the bytes of an option, as letters tell them. -/
import Derived.Test.YtbgogeojdibmkaaDoorM14
import Derived.Test.YtbgogeojdibmkaaDoorM3
namespace Go.Proofs.YtbgogeojdibmkaaDoor
open Go.ChangeShapes Go.WideShapes Go.ChangeAt Go.RowKit Go.Deep
set_option linter.unusedVariables false
set_option linter.unusedSimpArgs false

/-- A kind's letters as numbers. -/
def cl (k : Nat) : List Int := (chs k).data.toList.map (fun b => (b.toNat : Int))
theorem cl_len (k : Nat) : (cl k).length = (chs k).size := by rw [cl, List.length_map, Array.length_toList]; rfl
theorem chs_ne' : ∀ k, k < 10 → ((chs k).data.toList == [63]) = false := by decide
theorem chs_ne (k : Nat) (hk : k < 10) : ((chs k).toList == [63]) = false := by rw [ByteArray.toList_eq]; exact chs_ne' k hk
theorem chs_small : ∀ k, k < 10 → (chs k).size ≤ 10 := by decide
/-- How many numbers among so many letters. -/
def cnt (l : List Int) (i : Nat) : Nat := ((l.take i).filter (fun c => decide (0 < szc c))).length
theorem cnt_succ (l : List Int) (i : Nat) (h : i < l.length) : cnt l (i + 1) = cnt l i + (if 0 < szc (l.getD i 0) then 1 else 0) := by
  unfold cnt
  rw [List.take_succ_eq_append_getElem h, List.filter_append, List.length_append]
  simp [h]
  split <;> simp_all
def hasC (x : Int) (l : List Int) (i : Nat) : Bool := (l.take i).any (fun c => c == x)
theorem hasC_succ (x : Int) (l : List Int) (i : Nat) (h : i < l.length) : hasC x l (i + 1) = (hasC x l i || (l.getD i 0 == x)) := by
  unfold hasC
  rw [List.take_succ_eq_append_getElem h, List.any_append]
  simp [h]
theorem cl_all : ∀ k, k < 10 → cnt (cl k) (cl k).length = (nmb (prt k)).length ∧ hasC 97 (cl k) (cl k).length = hasA k ∧ hasC 116 (cl k) (cl k).length = txb k := by decide
/-- The greatest number of a letter. -/
def lastc (c : Int) : Int := if c = 112 then 128 else if c = 122 ∨ c = 113 then 0 else top (szc c) - 1
theorem cl_num : ∀ k, k < 10 → ∀ i, i < (cl k).length → 0 < szc ((cl k).getD i 0) → cnt (cl k) i < (nmb (prt k)).length ∧ (nmb (prt k)).getD (cnt (cl k) i) (0, 0) = (szc ((cl k).getD i 0), lastc ((cl k).getD i 0)) ∧ sizeB (szc ((cl k).getD i 0)) = true := by decide
theorem cl_oct : ∀ k, k < 10 → ∀ i, i < (cl k).length → 0 ≤ (cl k).getD i 0 ∧ (cl k).getD i 0 < 256 := by decide
theorem char_at (k i : Nat) (h : i < (chs k).size) : ((((chs k)[i]'h).toNat : Nat) : Int) = (cl k).getD i 0 := by
  have h' : i < (chs k).data.size := h
  have e : (chs k)[i]'h = (chs k).data[i]'h' := rfl
  rw [e]
  simp [cl, Array.getElem?_eq_getElem h']
theorem byte_at (k i : Nat) (h : i < (cl k).length) : ((((chs k).data[i]?.getD 0).toNat : Nat) : Int) = (cl k).getD i 0 := by
  have h' : i < (chs k).data.size := by simpa [cl] using h
  simp [cl, Array.getElem?_eq_getElem h']

theorem zarr : (#[Value.int .u8 0, .int .u8 0, .int .u8 0, .int .u8 0, .int .u8 0, .int .u8 0, .int .u8 0, .int .u8 0, .int .u8 0, .int .u8 0, .int .u8 0, .int .u8 0, .int .u8 0, .int .u8 0, .int .u8 0, .int .u8 0] : Array Value) = arr zeros := rfl
/-- Is a number one that a letter allows? -/
def goodc (c n : Int) : Bool := okB (szc c) n && (!(c == 112 && decide (128 < n)) && !((c == 122 || c == 113) && (n != 0)))
theorem goodc_in (c n : Int) (h : sizeB (szc c) = true) : goodc c n = inB (szc c, lastc c) n := by
  have h1 : c = 49 ∨ c = 112 ∨ c = 122 ∨ c = 120 ∨ c = 50 ∨ c = 52 ∨ c = 113 := by
    unfold szc at h
    split at h
    · omega
    · split at h
      · omega
      · split at h
        · omega
        · exact absurd h (by decide)
  rw [Bool.eq_iff_iff]
  rcases h1 with rfl | rfl | rfl | rfl | rfl | rfl | rfl <;> simp [goodc, inB, okB, szc, lastc, top] <;> omega
end Go.Proofs.YtbgogeojdibmkaaDoor

namespace Go.Proofs.YtbgogeojdibmkaaDoor
open Go.ChangeShapes Go.WideShapes Go.ChangeAt Go.RowKit Go.Deep
set_option linter.unusedVariables false
set_option linter.unusedSimpArgs false

/-- A guard: the goal is a list of operations. -/
theorem wpl_id {P : Program} {ops : Array Oper} {Q : Exit → Act → World → Prop} {o : Oper} {rest : List Oper} {a : Act} {w : World} (h : wpList P ops Q (o :: rest) a w) : wpList P ops Q (o :: rest) a w := h
theorem szc_nn (c : Int) : 0 ≤ szc c := by unfold szc; split; omega; split; omega; split <;> omega
theorem getD_mem (l : List Int) (j : Nat) (h : j < l.length) : l.getD j 0 ∈ l := by simp [h]
theorem frmB_bits (k : Nat) (o : Ov) (w : World) (h : o.ok w) : frmB k o.p = ((o.n.n == (nmb (prt k)).length) && ((o.ad == zeros || hasA k) && (o.t.n == 0 || txb k))) := by rw [frmB, Ov.p, h.n.1, h.t.1]
set_option maxRecDepth 1000000 in
set_option maxHeartbeats 6400000 in
theorem refCheck_any (o : Ov) (w : World) (ho : o.ok w) (hwf : ∀ x ∈ o.n.l, (Lit.int .i64 x).wf = true) :
    Calls Tryd.prog 14 #[.agg o.cs] w fun e w' => e = .returned (.int .i64 (chkP o.p)) ∧ Below w.heap.size w w' := by
  have HR0 := hid (Row.new w 38 o.cs)
  have B0 := hid (balloc (Below.refl w.heap.size w) (.cells o.cs 38))
  have O0 := hid (ho.below B0.out)
  have HA := hid ho.ad
  have HFB := hid (fun k => frmB_bits k o w ho)
  have HWF := hid hwf
  have HT := hid ho.t.1
  have HN := hid ho.n.1
  have hnl : o.n.n ≤ maxLen := Nat.le_trans ho.n.2.1 ho.n.2.2.1
  have htl : o.t.n ≤ maxLen := Nat.le_trans ho.t.2.1 ho.t.2.2.1
  unfold maxLen at hnl htl
  have hq := eq36 o.ad zeros ho.ad.1 rfl
  clear ho hwf
  cases hkd : kndB o.k
  · have HC : Hid (chkP o.p = 6) := by rw [Hid, chkP, if_pos (by exact hkd)]
    have HL : Hid (lets o.k = ⟨#[63]⟩) := by simp [Hid, lets, hkd]
    go_enter Tryd.func14, Tryd.ntmps14
    go_upto_region 1 with fail
    generalize hw1 : w.alloc (.cells o.cs 38) = w1 at *
    have c0 := (HR0.out.cell 0).trans o.at0
    clear hw1
    go_wp2_with fail
    refine (parts_any _ _).mono ?_
    rintro e w2 ⟨rfl, hb2⟩
    have B2 := hid (bthen B0.out hb2)
    rw [HL.out]
    clear hb2
    go_wp2_with fail
    go_ret
    exact ⟨ret_int HC.out.symm, B2.out⟩
  · obtain ⟨k, hok, hk⟩ := knd_nat hkd
    have HK := hid hok
    have HLt : Hid (lets k = chs k) := by rw [Hid, lets, ← hok, hkd, if_pos rfl, hok]; rfl
    have HC : Hid (chkP o.p = if frmB k o.p = false then 3 else if widB (nmb (prt k)) o.n.l = false then 1 else if 64 < o.t.n then 2 else 0) := by
      rw [Hid, chkP, if_neg (by rw [show o.p.k = o.k from rfl, hkd]; simp), show o.p.k = o.k from rfl, hok, ← HT.out]; rfl
    have HF := hid (HFB.out k)
    clear hok
    have hne := chs_ne k hk
    have hcs := chs_small k hk
    have hclen := cl_len k
    have HCA := hid (cl_all k hk)
    have HCN := hid (cl_num k hk)
    have hm10 : (nmb (prt k)).length ≤ 10 := Nat.le_trans (nmb_le (prt k)) (prt_small k hk).1
    go_enter Tryd.func14, Tryd.ntmps14
    go_upto_region 1 with fail
    generalize hw1 : w.alloc (.cells o.cs 38) = w1 at *
    have c0 := (HR0.out.cell 0).trans o.at0
    rw [HK.out] at c0
    clear hw1
    go_wp2_with fail
    refine (parts_any _ _).mono ?_
    rintro e w2 ⟨rfl, hb2⟩
    have B2 := hid (bthen B0.out hb2)
    have R2 := hid (HR0.out.below hb2)
    have O2 := hid (O0.out.below hb2)
    rw [HLt.out]
    clear hb2 c0 B0 HR0 O0
    have HCh := hid (fun i h => char_at k i h)
    have HCS := hid (fun i h => cnt_succ (cl k) i h)
    have HH1 := hid (fun i h => hasC_succ 97 (cl k) i h)
    have HH2 := hid (fun i h => hasC_succ 116 (cl k) i h)
    have HCL := hid hclen
    rw [hclen] at HCA
    clear hclen
    go_wp2_with fail
    go_loop [4, 5, 6, 7] (fun cv av tv iv => ∃ i : Nat, i ≤ (chs k).size ∧ iv = .int .i64 i ∧ cv = .int .i64 (cnt (cl k) i) ∧ Hid (cnt (cl k) i ≤ i) ∧ av = .bool (hasC 97 (cl k) i) ∧ tv = .bool (hasC 116 (cl k) i)) (fun _ _ _ i => (chs k).size - (intOf i).toNat)
    case atStart => exact ⟨0, Nat.zero_le _, rfl, rfl, Nat.le_refl _, rfl, rfl⟩
    case round =>
      obtain ⟨i, hi, rfl, rfl, hci, rfl, rfl⟩ := hrel
      have hci' := hci.out
      by_cases hlt : i < (chs k).size
      · have hlt3 : (i : Int) < ((chs k).size : Int) := by omega
        have hc := HCh.out i hlt
        have hs := HCS.out i (by rw [HCL.out]; exact hlt)
        have h1 := HH1.out i (by rw [HCL.out]; exact hlt)
        have h2 := HH2.out i (by rw [HCL.out]; exact hlt)
        generalize (cl k).getD i 0 = c at *
        have HS := hid hs
        have H1 := hid h1
        have H2 := hid h2
        clear hs h1 h2
        generalize cnt (cl k) i = n0 at *
        generalize hasC 97 (cl k) i = ha at *
        generalize hasC 116 (cl k) i = ht at *
        go_wp2_with fail
        refine (rsize_any c _).mono ?_
        rintro e w2 ⟨rfl, rfl⟩
        by_cases hp : 0 < szc c
        · have HP := hid hp
          generalize szc c = sz at *
          cases ha <;> cases ht <;>
          ( go_wp2_with fail
            go_round
            case rel => exact ⟨i + 1, by omega, by go_num, by rw [HS.out, if_pos HP.out]; go_num, by rw [Hid, HS.out, if_pos HP.out]; omega, by rw [H1.out]; first | rfl | simp, by rw [H2.out]; first | rfl | simp⟩
            case measure => simp [intOf]; omega)
        · have HP := hid hp
          generalize szc c = sz at *
          cases ha <;> cases ht <;>
          ( go_wp2_with fail
            go_round
            case rel => exact ⟨i + 1, by omega, by go_num, by rw [HS.out, if_neg (by have := HP.out; omega)]; rfl, by rw [Hid, HS.out, if_neg (by have := HP.out; omega)]; omega, by rw [H1.out]; first | rfl | simp, by rw [H2.out]; first | rfl | simp⟩
            case measure => simp [intOf]; omega)
      · obtain rfl : i = (chs k).size := by omega
        rw [HCA.out.1, HCA.out.2.1, HCA.out.2.2]
        have HCE := hid HCA.out.1
        clear HH1 HH2 hci hci' hi hlt HCA
        have hz := zarr
        have Rz := hid (Row.new w2 36 (arr zeros))
        have BZ := hid (balloc (Below.refl w2.heap.size w2) (.cells (arr zeros) 36))
        go_upto_region 13 with fail
        generalize hw3 : w2.alloc (.cells (arr zeros) 36) = w3 at *
        have R3 := hid (R2.out.below BZ.out)
        have O3 := hid (O2.out.below BZ.out)
        have B3 := hid (bthen B2.out BZ.out)
        have a1 := (R3.out.cell 1).trans o.at1
        have a18 := (R3.out.cell 18).trans (Ov.at18 HA.out)
        have PA := hid (R3.out.part.ovA HA.out)
        have PZ := hid Rz.out.part
        generalize w2.heap.size = g3 at *
        clear hw3 hz Rz BZ R2 O2 B2
        have HF2 : Hid (frmB k o.p = ((o.n.n == (nmb (prt k)).length) && ((o.ad == zeros || hasA k) && (o.t.n == 0 || txb k)))) := HF
        have HFL : Hid (frmB k o.p = true → o.n.n = (nmb (prt k)).length) := fun h => by rw [← HN.out]; exact frm_len h
        have HW : Hid (∀ j, j < o.n.n → (Lit.int .i64 (o.n.l.getD j 0)).wf = true) := fun j hj => HWF.out _ (getD_mem _ _ (by rw [HN.out]; exact hj))
        clear HF HFB HWF
        generalize frmB k o.p = fb at *
        generalize hm : (nmb (prt k)).length = m at *
        have HM := hid hm
        clear hm
        generalize hasA k = ha at *
        generalize txb k = tb at *
        generalize (o.ad == zeros) = zb at *
        go_cut [70] from 46 to 70 (fun v wx => v = .bool (!fb) ∧ wx = w3)
        case first =>
          by_cases hlen : o.n.n = m
          · have e1 : ((o.n.n : Int) != (m : Int)) = false := by simp [hlen]
            have HLn := hid hlen
            clear hlen
            by_cases ht0 : o.t.n = 0
            · have HT0 := hid ht0
              have e3 : decide ((0 : Int) < (o.t.n : Int)) = false := decide_eq_false (by omega)
              have e4 : decide (0 < o.t.n) = false := decide_eq_false (by omega)
              clear ht0
              cases zb <;> cases ha <;>
              ( go_wp2_with (with_reducible refine wpl_id ?_; first | (refine ld36 _ rfl rfl _ _ rfl o.ad HA.out PA.out ?_) | (refine ld36 _ rfl rfl _ _ rfl zeros adr_zeros PZ.out ?_))
                go_meet
                case rel => exact ⟨by rw [HF2.out, HLn.out, HT0.out]; simp, rfl⟩)
            · have HT0 := hid ht0
              have e3 : (0 : Int) < (o.t.n : Int) := by omega
              have e4 : 0 < o.t.n := by omega
              clear ht0
              cases zb <;> cases ha <;> cases tb <;>
              ( go_wp2_with (with_reducible refine wpl_id ?_; first | (refine ld36 _ rfl rfl _ _ rfl o.ad HA.out PA.out ?_) | (refine ld36 _ rfl rfl _ _ rfl zeros adr_zeros PZ.out ?_))
                go_meet
                case rel => exact ⟨by rw [HF2.out, HLn.out]; simp [HT0.out], rfl⟩)
          · have e1 : ((o.n.n : Int) != (m : Int)) = true := by rw [bne_iff_ne]; omega
            have HLn := hid hlen
            clear hlen
            go_wp2_with (with_reducible refine wpl_id ?_; first | (refine ld36 _ rfl rfl _ _ rfl o.ad HA.out PA.out ?_) | (refine ld36 _ rfl rfl _ _ rfl zeros adr_zeros PZ.out ?_))
            go_meet
            case rel => exact ⟨by rw [HF2.out]; simp [HLn.out], rfl⟩
        case rest =>
          obtain ⟨rfl, hwc⟩ := hcut
          subst hwc
          cases fb
          · go_wp2_with fail
            go_ret
            exact ⟨ret_int (by rw [HC.out]; rfl), B3.out⟩
          · have HLn := hid (HFL.out rfl)
            have hnm := HLn.out
            clear PA PZ a18 hq HFL HF2
            go_wp2_with fail
            go_loopw [9, 10] (fun av iv wr => ∃ i : Nat, i ≤ (chs k).size ∧ iv = .int .i64 i ∧ av = .int .i64 (cnt (cl k) i) ∧ Hid (widTo (nmb (prt k)) o.n.l (cnt (cl k) i) = true) ∧ Hid (Below wc.heap.size wc wr)) (fun _ i _ => (chs k).size - (intOf i).toNat)
            case atStart => exact ⟨0, Nat.zero_le _, rfl, rfl, rfl, Below.refl _ _⟩
            case round =>
              obtain ⟨i, hi, rfl, rfl, hw, hb⟩ := hrel
              by_cases hlt : i < (chs k).size
              · have hlt3 : (i : Int) < ((chs k).size : Int) := by omega
                have hc := HCh.out i hlt
                have hs := HCS.out i (by rw [HCL.out]; exact hlt)
                have hcn := HCN.out i (by rw [HCL.out]; exact hlt)
                generalize (cl k).getD i 0 = c at *
                have HS := hid hs
                have HCN2 := hid hcn
                clear hs hcn
                go_wp2_with fail
                refine (rsize_any c _).mono ?_
                rintro e wr ⟨rfl, rfl⟩
                by_cases hp : 0 < szc c
                · obtain ⟨hj, hgd, hsz⟩ := HCN2.out hp
                  have hp0 : (szc c == 0) = false := by simp; omega
                  have HS2 : Hid (cnt (cl k) (i + 1) = cnt (cl k) i + 1) := by rw [Hid, HS.out, if_pos hp]
                  have HG : Hid (goodc c (o.n.l.getD (cnt (cl k) i) 0) = inB ((nmb (prt k)).getD (cnt (cl k) i) (0, 0)) (o.n.l.getD (cnt (cl k) i) 0)) := by rw [Hid, hgd]; exact goodc_in c _ hsz
                  have HGo : Hid (goodc c (o.n.l.getD (cnt (cl k) i) 0) = (okB (szc c) (o.n.l.getD (cnt (cl k) i) 0) && (!(c == 112 && decide (128 < o.n.l.getD (cnt (cl k) i) 0)) && !((c == 122 || c == 113) && (o.n.l.getD (cnt (cl k) i) 0 != 0))))) := rfl
                  have HWS := hid (widTo_succ (nmb (prt k)) o.n.l (cnt (cl k) i))
                  have HWN := hid (widTo_no (nmb (prt k)) o.n.l (cnt (cl k) i) (by rw [HM.out]; exact hj))
                  have hjn : cnt (cl k) i < o.n.n := by have h1 := HLn.out; have h2 := HM.out; omega
                  have hjn' : ((cnt (cl k) i : Nat) : Int) < (o.n.n : Int) := by omega
                  have hwf := HW.out _ hjn
                  obtain ⟨nb, noff, hna, hnc⟩ := (O3.out.n.below hb.out).2.2.2.2 _ hjn
                  have b1 := ((R3.out.below hb.out).cell 1).trans o.at1
                  rw [hna] at b1
                  have HSZ := hid hsz
                  have HWf := hid hwf
                  generalize o.n.l.getD (cnt (cl k) i) 0 = z at *
                  have HP := hid hp
                  clear hp hj hgd hsz hwf a1
                  generalize cnt (cl k) i = n0 at *
                  go_wp2_with fail
                  refine (rsize_any c _).mono ?_
                  rintro e wr ⟨rfl, rfl⟩
                  go_wp2_with fail
                  refine (digits_any (szc c) z _ HSZ.out HWf.out).mono ?_
                  rintro e w7 ⟨da, dk, dc, rfl, hb7, _⟩
                  have B7 := hid (bthen hb.out hb7)
                  have B8 := hid (bthen B3.out B7.out)
                  clear hb7
                  generalize okB (szc c) z = okb at *
                  cases okb
                  · go_wp2_with fail
                    go_ret
                    exact ⟨ret_int (by rw [HC.out, if_neg (by simp), if_pos (HWN.out (by rw [← HG.out, HGo.out]; rfl))]), B8.out⟩
                  · by_cases q1 : c = 112
                    · have r1 : (c == 112) = true := by simp [q1]
                      have r2 : (c == 122) = false := by simp [q1]
                      have r3 : (c == 113) = false := by simp [q1]
                      clear q1
                      by_cases q4 : 128 < z
                      · have r4 : decide (128 < z) = true := decide_eq_true q4
                        go_wp2_with fail
                        go_ret
                        exact ⟨ret_int (by rw [HC.out, if_neg (by simp), if_pos (HWN.out (by rw [← HG.out, HGo.out, r1, r4]; rfl))]), B8.out⟩
                      · have r4 : decide (128 < z) = false := decide_eq_false q4
                        go_wp2_with fail
                        go_roundw
                        case rel =>
                          refine ⟨i + 1, by omega, by go_num, by rw [HS2.out]; go_num, ?_, B7.out⟩
                          rw [Hid, HS2.out, HWS.out, hw.out, ← HG.out, HGo.out, r1, r2, r3, r4]; rfl
                        case measure => simp [intOf]; omega
                    · have r1 : (c == 112) = false := by simp [q1]
                      clear q1
                      by_cases q2 : c = 122
                      · have r2 : (c == 122) = true := by simp [q2]
                        clear q2
                        cases r5 : (z != 0)
                        · go_wp2_with fail
                          go_roundw
                          case rel =>
                            refine ⟨i + 1, by omega, by go_num, by rw [HS2.out]; go_num, ?_, B7.out⟩
                            rw [Hid, HS2.out, HWS.out, hw.out, ← HG.out, HGo.out, r1, r2, r5]; rfl
                          case measure => simp [intOf]; omega
                        · go_wp2_with fail
                          go_ret
                          exact ⟨ret_int (by rw [HC.out, if_neg (by simp), if_pos (HWN.out (by rw [← HG.out, HGo.out, r1, r2, r5]; rfl))]), B8.out⟩
                      · have r2 : (c == 122) = false := by simp [q2]
                        clear q2
                        by_cases q3 : c = 113
                        · have r3 : (c == 113) = true := by simp [q3]
                          clear q3
                          cases r5 : (z != 0)
                          · go_wp2_with fail
                            go_roundw
                            case rel =>
                              refine ⟨i + 1, by omega, by go_num, by rw [HS2.out]; go_num, ?_, B7.out⟩
                              rw [Hid, HS2.out, HWS.out, hw.out, ← HG.out, HGo.out, r1, r2, r3, r5]; rfl
                            case measure => simp [intOf]; omega
                          · go_wp2_with fail
                            go_ret
                            exact ⟨ret_int (by rw [HC.out, if_neg (by simp), if_pos (HWN.out (by rw [← HG.out, HGo.out, r1, r2, r3, r5]; rfl))]), B8.out⟩
                        · have r3 : (c == 113) = false := by simp [q3]
                          clear q3
                          go_wp2_with fail
                          go_roundw
                          case rel =>
                            refine ⟨i + 1, by omega, by go_num, by rw [HS2.out]; go_num, ?_, B7.out⟩
                            rw [Hid, HS2.out, HWS.out, hw.out, ← HG.out, HGo.out, r1, r2, r3]; rfl
                          case measure => simp [intOf]; omega
                · have hp0 : (szc c == 0) = true := by
                    have : szc c = 0 := by have := szc_nn c; omega
                    simp [this]
                  have HS2 : Hid (cnt (cl k) (i + 1) = cnt (cl k) i) := by rw [Hid, HS.out, if_neg hp]; rfl
                  clear hp
                  go_wp2_with fail
                  go_roundw
                  case rel => exact ⟨i + 1, by omega, by go_num, by rw [HS2.out], by rw [Hid, HS2.out]; exact hw.out, hb.out⟩
                  case measure => simp [intOf]; omega
              · obtain rfl : i = (chs k).size := by omega
                have HWD : Hid (widB (nmb (prt k)) o.n.l = true) := by
                  have h1 := hw.out
                  rw [HCE.out, ← HM.out] at h1
                  exact h1
                have B9 := hid (bthen B3.out hb.out)
                have b18 := ((R3.out.below hb.out).cell 18).trans (Ov.at18 HA.out)
                generalize o.t.n = tl at *
                by_cases h64 : 64 < tl
                · have h64' : (64 : Int) < (tl : Int) := by omega
                  go_wp2_with fail
                  go_ret
                  exact ⟨ret_int (by rw [HC.out, HWD.out, if_neg (by simp), if_neg (by simp), if_pos h64]), B9.out⟩
                · have h64' : ¬ (64 : Int) < (tl : Int) := by omega
                  go_wp2_with fail
                  go_ret
                  exact ⟨ret_int (by rw [HC.out, HWD.out, if_neg (by simp), if_neg (by simp), if_neg h64]), B9.out⟩
end Go.Proofs.YtbgogeojdibmkaaDoor

namespace Go.Proofs.YtbgogeojdibmkaaDoor
open Go.ChangeShapes Go.WideShapes Go.ChangeAt Go.RowKit Go.Deep
set_option linter.unusedVariables false
set_option linter.unusedSimpArgs false

/-- Is a letter a number that is written digit by digit? -/
def isN (c : Int) : Bool := !(c == 97) && (!(c == 116) && !(c == 120))
def acnt (l : List Int) (i : Nat) : Nat := ((l.take i).filter isN).length
theorem acnt_succ (l : List Int) (i : Nat) (h : i < l.length) : acnt l (i + 1) = acnt l i + (if isN (l.getD i 0) = true then 1 else 0) := by
  unfold acnt
  rw [List.take_succ_eq_append_getElem h, List.filter_append, List.length_append]
  simp [h]
  split <;> simp_all
/-- The bytes of a letter. -/
def piece (l n ad t : List Int) (j : Nat) : List Int :=
  if (l.getD j 0 == 97) = true then ad else if (l.getD j 0 == 116) = true then t else if (l.getD j 0 == 120) = true then List.replicate (n.getD 0 0).toNat 0 else digs (szc (l.getD j 0)) (n.getD (acnt l j) 0)
def rBto (l n ad t : List Int) (i : Nat) : List Int := (List.range i).flatMap (piece l n ad t)
theorem rBto_succ (l n ad t : List Int) (i : Nat) : rBto l n ad t (i + 1) = rBto l n ad t i ++ piece l n ad t i := by
  unfold rBto; rw [List.range_succ, List.flatMap_append]; simp
theorem cl_x : ∀ k, k < 10 → ∀ i, i < (cl k).length → (cl k).getD i 0 = 120 → i = 0 ∧ k = 1 := by decide
theorem cl_n : ∀ k, k < 10 → ∀ i, i < (cl k).length → isN ((cl k).getD i 0) = true → acnt (cl k) i < (nmb (prt k)).length ∧ sizeB (szc ((cl k).getD i 0)) = true := by decide
theorem len_eq {n : List Int} {m : Nat} (h : n.length = m) : n = (List.range m).map (fun i => n.getD i 0) := by
  apply List.ext_getElem
  · simp [h]
  · intro i h1 h2
    simp [h1]
theorem con_nt (k : Nat) (ok : Int) (n ad : List Int) (hz : zer k = false) : conP k ⟨ok, n, ad, []⟩ = partsB (prt k) n ad := by rw [conP, hz]; simp
theorem rB_con (o : Po) (k : Nat) (hk : k < 10) (hok : o.k = k) (h : chkP o = 0) : rBto (cl k) o.n o.ad o.t (chs k).size = conP k o := by
  obtain ⟨h1, h2, h3, h4⟩ := chk0 h
  rw [hok, Int.toNat_natCast] at h2 h3
  have hn := frm_len h2
  have ht : txb k = false → o.t = [] := by
    intro e
    simp only [frmB, e, Bool.or_false, Bool.and_eq_true, beq_iff_eq] at h2
    exact List.eq_nil_of_length_eq_zero h2.2.2
  obtain ⟨ok, n, ad, t⟩ := o
  simp only at hn ht ⊢
  have e := len_eq hn
  match k, hk with
  | 0, _ => rw [ht rfl]; rfl
  | 1, _ => rw [ht rfl, show (chs 1).size = 1 from rfl]; simp [rBto, piece, conP, zer, List.range_succ, cl, chs, chsL]
  | 2, _ => rw [show (chs 2).size = 1 from rfl]; simp [rBto, piece, conP, zer, List.range_succ, cl, chs, chsL, prt, prts, partsB]
  | 3, _ => rw [ht rfl, e, con_nt _ _ _ _ rfl]; rfl
  | 4, _ => rw [ht rfl, e]; rfl
  | 5, _ => rw [ht rfl, e, con_nt _ _ _ _ rfl]; rfl
  | 6, _ => rw [ht rfl, e]; rfl
  | 7, _ => rw [ht rfl, e, con_nt _ _ _ _ rfl]; rfl
  | 8, _ => rw [ht rfl, e, con_nt _ _ _ _ rfl]; rfl
  | 9, _ => rw [ht rfl, e]; rfl
end Go.Proofs.YtbgogeojdibmkaaDoor
