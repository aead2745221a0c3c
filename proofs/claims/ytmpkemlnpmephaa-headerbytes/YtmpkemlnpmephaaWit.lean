/- What header's With answers: a contract. -/
import Derived.Test.YtmpkemlnpmephaaTxt
namespace Go.Proofs.Ytmpkemlnpmephaa
open Go.ChangeShapes Go.WideShapes Go.ChangeAt Go.RowKit
set_option linter.unusedVariables false
set_option linter.unusedSimpArgs false

/-- What is wrong with a header and bytes behind it. -/
def withE (h : Hd) (B : List Int) : Int := if okH (h.setLn 0) = true then (if 1240 < B.length then 2 else 0) else 1
/-- The datagram. -/
def withL (h : Hd) (B : List Int) : List Int := if withE h B = 0 then hdrL (h.setLn B.length) ++ B else []
theorem withL_le {h : Hd} (k : h.ok) (B : List Int) : (withL h B).length ≤ 1280 := by
  unfold withL
  split
  · rename_i h1
    have : ¬ 1240 < B.length := by
      intro h2
      by_cases ho : okH (h.setLn 0) = true <;> simp [withE, ho, h2] at h1
    rw [List.length_append, hdrL_len (Hd.setLn_ok k _)]; omega
  · simp
theorem withL_oct {h : Hd} (k : h.ok) {B : List Int} (ho : Oct B) : Oct (withL h B) := by
  unfold withL
  split
  · exact (hdrL_oct (Hd.setLn_ok k _)).app ho
  · intro x hx; cases hx
theorem okH_ln {h : Hd} (k : okH (h.setLn 0) = true) {x : Int} (h0 : 0 ≤ x) (h1 : x ≤ 65535) : okH (h.setLn x) = true := by
  obtain ⟨a, b, _, d, e⟩ := okH_yes k
  exact decide_eq_true ⟨a, b, ⟨h0, h1⟩, d, e⟩
theorem setLn_setLn (h : Hd) (x y : Int) : (h.setLn x).setLn y = h.setLn y := rfl

set_option maxHeartbeats 1600000 in
theorem with_any (h : Hd) (k : h.ok) (a : Option Addr) (n cap : Nat) (L : List Txt) (w : World) (hL : Texts w a n cap L) :
    Calls Try.prog 14 #[.agg h.cs, .slice a n cap] w fun e w' => ∃ v, e = .returned (.tuple #[v, .int .i64 (withE h (bytes L))]) ∧ w'.ownsRow w.heap.size 5 1 v (withL h (bytes L)).length (u8s (withL h (bytes L))) ∧ Below w.heap.size w w' := by
  have HL := hid hL
  have hcm : n ≤ maxLen := Nat.le_trans hL.2.1 hL.2.2.1
  unfold maxLen at hcm
  have R0 := Row.new w 28 h.cs
  have HR0 := hid R0
  have B0 := hid (balloc (Below.refl w.heap.size w) (.cells h.cs 28))
  have cl := (R0.cell 2).trans h.at2
  have fr := R0.frozen 2
  have k0 := Hd.setLn_ok k 0
  have R1 : Hid (Row ((w.alloc (.cells h.cs 28)).setCell ⟨w.heap.size, 2, none⟩ (.int .i64 0)) w.heap.size 28 (h.setLn 0).cs) := by rw [Hid, ← Hd.set2]; exact R0.set 2 _
  have B1 := hid (Below.setCell B0.out (p := ⟨w.heap.size, 2, none⟩) (Nat.le_refl _) (.int .i64 0))
  clear R0 hL
  cases ho : okH (h.setLn 0)
  · have hE : withE h (bytes L) = 1 := by simp [withE, ho]
    have hW : withL h (bytes L) = [] := by simp [withL, hE]
    have hV : chkV (h.setLn 0) = 1 := by simp [chkV, ho]
    have HV := hid hV
    rw [hE, hW]
    clear hE hW hV ho
    generalize h.setLn 0 = h0 at *
    go_enter Try.func14, Try.ntmps14
    go_upto_region 1 with fail
    generalize w.alloc (.cells h.cs 28) = w1 at *
    go_upto_region 2 with fail
    generalize w1.setCell ⟨w.heap.size, 2, none⟩ (.int .i64 0) = w2 at *
    clear cl fr
    go_wp2_with (refine ld28 _ rfl rfl w.heap.size rfl h0 k0 28 R1.out ?_)
    refine (check_any h0 k0 _).mono ?_
    rintro e w3 ⟨rfl, hb3⟩
    rw [HV.out]
    go_wp2_with fail
    go_ret2
    exact ⟨_, rfl, World.ownsRow_nil _ _ _ _, bthen B1.out hb3⟩
  · have HO := hid ho
    have hV : chkV (h.setLn 0) = 0 := by simp [chkV, ho]
    have HV := hid hV
    have HE2 : Hid (1240 < (bytes L).length → withE h (bytes L) = 2 ∧ withL h (bytes L) = []) := by
      intro h1
      have : withE h (bytes L) = 2 := by simp [withE, ho, h1]
      exact ⟨this, by simp [withL, this]⟩
    have HE0 : Hid ((bytes L).length ≤ 1240 → withE h (bytes L) = 0 ∧ withL h (bytes L) = hdrL (h.setLn (bytes L).length) ++ bytes L) := by
      intro h1
      have : withE h (bytes L) = 0 := by simp [withE, ho]; omega
      exact ⟨this, by simp [withL, this]⟩
    generalize withE h (bytes L) = E at *
    generalize withL h (bytes L) = WL at *
    clear hV ho
    obtain ⟨i0, hi, hz0, hz1, hz2⟩ := info_parts info5
    obtain ⟨h0, hh0⟩ : ∃ h0, h0 = h.setLn 0 := ⟨_, rfl⟩
    rw [← hh0] at k0 R1 HV
    have HH0 := hid hh0
    clear hh0
    go_enter Try.func14, Try.ntmps14
    go_upto_region 1 with fail
    generalize w.alloc (.cells h.cs 28) = w1 at *
    go_upto_region 2 with fail
    generalize w1.setCell ⟨w.heap.size, 2, none⟩ (.int .i64 0) = w2 at *
    clear cl fr HR0 B0
    go_wp2_with (refine ld28 _ rfl rfl w.heap.size rfl h0 k0 28 R1.out ?_)
    refine (check_any h0 k0 _).mono ?_
    rintro e w3 ⟨rfl, hb3⟩
    rw [HV.out]
    have R3 := hid (R1.out.below hb3)
    have B3 := hid (bthen B1.out hb3)
    clear hb3 R1 B1
    go_wp2_with fail
    go_loopw [20] (fun i wr => ∃ j : Nat, j ≤ n ∧ i = .int .i64 j ∧ (bytes (L.take j)).length ≤ 1240 ∧ Hid (Row wr w.heap.size 28 (h.setLn ((bytes (L.take j)).length : Nat)).cs) ∧ Hid (Below w.heap.size w wr)) (fun i _ => n - (intOf i).toNat)
    case atStart => exact ⟨0, Nat.zero_le _, rfl, by simp [bytes], by rw [Hid]; have := R3.out; rw [HH0.out] at this; simpa [bytes] using this, B3⟩
    case round =>
      obtain ⟨j, hj, rfl, hm, hR, hB⟩ := hrel
      by_cases hlt : j < n
      · obtain ⟨b, off, rfl, hcell⟩ := (HL.out.below hB.out).2.2.2.1 j hlt
        have hkl : j < L.length := by rw [HL.out.1]; exact hlt
        have hok := HL.out.2.2.2.2 (L.getD j Txt.none) (by simp [hkl])
        have HB : Hid ((bytes (L.take (j + 1))).length = (bytes (L.take j)).length + (L.getD j Txt.none).n) := by rw [Hid, bytes_snoc L j hkl, List.length_append, hok.1.1]
        have hm1 := bytes_take_le L (j + 1)
        have htc := hok.1.2.1
        have htm := hok.1.2.2.1
        unfold maxLen at htm
        have HM1 := hid hm1
        clear hok hkl hm1
        generalize L.getD j Txt.none = t at *
        obtain ⟨ta, tn, tc, tl⟩ := t
        simp only [Txt.v] at hcell HB htc htm
        generalize hmm : (bytes (L.take j)).length = m at *
        have q2 := (hR.out.cell 2).trans (Hd.at2 _)
        have f2 := hR.out.frozen 2
        have q2' : wr.cell? ⟨w.heap.size, 2, none⟩ = some (.int .i64 m) := q2
        clear q2 hmm
        by_cases hbig : 1240 - (m : Int) < tn
        · obtain ⟨e1, e2⟩ := HE2.out (by have := HM1.out; rw [HB.out] at this; omega)
          have H1 := hid e1
          have H2 := hid e2
          clear e1 e2
          go_wp2_with fail
          go_ret2
          exact ⟨_, by rw [H1.out]; rfl, by rw [H2.out]; exact World.ownsRow_nil _ _ _ _, hB.out⟩
        · have hbig' : decide (1240 - (m : Int) < tn) = false := by simp; omega
          have R4 : Hid (Row (wr.setCell ⟨w.heap.size, 2, none⟩ (.int .i64 ((m : Int) + tn))) w.heap.size 28 (h.setLn ((m : Int) + tn)).cs) := by
            rw [Hid, ← setLn_setLn h (m : Nat) ((m : Int) + tn), ← Hd.set2]; exact hR.out.set 2 _
          have B4 := hid (Below.setCell hB.out (p := ⟨w.heap.size, 2, none⟩) (Nat.le_refl _) (.int .i64 ((m : Int) + tn)))
          go_wp2_with fail
          go_roundw
          case rel => exact ⟨j + 1, by omega, by go_num, by rw [HB.out]; omega, by rw [Hid, HB.out, Int.natCast_add]; exact R4.out, B4⟩
          case measure => simp [intOf]; omega
      · obtain rfl : j = n := by omega
        have hd : decide ((j : Int) < (j : Int)) = false := by simp
        have hT : L.take j = L := List.take_of_length_le (by rw [HL.out.1]; exact Nat.le_refl _)
        rw [hT] at hm hR
        obtain ⟨e1, e2⟩ := HE0.out hm
        have H1 := hid e1
        have H2 := hid e2
        have HM : Hid (∀ i, (bytes (L.take i)).length ≤ 1240) := fun i => Nat.le_trans (bytes_take_le L i) hm
        have ho' := hid (okH_ln HO.out (x := ((bytes L).length : Nat)) (by omega) (by omega))
        have k5 := Hd.setLn_ok k ((bytes L).length : Nat)
        have n5 := hid (hdrL_len k5)
        have hwr := hid (fun w' => written_any (h.setLn ((bytes L).length : Nat)) k5 ho'.out w')
        generalize hdrL (h.setLn ((bytes L).length : Nat)) = HH at *
        generalize h.setLn ((bytes L).length : Nat) = h5 at *
        clear e1 e2 hT HE2 HE0 R3 B3
        go_wp2_with (refine ld28 _ rfl rfl w.heap.size rfl h5 k5 28 hR.out ?_)
        refine (hwr.out _).mono ?_
        rintro e w5 ⟨v5, rfl, hown, hb5⟩
        have O5 := hid (own_mono hown hB.out.size)
        have B5 := hid (bthen hB.out hb5)
        clear hown hb5 hwr
        go_wp2_with fail
        go_loopw [9, 41] (fun v i wr => ∃ i' : Nat, i' ≤ j ∧ i = .int .i64 i' ∧ Hid (wr.ownsRow w.heap.size 5 1 v (HH ++ bytes (L.take i')).length (u8s (HH ++ bytes (L.take i')))) ∧ Hid (Below w.heap.size w wr)) (fun _ i _ => j - (intOf i).toNat)
        case atStart => exact ⟨0, Nat.zero_le _, rfl, by rw [Hid]; simpa [bytes, n5.out] using O5.out, B5⟩
        case round =>
          obtain ⟨i, hi', rfl, hO, hB6⟩ := hrel
          by_cases hlt : i < j
          · obtain ⟨b, off, rfl, hcell⟩ := (HL.out.below hB6.out).2.2.2.1 i hlt
            have hkl : i < L.length := by rw [HL.out.1]; exact hlt
            have hok := HL.out.2.2.2.2 (L.getD i Txt.none) (by simp [hkl])
            have HJ := hid (bytes_snoc L i hkl)
            have hm1 := HM.out (i + 1)
            rw [HJ.out, List.length_append, hok.1.1] at hm1
            clear hkl
            generalize L.getD i Txt.none = t at *
            obtain ⟨ta, tn, tc, tl⟩ := t
            have HT := hid hok.1
            simp only [Txt.v] at hcell HJ hm1 HT
            clear hok
            have hn6 := n5.out
            generalize bytes (L.take i) = M at *
            have hMn : (HH ++ M).length = 40 + M.length := by rw [List.length_append, hn6]
            generalize hX : HH ++ M = X at *
            have HX := hid hX
            generalize hXn : X.length = xn at *
            have HXn := hid hXn
            clear hX hXn hn6
            go_wp2_with (at_builtin; refine wpList_append_own_any _ rfl _ _ 30 rfl w.heap.size 5 i0 (.int .u8 0) 1 1 Try.underlying30 hi hz0 hz1 hz2 rfl (by decide) _ _ _ rfl hO.out ta tn tc (u8s tl) rfl ?c1 ?c2 ?c3 (ints_oneCell8 _ _) ?c4 ?c5 ?c6 ?_)
            case c1 => simp [u8s]; exact HT.out.1
            case c2 => exact HT.out.isNil
            case c3 => exact (HT.out.below hB6.out).cells
            case c4 => unfold maxLen; omega
            case c5 => omega
            case c6 => exact hB6.out.size
            intro v7 w7 hown7 hb7
            have O7 := hid hown7
            have B7 := hid (hB6.out.trans hb7)
            clear hown7 hb7
            go_wp2_with fail
            go_roundw
            case rel => exact ⟨i + 1, by omega, by go_num, by rw [Hid, HJ.out, ← List.append_assoc, HX.out]; exact ownsRow_u8 O7.out (by rw [List.length_append, HXn.out, HT.out.1]; omega) (by simp [u8s]), B7.out⟩
            case measure => simp [intOf]; omega
          · obtain rfl : i = j := by omega
            have O8 := hO.out
            rw [List.take_of_length_le (by rw [HL.out.1]; exact Nat.le_refl _)] at O8
            have HO8 := hid O8
            clear O8
            go_wp2_with fail
            go_ret2
            exact ⟨_, by rw [H1.out]; rfl, by rw [H2.out]; exact HO8.out, hB6.out⟩
end Go.Proofs.Ytmpkemlnpmephaa
