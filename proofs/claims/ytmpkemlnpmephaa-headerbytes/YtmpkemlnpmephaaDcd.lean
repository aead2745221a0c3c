/- What header's Decode answers, whole: a contract. -/
import Derived.Test.YtmpkemlnpmephaaDec
import Derived.Test.YtmpkemlnpmephaaHopsWalk
namespace Go.Proofs.Ytmpkemlnpmephaa
open Go.ChangeShapes Go.WideShapes Go.ChangeAt Go.RowKit
set_option linter.unusedVariables false
set_option linter.unusedSimpArgs false

theorem own_setRow {w : World} {b g : Nat} {e : TypeId} {size : Nat} {v : Value} {n : Nat} {xs : List Value} {cs : Array Value} (h : w.ownsRow b e size v n xs) (hg : g < b) : (w.setRow g cs).ownsRow b e size v n xs :=
  h.kept (grownBy_setRow w g cs) (by
    rcases h.2 with ⟨rfl, _⟩ | ⟨g', cap, cur, rfl, hb, _⟩
    · exact .inl rfl
    · refine .inr ?_
      simp only [Value.ownBlock]
      intro e
      have := Option.some.inj e
      omega)

theorem decH_ln {l : List Int} (ho : Oct l) (hl : 40 ≤ l.length) : 0 ≤ (decH l).ln ∧ (decH l).ln < 65536 :=
  num_bd _ (ho.cut 4 2) 2 65536 (by simp; omega) (by decide)

/-- Behind the checks: what Bytes reads, and what Close tells. -/
def lastN (n : Int) (left : Nat) : Nat := rdN 1 n left 0
def lastE (n : Int) (left : Nat) : Int := closeV (left - lastN n left) (rdE 1 n left 0)
theorem last_eq {n : Int} {left : Nat} (hn : 0 ≤ n) : lastE n left = (if (left : Int) < n then 4 else if n < (left : Int) then 3 else 0) ∧ (n = left → lastN n left = left) := by
  have hs : sizeB 1 = true := by decide
  have hE : rdE 1 n left 0 = if (left : Int) < n then 4 else 0 := by
    unfold rdE
    rw [if_pos rfl, if_neg (by rw [hs]; simp; omega), Int.one_mul]
  have hN : lastN n left = if (left : Int) < n then 0 else n.toNat := by
    unfold lastN rdN
    rw [hE, Int.one_mul]
    split <;> simp
  refine ⟨?_, fun h => by rw [hN, if_neg (by omega)]; omega⟩
  unfold lastE
  rw [hN, hE]
  unfold closeV
  by_cases h1 : (left : Int) < n
  · simp [h1]
  · by_cases h2 : n < (left : Int)
    · simp [h1, h2]; omega
    · simp [h1, h2]; omega

set_option maxHeartbeats 1600000 in
theorem decode_rest (a : Option Addr) (len cap : Nat) (l : List Int) (w : World) (h : Lies .u8 w a len cap l) (ho : Oct l) (h40 : 40 ≤ len) (hf : l.getD 0 0 / 16 = 6) (hs : len ≤ 1280) :
    Calls Try.prog 16 #[.slice a len cap] w fun r w' =>
      (lastE (decH l).ln (len - 40) ≠ 0 → r = .returned (.tuple #[.agg Hd.zero.cs, .slice none 0 0, .int .i64 (lastE (decH l).ln (len - 40))]) ∧ Below w.heap.size w w') ∧
      (lastE (decH l).ln (len - 40) = 0 → ∃ v, r = .returned (.tuple #[.agg (decH l).cs, v, .int .i64 0]) ∧ w'.ownsRow w.heap.size 5 1 v (lastN (decH l).ln (len - 40)) (u8s ((l.drop 40).take (lastN (decH l).ln (len - 40)))) ∧ Below w.heap.size w w') := by
  have hz := zhd
  have Z1 := hid (Row.new w 28 Hd.zero.cs)
  have b1 := balloc (Below.refl w.heap.size w) (.cells Hd.zero.cs 28)
  have B1 := hid b1
  have S1 : Hid ((w.alloc (.cells Hd.zero.cs 28)).heap.size = w.heap.size + 1) := by simp [Hid]
  have L1 := hid (h.below b1)
  obtain ⟨b, off, rfl, hcell⟩ := (h.below b1).2.2.2.2 0 (by omega)
  rw [Nat.add_zero] at hcell
  have hx := ho.at 0 (by rw [h.1]; omega)
  have hcm : cap ≤ maxLen := h.2.2.1
  have hlc := h.2.1
  unfold maxLen at hcm
  have hln := decH_ln ho (by rw [h.1]; exact h40)
  have k := decH_ok ho (by rw [h.1]; exact h40)
  generalize l.getD 0 0 = x at *
  have hs' : decide ((len : Int) < 40) = false := by simp; omega
  have hf' : (x / 16 != 6) = false := by simp [hf]
  have hl' : decide ((1280 : Int) < len) = false := by simp; omega
  have HO := hid ho
  have HB : Hid (∀ w c a cap, CurAt w c a len cap l 40 0 → Calls Try.prog 22 #[.pointer (some ⟨c, 0, none⟩), .int .i64 (decH l).ln] w fun e w' => ∃ v, e = .returned v ∧ w'.ownsRow w.heap.size 5 1 v (lastN (decH l).ln (len - 40)) (u8s ((l.drop 40).take (lastN (decH l).ln (len - 40)))) ∧ CurAt w' c a len cap l (40 + lastN (decH l).ln (len - 40)) (rdE 1 (decH l).ln (len - 40) 0) ∧ w.grownBy w' (some c)) :=
    fun w c a cap hc => bytes_any w c a len cap 40 l 0 (decH l).ln hc
  have HL : Hid (lastE (decH l).ln (len - 40) = closeV (len - (40 + lastN (decH l).ln (len - 40))) (rdE 1 (decH l).ln (len - 40) 0)) := by
    rw [Hid, lastE, Nat.sub_sub]
  have HR : Hid (∀ w c a cap, CurAt w c a len cap l 0 0 → Calls Try.prog 21 #[.pointer (some ⟨c, 0, none⟩)] w fun e w' => e = .returned (.agg (decH l).cs) ∧ CurAt w' c a len cap l 40 0 ∧ w.grownBy w' (some c)) :=
    fun w c a cap hc => hread_any w c a len cap l hc h40
  generalize lastE (decH l).ln (len - 40) = E at *
  generalize lastN (decH l).ln (len - 40) = M at *
  generalize rdE 1 (decH l).ln (len - 40) 0 = er at *
  generalize decH l = H at *
  clear h b1 hf ho
  go_enter Try.func16, Try.ntmps16
  go_upto_region 1 with fail
  generalize w.alloc (.cells Hd.zero.cs 28) = w1 at *
  go_wp2_with fail
  refine (over_any _ len cap l _ L1.out HO.out (by omega)).mono ?_
  rintro e w2 ⟨c, a2, cap2, rfl, hC, hb, hc1, hc2⟩
  rw [S1.out] at hc1
  have C2 := hid hC
  have Z2 := hid (Z1.out.below hb)
  have B2 := hid (bthen B1.out hb)
  clear hC hb Z1 B1 L1 hcell
  go_wp2_with fail
  refine (HR.out _ c a2 cap2 C2.out).mono ?_
  rintro e w3 ⟨rfl, hC, hg⟩
  have C3 := hid hC
  have Z3 := hid (Z2.out.kept hg (by intro e; cases e; omega))
  have B3 := hid (bgrown B2.out hg (by omega))
  have hc3 : c < w3.heap.size := hC.lt
  have b4 := lay_below w3 28 H
  have C4 := hid (C3.out.below b4)
  have Z4 := hid (Z3.out.below b4)
  have B4 := hid (bthen B3.out b4)
  have X4 := hid (lay_new w3 H)
  have hw3 : w.heap.size < w3.heap.size := Z3.out.lt
  have q2 := (X4.out.cell 2).trans H.at2
  clear hC hg b4 C2 Z2 B2 C3 Z3 B3
  go_wp2_with (refine st28 _ _ rfl rfl w3.heap.size H k rfl rfl 28 Hd.zero Hd.zero_ok (Row.new w3 28 _) ?_; generalize (w3.alloc (.cells Hd.zero.cs 28)).setRow w3.heap.size H.cs = w4 at *)
  refine (HB.out _ c a2 cap2 C4.out).mono ?_
  rintro e w5 ⟨v5, rfl, hown, hC, hg⟩
  have C5 := hid hC
  have Z5 := hid (Z4.out.kept hg (by intro e; cases e; omega))
  have X5 := hid (X4.out.kept hg (by intro e; cases e; omega))
  have B5 := hid (bgrown B4.out hg (by omega))
  have O5 := hid hown
  have hw4 : w.heap.size < w4.heap.size := Z4.out.lt
  clear hown hC hg C4 Z4 B4 X4 q2
  go_wp2_with fail
  refine (close_any _ c a2 len cap2 _ l _ C5.out).mono ?_
  rintro e w6 ⟨rfl, q, rfl⟩
  rw [← HL.out]
  by_cases hE : E = 0
  · subst hE
    have O6 : Hid (((w5.drewN q).setRow w.heap.size H.cs).ownsRow w.heap.size 5 1 v5 M (u8s ((l.drop 40).take M))) := own_mono (own_setRow (show (w5.drewN q).ownsRow _ _ _ _ _ _ from O5.out) hw4) (by omega)
    go_wp2_with (first
      | (refine ld28 _ rfl rfl w3.heap.size rfl H k 28 (X5.out.drewN q) ?_)
      | (refine st28 _ _ rfl rfl w.heap.size H k rfl rfl 28 Hd.zero Hd.zero_ok (Z5.out.drewN q) ?_))
    refine bodyPost_ret (res28f rfl _ _ w.heap.size 28 H k v5 (.int .i64 0) rfl rfl rfl ((Z5.out.drewN q).setRow _)) rfl ⟨v5, rfl, O6.out, below_setRow' (bdrew B5.out q) (Nat.le_refl _) _⟩
  · have hE' : (E != 0) = true := by rw [bne_iff_ne]; exact hE
    go_wp2_with (first
      | (refine bd28z rfl rfl ?_)
      | (refine st28 _ _ rfl rfl w.heap.size Hd.zero Hd.zero_ok rfl rfl 28 Hd.zero Hd.zero_ok (Z5.out.drewN q) ?_))
    refine bodyPost_ret (res28f rfl _ _ w.heap.size 28 Hd.zero Hd.zero_ok (.slice none 0 0) (.int .i64 E) rfl rfl rfl ((Z5.out.drewN q).setRow _)) rfl ⟨fun _ => ⟨rfl, below_setRow' (bdrew B5.out q) (Nat.le_refl _) _⟩, fun h => absurd h hE⟩

theorem decode_any (a : Option Addr) (len cap : Nat) (l : List Int) (w : World) (h : Lies .u8 w a len cap l) (ho : Oct l) :
    Calls Try.prog 16 #[.slice a len cap] w fun r w' => ∃ v, r = .returned (.tuple #[.agg (decV l).cs, v, .int .i64 (decE l)]) ∧ w'.ownsRow w.heap.size 5 1 v (decR l).length (u8s (decR l)) ∧ Below w.heap.size w w' := by
  have hn := h.1
  by_cases h1 : len < 40
  · exact dec_bad a len cap l w 4 (by unfold decE; rw [if_pos (by omega)]) (by omega) (decode_short a len cap l w h h1)
  · by_cases h2 : l.getD 0 0 / 16 = 6
    · by_cases h3 : 1280 < len
      · exact dec_bad a len cap l w 2 (by unfold decE; rw [if_neg (by omega), if_neg (by simpa using h2), if_pos (by omega)]) (by omega) (decode_long a len cap l w h ho h3 h2)
      · have hl := decH_ln ho (by omega : 40 ≤ l.length)
        obtain ⟨hE, hN⟩ := last_eq (left := len - 40) hl.1
        have hd : decE l = lastE (decH l).ln (len - 40) := by
          unfold decE
          rw [if_neg (by omega), if_neg (by simpa using h2), if_neg (by omega), hE, hn]
        refine (decode_rest a len cap l w h ho (by omega) h2 (by omega)).mono ?_
        rintro r w' ⟨q1, q2⟩
        rw [← hd] at q1 q2
        by_cases hz : decE l = 0
        · obtain ⟨v, rfl, hown, hb⟩ := q2 hz
          have hm : lastN (decH l).ln (len - 40) = len - 40 := hN (by have := (decE_zero hz).2.2.2; rw [hn] at this; exact this)
          have h4 : decV l = decH l := by rw [decV, if_pos hz]
          have h5 : decR l = l.drop 40 := by rw [decR, if_pos hz]
          rw [hm] at hown
          refine ⟨v, by rw [h4, hz], ?_, hb⟩
          rw [h5]
          rw [List.take_of_length_le (by simp; omega)] at hown
          rw [show (l.drop 40).length = len - 40 by simp; omega]
          exact hown
        · obtain ⟨rfl, hb⟩ := q1 hz
          have h4 : decV l = Hd.zero := by rw [decV, if_neg hz]
          have h5 : decR l = [] := by rw [decR, if_neg hz]
          rw [h4, h5]
          exact ⟨_, rfl, World.ownsRow_nil _ _ _ _, hb⟩
    · exact dec_bad a len cap l w 3 (by unfold decE; rw [if_neg (by omega), if_pos h2]) (by omega) (decode_form a len cap l w h ho (by omega) h2)
end Go.Proofs.Ytmpkemlnpmephaa
