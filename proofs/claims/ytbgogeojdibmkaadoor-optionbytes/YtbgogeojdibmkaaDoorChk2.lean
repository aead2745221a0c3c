/- What is wrong with an option: within, Check. -/
import Derived.Test.YtbgogeojdibmkaaDoorChk
namespace Go.Proofs.YtbgogeojdibmkaaDoor
open Go.ChangeShapes Go.WideShapes Go.ChangeAt Go.RowKit Go.Deep
set_option linter.unusedVariables false
set_option linter.unusedSimpArgs false

theorem pcs_at (l : List (Int × Int)) (k : Nat) (hk : k < l.length) : (pcs l)[k * 2]? = some (.int .i64 (l.getD k (0, 0)).1) ∧ (pcs l)[k * 2 + 1]? = some (.int .i64 (l.getD k (0, 0)).2) := by
  induction l generalizing k with
  | nil => simp at hk
  | cons p l ih =>
    have e : pcs (p :: l) = .int .i64 p.1 :: .int .i64 p.2 :: pcs l := by simp [pcs]
    rw [e]
    cases k with
    | zero => simp
    | succ k =>
      obtain ⟨h1, h2⟩ := ih k (by simpa using hk)
      rw [show (k + 1) * 2 = k * 2 + 1 + 1 by omega]
      simpa using ⟨h1, h2⟩
/-- A row of parts of the call's own. -/
theorem owns_parts {w : World} {base : Nat} {v : Value} {l : List (Int × Int)} (h : w.ownsRow base 87 2 v l.length (pcs l)) : ∃ a cap, v = .slice a l.length cap ∧ PLies w.heap.size w a l.length cap l := by
  rcases h.2 with ⟨rfl, hn⟩ | ⟨g, cap, cur, rfl, hb, hg, hnc, hcm, hcs, hx⟩
  · exact ⟨none, 0, by rw [hn], rfl, by omega, by decide, fun k hk => by omega⟩
  · refine ⟨_, cap, rfl, rfl, hnc, hcm, fun k hk => ⟨g, 0, rfl, (Array.getElem?_eq_some_iff.1 hg).1, ?_, ?_⟩⟩
    · have h1 : (cur.toList.take (l.length * 2))[k * 2]? = (pcs l)[k * 2]? := by rw [hx]
      rw [(pcs_at l k hk).1, List.getElem?_take, if_pos (by omega)] at h1
      rw [Nat.zero_add, cell_of_row w g _ cur 87 (0, 0) hg]
      simpa using h1
    · have h1 : (cur.toList.take (l.length * 2))[k * 2 + 1]? = (pcs l)[k * 2 + 1]? := by rw [hx]
      rw [(pcs_at l k hk).2, List.getElem?_take, if_pos (by omega)] at h1
      rw [Nat.zero_add, cell_of_row w g _ cur 87 (0, 0) hg]
      simpa using h1
theorem PLies.below {w w' : World} {a : Option Addr} {n cap : Nat} {l : List (Int × Int)} (h : PLies w.heap.size w a n cap l) (hb : Below w.heap.size w w') : PLies w.heap.size w' a n cap l :=
  h.same (fun b o hlt => hb.cell (p := ⟨b, o, none⟩) hlt)

/-- Is each number one that may be there? -/
def inB (p : Int × Int) (n : Int) : Bool := decide (0 ≤ n ∧ n ≤ p.2)
def widB (l : List (Int × Int)) (n : List Int) : Bool := (List.range l.length).all fun i => inB (l.getD i (0, 0)) (n.getD i 0)
def widTo (l : List (Int × Int)) (n : List Int) (j : Nat) : Bool := (List.range j).all fun i => inB (l.getD i (0, 0)) (n.getD i 0)
theorem widTo_succ (l : List (Int × Int)) (n : List Int) (j : Nat) : widTo l n (j + 1) = (widTo l n j && inB (l.getD j (0, 0)) (n.getD j 0)) := by
  unfold widTo; rw [List.range_succ, List.all_append]; simp
theorem widTo_no (l : List (Int × Int)) (n : List Int) (j : Nat) (h : j < l.length) (hn : inB (l.getD j (0, 0)) (n.getD j 0) = false) : widB l n = false := by
  unfold widB; rw [List.all_eq_false]; exact ⟨j, by simpa using h, by simpa using hn⟩

set_option maxHeartbeats 800000 in
theorem oWithin_any {B : Nat} (o : Ov) (k : Nat) (hk : k < 10) (hok : o.k = k) (w : World) (ho : o.ok w) (hV : Vars B w) (hlen : o.n.n = (nmb (prt k)).length) :
    Calls Tryd.prog 31 #[.agg o.cs] w fun e w' => e = .returned (.bool (widB (nmb (prt k)) o.n.l)) ∧ Below w.heap.size w w' := by
  have HR0 := hid (Row.new w 43 o.cs)
  have B0 := hid (balloc (Below.refl w.heap.size w) (.cells o.cs 43))
  have V0 := hid (hV.below B0.out)
  have L0 := hid (ho.n.below B0.out)
  have hm10 : (nmb (prt k)).length ≤ 10 := Nat.le_trans (nmb_le (prt k)) (prt_small k hk).1
  clear hV
  go_enter Tryd.func31, Tryd.ntmps31
  go_upto_region 1 with fail
  generalize hw1 : w.alloc (.cells o.cs 43) = w1 at *
  have c0 := (HR0.out.cell 0).trans o.at0
  rw [hok] at c0
  clear hw1
  go_wp2_with fail
  refine (numbers_any k hk _ V0.out).mono ?_
  rintro e w2 ⟨v, rfl, hown, hb⟩
  obtain ⟨va, vc, rfl, hPL⟩ := owns_parts hown
  have HP := hid hPL
  have R1 := hid (HR0.out.below hb)
  have B1 := hid (bthen B0.out hb)
  have L1 := hid (L0.out.below hb)
  clear hown hb c0 hPL HR0 B0 V0 L0
  generalize hnl : nmb (prt k) = l at *
  have HNL := hid hnl
  clear hnl
  have HL := hid hlen
  generalize hn : l.length = n at *
  have HN := hid hn
  clear hlen hn
  go_wp2_with fail
  go_loopw [9] (fun i wr => ∃ j : Nat, j ≤ n ∧ i = .int .i64 j ∧ Hid (widTo l o.n.l j = true) ∧ Hid (Below w2.heap.size w2 wr)) (fun i _ => n - (intOf i).toNat)
  case atStart => exact ⟨0, Nat.zero_le _, rfl, rfl, Below.refl _ _⟩
  case round =>
    obtain ⟨j, hj, rfl, hw, hb⟩ := hrel
    by_cases hlt : j < n
    · have hlt' : (j : Int) < (n : Int) := by omega
      obtain ⟨b, off, rfl, hbB, hc0, hc1⟩ := (HP.out.below hb.out).cell j hlt
      obtain ⟨b2, off2, hna, hc2⟩ := (L1.out.below hb.out).2.2.2.2 j (by rw [HL.out]; exact hlt)
      have HS := hid (widTo_succ l o.n.l j)
      have HF := hid (widTo_no l o.n.l j (by rw [HN.out]; exact hlt))
      generalize hp : l.getD j (0, 0) = p at *
      have HI : Hid (inB p (o.n.l.getD j 0) = decide (0 ≤ o.n.l.getD j 0 ∧ o.n.l.getD j 0 ≤ p.2)) := rfl
      generalize p.1 = x at *
      generalize p.2 = y at *
      generalize o.n.l.getD j 0 = z at *
      have B3 := hid (balloc (Below.refl wr.heap.size wr) (.cells #[.int .i64 x, .int .i64 y] 87))
      have B4 := hid (bthen hb.out B3.out)
      have R3 := hid (Row.new wr 87 #[.int .i64 x, .int .i64 y])
      go_upto_region 4 with fail
      generalize wr.alloc (.cells #[.int .i64 x, .int .i64 y] 87) = w3 at *
      have d1 := ((R1.out.below B4.out).cell 1).trans o.at1
      rw [hna, HL.out] at d1
      have d2 := (B3.out.cell (p := ⟨b2, off2 + j, none⟩) (World.block_lt_of_cell? wr _ hc2)).trans hc2
      have d3 := R3.out.cell 1
      simp only [List.getElem?_toArray, List.getElem?_cons_zero, List.getElem?_cons_succ] at d3
      clear hc0 hc1 hc2
      generalize wr.heap.size = g3 at *
      by_cases h0 : z < 0
      · have f0 : decide (z < 0) = true := decide_eq_true h0
        go_quiet (fail)
        go_wp2_with fail
        go_ret
        exact ⟨ret_bool (by rw [HNL.out]; exact (HF.out (by rw [HI.out]; simp; omega)).symm), bdrew (bthen B1.out B4.out) _⟩
      · have f0 : decide (z < 0) = false := decide_eq_false h0
        by_cases h1 : y < z
        · have f1 : decide (y < z) = true := decide_eq_true h1
          go_quiet (fail)
          go_wp2_with fail
          go_ret
          exact ⟨ret_bool (by rw [HNL.out]; exact (HF.out (by rw [HI.out]; simp; omega)).symm), bdrew (bthen B1.out B4.out) _⟩
        · have f1 : decide (y < z) = false := decide_eq_false h1
          go_quiet (fail)
          go_wp2_with fail
          go_roundw
          case rel => exact ⟨j + 1, by omega, by go_num, by rw [Hid, HS.out, hw.out, HI.out]; simp; omega, bdrew B4.out _⟩
          case measure => simp [intOf]; omega
    · obtain rfl : j = n := by omega
      go_wp2_with fail
      go_ret
      exact ⟨ret_bool (by rw [HNL.out, widB, HN.out]; exact hw.out.symm), bthen B1.out hb.out⟩

/-- What is wrong with an option. -/
def chkP (o : Po) : Int := if kndB o.k = false then 6 else if frmB o.k.toNat o = false then 3 else if widB (nmb (prt o.k.toNat)) o.n = false then 1 else if 64 < o.t.length then 2 else 0
theorem frm_len {k : Nat} {o : Po} (h : frmB k o = true) : o.n.length = (nmb (prt k)).length := by
  simp [frmB] at h; exact h.1
set_option maxHeartbeats 800000 in
theorem check_any {B : Nat} (o : Ov) (w : World) (ho : o.ok w) (hV : Vars B w) :
    Calls Tryd.prog 16 #[.agg o.cs] w fun e w' => e = .returned (.int .i64 (chkP o.p)) ∧ Below w.heap.size w w' := by
  have HR0 := hid (Row.new w 43 o.cs)
  have B0 := hid (balloc (Below.refl w.heap.size w) (.cells o.cs 43))
  have V0 := hid (hV.below B0.out)
  have O0 := hid (ho.below B0.out)
  have HA := hid ho.ad
  have HT := hid ho.t.1
  have HN := hid ho.n.1
  have htl : o.t.n ≤ maxLen := Nat.le_trans ho.t.2.1 ho.t.2.2.1
  unfold maxLen at htl
  clear hV ho
  cases hkd : kndB o.k
  · have HC : Hid (chkP o.p = 6) := by rw [Hid, chkP, if_pos (by exact hkd)]
    go_enter Tryd.func16, Tryd.ntmps16
    go_upto_region 2 with fail
    generalize hw1 : w.alloc (.cells o.cs 43) = w1 at *
    have c0 := (HR0.out.cell 0).trans o.at0
    clear hw1
    go_wp2_with fail
    refine (isKind_any _ _).mono ?_
    rintro e w1 ⟨rfl, rfl⟩
    rw [hkd]
    go_wp2_with fail
    go_ret
    exact ⟨ret_int HC.out.symm, B0.out⟩
  · have hn : 0 ≤ o.k ∧ o.k < 10 := by simpa [kndB] using hkd
    obtain ⟨k, hok⟩ : ∃ k : Nat, o.k = k := ⟨o.k.toNat, by omega⟩
    have hk : k < 10 := by omega
    have HC : Hid (chkP o.p = if frmB k o.p = false then 3 else if widB (nmb (prt k)) o.n.l = false then 1 else if 64 < o.t.l.length then 2 else 0) := by
      rw [Hid, chkP, if_neg (by rw [show o.p.k = o.k from rfl, hkd]; simp), show o.p.k = o.k from rfl, hok]; rfl
    have HFL : Hid (frmB k o.p = true → o.n.n = (nmb (prt k)).length) := fun h => by rw [← HN.out]; exact frm_len h
    have HK := hid hok
    rw [hok] at hkd
    clear hn hok
    go_enter Tryd.func16, Tryd.ntmps16
    go_upto_region 2 with fail
    generalize hw1 : w.alloc (.cells o.cs 43) = w1 at *
    have c0 := (HR0.out.cell 0).trans o.at0
    rw [HK.out] at c0
    clear hw1
    go_wp2_with fail
    refine (isKind_any _ _).mono ?_
    rintro e w1 ⟨rfl, rfl⟩
    rw [hkd]
    go_wp2_with (refine ldO o43 _ rfl rfl w.heap.size 0 rfl o HA.out HR0.out.part ?_)
    refine (formed_any o k hk HK.out _ O0.out V0.out).mono ?_
    rintro e w2 ⟨rfl, hb2⟩
    have R2 := hid (HR0.out.below hb2)
    have B2 := hid (bthen B0.out hb2)
    have V2 := hid (V0.out.below hb2)
    have O2 := hid (O0.out.below hb2)
    clear hb2 B0 O0 V0 HR0 c0
    cases hf : frmB k o.p
    · rw [hf] at HC
      go_wp2_with fail
      go_ret
      exact ⟨ret_int (by rw [HC.out]; rfl), B2.out⟩
    · rw [hf] at HC HFL
      have HL := hid (HFL.out rfl)
      go_wp2_with (refine ldO o43 _ rfl rfl w.heap.size 0 rfl o HA.out R2.out.part ?_)
      refine (oWithin_any o k hk HK.out _ O2.out V2.out HL.out).mono ?_
      rintro e w3 ⟨rfl, hb3⟩
      have R3 := hid (R2.out.below hb3)
      have B3 := hid (bthen B2.out hb3)
      clear hb3 R2 V2 O2
      cases hwd : widB (nmb (prt k)) o.n.l
      · rw [hwd] at HC
        go_wp2_with fail
        go_ret
        exact ⟨ret_int (by rw [HC.out]; rfl), B3.out⟩
      · rw [hwd] at HC
        have c18 := (R3.out.cell 18).trans (Ov.at18 HA.out)
        have HT' : Hid (o.t.l.length = o.t.n) := HT
        generalize o.t.n = tl at *
        by_cases h64 : 64 < tl
        · have h64' : (64 : Int) < (tl : Int) := by omega
          go_wp2_with fail
          go_ret
          exact ⟨ret_int (by rw [HC.out, HT'.out, if_neg (by simp), if_neg (by simp), if_pos h64]), B3.out⟩
        · have h64' : ¬ (64 : Int) < (tl : Int) := by omega
          go_wp2_with fail
          go_ret
          exact ⟨ret_int (by rw [HC.out, HT'.out, if_neg (by simp), if_neg (by simp), if_neg h64]), B3.out⟩
end Go.Proofs.YtbgogeojdibmkaaDoor
