/- The walk of LolliNewest. -/
import Derived.Test.YtlhlihphhmiflaaNewest
import Derived.Deep.QuietTactic
import Derived.BigQuiet
import Derived.WalkSmall
namespace Go.Proofs.Ytlhlihphhmiflaa
open Go.ChangeShapes Go.WideShapes Go.ChangeAt Go.RowKit
set_option linter.unusedVariables false
set_option linter.unusedSimpArgs false

def wins (a b : Int) : Bool := rel a b == 0 || rel a b == 2
def bestB (zs : List Int) (a : Int) : Bool := zs.all (wins a)

theorem rel_zero (a b : Int) : rel a b = 0 ↔ a = b := by
  unfold rel; constructor
  · intro h; repeat' split at h
    all_goals first | assumption | (exfalso; omega)
  · intro h; simp [h]

theorem beats_wins (a b : Int) (ha : vB a = true) (hb : vB b = true) : beats a b = wins a b := by
  unfold beats wins newerB
  rw [ha, hb, Bool.eq_iff_iff]
  simp [rel_zero]

theorem okIn_best (zs : List Int) (hv : zs.all vB = true) (a : Int) (ha : a ∈ zs) : okIn (dd zs) a = bestB zs a := by
  have hm := fun y => mem_dd zs zs.length (Nat.le_refl _) y
  simp only [List.take_length] at hm
  have hv' := List.all_eq_true.1 hv
  rw [Bool.eq_iff_iff, okIn, bestB, List.all_eq_true, List.all_eq_true]
  constructor
  · intro h b hb; rw [← beats_wins a b (hv' a ha) (hv' b hb)]; exact h b ((hm b).2 hb)
  · intro h b hb; rw [beats_wins a b (hv' a ha) (hv' b ((hm b).1 hb))]; exact h b ((hm b).1 hb)

theorem find_best (zs : List Int) (hv : zs.all vB = true) : (dd zs).find? (okIn (dd zs)) = zs.find? (bestB zs) := by
  have h := find_dd zs (okIn (dd zs)) zs.length (Nat.le_refl _)
  simp only [List.take_length] at h
  rw [h]
  have : ∀ l : List Int, (∀ x ∈ l, x ∈ zs) → l.find? (okIn (dd zs)) = l.find? (bestB zs) := by
    intro l
    induction l with
    | nil => intro _; rfl
    | cons x l ih =>
      intro hl
      simp only [List.find?, okIn_best zs hv x (hl x (by simp)), ih (fun y hy => hl y (by simp [hy]))]
  exact this zs (fun _ h => h)

theorem newest_found (zs : List Int) (hv : zs.all vB = true) (k : Nat) (h : k < zs.length) (hno : ∀ j, j < k → bestB zs (zs.getD j 0) = false) (hp : bestB zs (zs.getD k 0) = true) :
    newestOf (dd zs) = zs.getD k 0 ∧ newestErr (dd zs) = 0 := by
  have := find_at zs (bestB zs) k h hno hp
  rw [newestOf, newestErr, find_best zs hv, this]; simp

theorem newest_lost (zs : List Int) (hv : zs.all vB = true) (hno : ∀ j, j < zs.length → bestB zs (zs.getD j 0) = false) :
    newestOf (dd zs) = 0 ∧ newestErr (dd zs) = 8 := by
  have := find_no zs (bestB zs) hno
  rw [newestOf, newestErr, find_best zs hv, this]; simp

/-- The rest of the law, of at most 30 counters. -/
theorem newest_some (b off len cap : Nat) (zs : List Int) (w : World) (hl : zs.length = min len 30) (h1 : 1 ≤ len) (hlc : len ≤ cap) (hcm : cap ≤ maxLen) (hb : b < w.heap.size)
    (hc : ∀ k, k < min len 30 → w.cell? ⟨b, off + k, none⟩ = some (.int .i64 (zs.getD k 0))) :
    Calls Try.prog 5 #[.slice (some ⟨b, off, none⟩) len cap] w fun e w' => e = .returned (.bool true) ∧ Below w.heap.size w w' := by
  unfold maxLen at hcm
  have hn1 : 1 ≤ min len 30 := by omega
  have hn2 : min len 30 ≤ 30 := by omega
  have hmin : min (len : Int) 30 = ((min len 30 : Nat) : Int) := by omega
  generalize min len 30 = n at *
  have HC : Hid (∀ k, k < n → w.cell? ⟨b, off + k, none⟩ = some (.int .i64 (zs.getD k 0))) := hc
  have HL : Hid (zs.length = n) := hl
  clear hc hl
  by_cases h30 : len ≤ 30
  obtain rfl : n = len := by omega
  clear hmin
  go_enter Try.func5, Try.ntmps5
  go_wp2_with fail
  clear h30
  rotate_left
  have hn30 : n = 30 := by omega
  have hlen : (30 : Int) < (len : Int) := by omega
  have H30 : Hid (n = 30) := hn30
  clear hn30 hmin h30
  go_enter Try.func5, Try.ntmps5
  go_wp2_with fail
  rw [← H30.out]
  clear H30 hlen
  all_goals
    clear h1 hlc hcm
    cases hv : zs.all vB
    · refine (newest_bad b off n cap zs w HL.out hn1 (by omega) HC.out hv).mono ?_
      rintro e w ⟨rfl, rfl⟩
      have hpos : (0 : Int) < (n : Int) := by omega
      go_wp2_with fail
      go_loopw [5, 6] (fun v i wr => wr = w ∧ ∃ k : Nat, k ≤ n ∧ i = .int .i64 k ∧ ∃ o : Bool, v = .bool o ∧ Hid (o = (zs.take k).all vB)) (fun _ i _ => n - (intOf i).toNat)
      case atStart => exact ⟨rfl, 0, Nat.zero_le _, rfl, true, by simp; omega, rfl⟩
      case round =>
        obtain ⟨rfl, k, hk, rfl, o, rfl, Ho⟩ := hrel
        by_cases hlt : k < n
        · have hcell := HC.out k hlt
          have HS : Hid ((zs.take (k + 1)).all vB = ((zs.take k).all vB && vB (zs.getD k 0))) := all_take_succ zs k (by rw [HL.out]; exact hlt) vB
          generalize zs.getD k 0 = z at *
          cases o
          · go_wp2_with fail
            go_roundw
            case rel => exact ⟨trivial, k + 1, by omega, by go_num, _, rfl, by rw [Hid, HS.out, ← Ho.out]; rfl⟩
            case measure => simp [intOf]; omega
          · go_wp2_with (go_at_call 9; refine (refValid_any z _).mono ?_; rintro e wr ⟨rfl, rfl⟩)
            go_roundw
            case rel => exact ⟨trivial, k + 1, by omega, by go_num, _, rfl, by rw [Hid, HS.out, ← Ho.out]; rfl⟩
            case measure => simp [intOf]; omega
        · obtain rfl : k = n := by omega
          have ho : o = false := by rw [Ho.out, List.take_of_length_le (by rw [HL.out]; omega)]; exact hv
          subst ho
          go_wp2_with (go_at_call 10; refine (known_any _).mono ?_; rintro e w4 ⟨rfl, hb4⟩)
          go_ret
          exact ⟨rfl, hb4⟩
    · refine (newest_ok b off n cap zs w HL.out hn1 (by omega) hb HC.out hv).mono ?_
      rintro e w1 ⟨rfl, hb1⟩
      have hpos : (0 : Int) < (n : Int) := by omega
      go_wp2_with fail
      go_loopw [5, 6] (fun v i wr => wr = w1 ∧ ∃ k : Nat, k ≤ n ∧ i = .int .i64 k ∧ ∃ o : Bool, v = .bool o ∧ Hid (o = true)) (fun _ i _ => n - (intOf i).toNat)
      case atStart => exact ⟨rfl, 0, Nat.zero_le _, rfl, true, by simp; omega, rfl⟩
      case round =>
        obtain ⟨rfl, k, hk, rfl, o, rfl, Ho⟩ := hrel
        obtain rfl := Ho.out
        clear Ho
        by_cases hlt : k < n
        · have hcell : wr.cell? ⟨b, off + k, none⟩ = some (.int .i64 (zs.getD k 0)) := (hb1.cell (p := ⟨b, off + k, none⟩) hb).trans (HC.out k hlt)
          have hz : vB (zs.getD k 0) = true := by
            have hk' : k < zs.length := by rw [HL.out]; exact hlt
            have := List.all_eq_true.1 hv (zs[k]) (List.getElem_mem hk')
            simpa [hk'] using this
          generalize zs.getD k 0 = z at *
          go_wp2_with (go_at_call 9; refine (refValid_any z _).mono ?_; rintro e wr ⟨rfl, rfl⟩)
          go_roundw
          case rel => exact ⟨trivial, k + 1, by omega, by go_num, _, rfl, rfl⟩
          case measure => simp [intOf]; omega
        · have hvs : ∀ k, k < n → 0 ≤ zs.getD k 0 ∧ zs.getD k 0 < 256 := by
            intro k hk
            have hk' : k < zs.length := by rw [HL.out]; exact hk
            have := vB_true (List.all_eq_true.1 hv (zs[k]) (List.getElem_mem hk'))
            simpa [hk'] using this
          have HV : Hid (∀ k, k < n → 0 ≤ zs.getD k 0 ∧ zs.getD k 0 < 256) := hvs
          have HA : Hid (zs.all vB = true) := hv
          clear hvs hv
          go_wp2_with fail
          clear hlt hk
          have w1 := wr
          generalize hw1 : wr = w1 at *
          clear hw1
          go_loopw [7] (fun i wr => ∃ k : Nat, k ≤ n ∧ i = .int .i64 k ∧ Hid (∀ j, j < k → bestB zs (zs.getD j 0) = false) ∧ Hid (Below w1.heap.size w1 wr)) (fun i _ => n - (intOf i).toNat)
          case atStart => exact ⟨0, Nat.zero_le _, rfl, fun j hj => by omega, Below.refl _ _⟩
          case round =>
            obtain ⟨k, hk, rfl, Hno, Hb⟩ := hrel
            by_cases hlt : k < n
            · have hva := HV.out k hlt
              obtain ⟨a, ha⟩ : ∃ a, a = zs.getD k 0 := ⟨_, rfl⟩
              rw [← ha] at hva
              have HAk : Hid (a = zs.getD k 0) := ha
              clear ha
              go_wp2_with fail
              go_loopw [8, 9] (fun v i wq => ∃ m : Nat, m ≤ n ∧ i = .int .i64 m ∧ ∃ o : Bool, v = .bool o ∧ Hid (o = (zs.take m).all (wins a)) ∧ Hid (Below w1.heap.size w1 wq)) (fun _ i _ => n - (intOf i).toNat)
              case atStart => exact ⟨0, Nat.zero_le _, rfl, true, rfl, rfl, Hb⟩
              case round =>
                obtain ⟨m, hm, rfl, o, rfl, Ho, Hq⟩ := hrel
                by_cases hlm : m < n
                · have hca : wr.cell? ⟨b, off + k, none⟩ = some (.int .i64 a) := by rw [HAk.out]; exact ((bthen hb1 Hq.out).cell (p := ⟨b, off + k, none⟩) hb).trans (HC.out k hlt)
                  have hcm : wr.cell? ⟨b, off + m, none⟩ = some (.int .i64 (zs.getD m 0)) := ((bthen hb1 Hq.out).cell (p := ⟨b, off + m, none⟩) hb).trans (HC.out m hlm)
                  have hvm := HV.out m hlm
                  have HS : Hid ((zs.take (m + 1)).all (wins a) = ((zs.take m).all (wins a) && wins a (zs.getD m 0))) := all_take_succ zs m (by rw [HL.out]; exact hlm) _
                  generalize zs.getD m 0 = z at *
                  have hlt' : (k : Int) < (n : Int) := by omega
                  have hlm' : (m : Int) < (n : Int) := by omega
                  go_wp2_with fail
                  go_quiet ((go_at_call 12; exact Calls.quiet_of_same (refCompare_any _ _ _ hva.1 hva.2 hvm.1 hvm.2)))
                  have HW : Hid (wins a z = (rel a z == 0 || rel a z == 2)) := rfl
                  generalize rel a z = r at *
                  have Hq2 : Hid (Below w1.heap.size w1 (wr.drewN nq)) := below_drewN Hq.out nq
                  clear hca hcm Hq
                  cases h0 : (r == 0) <;> cases h2 : (r == 2) <;> cases o
                  all_goals
                    have HX : Hid (wins a z = _) := HW.out.trans (by rw [h0, h2])
                    go_wp2_with fail
                    go_roundw
                    case rel => exact ⟨m + 1, by omega, by go_num, _, rfl, by rw [Hid, HS.out, ← Ho.out, HX.out]; rfl, Hq2⟩
                    case measure => simp [intOf]; omega
                · obtain rfl : m = n := by omega
                  have hca : wr.cell? ⟨b, off + k, none⟩ = some (.int .i64 a) := by rw [HAk.out]; exact ((bthen hb1 Hq.out).cell (p := ⟨b, off + k, none⟩) hb).trans (HC.out k hlt)
                  have Ho2 : Hid (o = bestB zs (zs.getD k 0)) := by rw [Hid, Ho.out, List.take_of_length_le (by rw [HL.out]; omega), ← HAk.out]; rfl
                  cases o
                  · go_wp2_with fail
                    go_roundw
                    case rel => exact ⟨k + 1, by omega, by go_num, fun j hj => by rcases Nat.lt_succ_iff_lt_or_eq.1 hj with h | rfl; exact Hno.out j h; exact Ho2.out.symm, Hq⟩
                    case measure => simp [intOf]; omega
                  · obtain ⟨r1, r2⟩ := newest_found zs HA.out k (by rw [HL.out]; exact hlt) Hno.out Ho2.out.symm
                    rw [← HAk.out] at r1
                    have R1 : Hid (newestOf (dd zs) = a) := r1
                    have R2 : Hid (newestErr (dd zs) = 0) := r2
                    clear r1 r2
                    rw [R1.out, R2.out]
                    have hlt' : (k : Int) < (m : Int) := by omega
                    go_wp2_with fail
                    refine (known_any _).mono ?_
                    rintro e w4 ⟨rfl, hb4⟩
                    have hca4 : w4.cell? ⟨b, off + k, none⟩ = some (.int .i64 a) := by
                      refine (hb4.cell (p := ⟨b, off + k, none⟩) ?_).trans hca
                      exact Nat.lt_of_lt_of_le hb (Nat.le_trans hb1.size Hq.out.size)
                    go_wp2_with fail
                    go_ret
                    exact ⟨rfl, bthen hb1 (bthen Hq.out hb4)⟩
            · obtain ⟨r1, r2⟩ := newest_lost zs HA.out (fun j hj => Hno.out j (by rw [HL.out] at hj; omega))
              rw [r1, r2]
              clear r1 r2
              go_wp2_with fail
              refine (known_any _).mono ?_
              rintro e w4 ⟨rfl, hb4⟩
              go_wp2_with fail
              go_ret
              exact ⟨rfl, bthen hb1 (bthen Hb.out hb4)⟩

/-- What is known of a slice of numbers that came in: it is nil, or it leads to a row of 'cap' cells that hold the numbers 'zs'. -/
def IsRow (k : IntKind) (w : World) (a : Option Addr) (len cap : Nat) (zs : List Int) : Prop :=
  (a = none ∧ len = 0 ∧ cap = 0 ∧ zs = []) ∨
  ∃ x, a = some x ∧ len ≤ cap ∧ cap ≤ maxLen ∧ zs.length = cap ∧ (∀ i, i < zs.length → w.cell? (x.add i) = some (.int k (zs.getD i 0))) ∧ ∀ n ∈ zs, (Lit.int k n).wf = true

theorem newest_empty (a : Option Addr) (cap : Nat) (w : World) (hcm : cap ≤ maxLen) : Calls Try.prog 5 #[.slice a 0 cap] w fun e w' => e = .returned (.bool true) ∧ Below w.heap.size w w' := by
  unfold maxLen at hcm
  go_enter Try.func5, Try.ntmps5
  go_wp2_with (go_at_call 18; refine (newest_none _ _ _).mono ?_; rintro e w' ⟨rfl, rfl⟩)
  refine wp_loop_rounds 1 ?_
  rw [rounds_succ]
  go_wp2_with (go_at_call 10; refine (known_any _).mono ?_; rintro e w4 ⟨rfl, hb4⟩)
  go_ret
  exact ⟨rfl, hb4⟩

theorem block_of_cell {w : World} {b o : Nat} {v : Value} (h : w.cell? ⟨b, o, none⟩ = some v) : b < w.heap.size := by
  rcases Nat.lt_or_ge b w.heap.size with h' | h'
  · exact h'
  · simp [World.cell?, Array.getElem?_eq_none h'] at h

theorem newest_walk (a : Option Addr) (len cap : Nat) (zs : List Int) (w : World) (h : IsRow .i64 w a len cap zs) :
    Calls Try.prog 5 #[.slice a len cap] w fun e w' => e = .returned (.bool true) ∧ Below w.heap.size w w' := by
  rcases h with ⟨rfl, rfl, rfl, rfl⟩ | ⟨x, rfl, hlc, hcm, hz, hcell, hwf⟩
  · exact newest_empty none 0 w (by decide)
  · by_cases h1 : 1 ≤ len
    · obtain ⟨b, off, rfl, hc⟩ := ints_at hcell (by omega)
      refine newest_some b off len cap (zs.take (min len 30)) w (by simp; omega) h1 hlc hcm (block_of_cell (hc 0 (by omega))) ?_
      intro k hk
      rw [hc k (by omega)]
      simp [List.getElem?_take, hk]
    · obtain rfl : len = 0 := by omega
      exact newest_empty _ cap w hcm
end Go.Proofs.Ytlhlihphhmiflaa
