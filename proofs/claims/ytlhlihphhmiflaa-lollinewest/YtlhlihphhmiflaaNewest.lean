/- What lolli's Newest answers. -/
import Derived.Test.YtlhlihphhmiflaaDistinct
import Derived.Deep.LoopGhost
import Derived.WalkMore
namespace Go.Proofs.Ytlhlihphhmiflaa
open Go.ChangeShapes Go.WideShapes Go.ChangeAt Go.RowKit
set_option linter.unusedVariables false
set_option linter.unusedSimpArgs false

theorem ret_2 {a b c d : Int} (h : a = b) (h2 : c = d) : Ending.returned (.tuple #[.int .i64 a, .int .i64 c]) = .returned (.tuple #[.int .i64 b, .int .i64 d]) := by rw [h, h2]

def beats (a b : Int) : Bool := a == b || newerB a b
def okIn (ds : List Int) (a : Int) : Bool := ds.all (beats a)
/-- The first one that is newer than, or the same as, each other one; what is wrong. -/
def newestOf (ds : List Int) : Int := ((ds.find? (okIn ds)).getD 0)
def newestErr (ds : List Int) : Int := if (ds.find? (okIn ds)).isSome then 0 else 8

theorem find_at (ds : List Int) (p : Int → Bool) (k : Nat) (h : k < ds.length) (hno : ∀ j, j < k → p (ds.getD j 0) = false) (hp : p (ds.getD k 0) = true) : ds.find? p = some (ds.getD k 0) := by
  induction ds generalizing k with
  | nil => simp at h
  | cons d ds ih =>
    cases k with
    | zero => simp at hp; simp [List.find?, hp]
    | succ k =>
      have h0 := hno 0 (by omega)
      simp at h0
      simp only [List.find?, h0]
      exact ih k (by simpa using h) (fun j hj => by simpa using hno (j + 1) (by omega)) (by simpa using hp)

theorem find_no (ds : List Int) (p : Int → Bool) (hno : ∀ j, j < ds.length → p (ds.getD j 0) = false) : ds.find? p = none := by
  rw [List.find?_eq_none]
  intro x hx
  obtain ⟨j, hj, rfl⟩ := List.mem_iff_getElem.1 hx
  have := hno j hj
  simpa [hj] using this

theorem all_of (ds : List Int) (p : Int → Bool) (h : ∀ j, j < ds.length → p (ds.getD j 0) = true) : ds.all p = true := by
  rw [List.all_eq_true]
  intro x hx
  obtain ⟨j, hj, rfl⟩ := List.mem_iff_getElem.1 hx
  have := h j hj
  simpa [hj] using this

set_option maxHeartbeats 1600000 in
theorem newest_ok (b off len cap : Nat) (zs : List Int) (w : World) (hl : zs.length = len) (h1 : 1 ≤ len) (hm : len ≤ 1000) (hb : b < w.heap.size)
    (hc : ∀ k, k < len → w.cell? ⟨b, off + k, none⟩ = some (.int .i64 (zs.getD k 0))) (hv : zs.all vB = true) :
    Calls Try.prog 18 #[.slice (some ⟨b, off, none⟩) len cap] w fun e w' => e = .returned (.tuple #[.int .i64 (newestOf (dd zs)), .int .i64 (newestErr (dd zs))]) ∧ Below w.heap.size w w' := by
  have hlz : ((len : Int) == 0) = false := by simp; omega
  have hvs : ∀ k, k < len → 0 ≤ zs.getD k 0 ∧ zs.getD k 0 < 256 := by
    intro k hk
    have hk' : k < zs.length := by omega
    have := List.all_eq_true.1 hv (zs[k]) (List.getElem_mem hk')
    have := vB_true this
    simpa [hk'] using this
  have HN := all_false
  have HC : Hid (∀ k, k < len → w.cell? ⟨b, off + k, none⟩ = some (.int .i64 (zs.getD k 0))) := hc
  have HV : Hid (∀ k, k < len → 0 ≤ zs.getD k 0 ∧ zs.getD k 0 < 256) := hvs
  have HL : Hid (zs.length = len) := hl
  clear hc hvs hl HN
  go_enter Try.func18, Try.ntmps18
  go_wp2_with fail
  go_step3
  go_wp2_with fail
  refine (valid_any b off len cap zs w HL.out (by unfold maxLen; omega) HC.out).mono ?_
  rintro e w1 ⟨rfl, rfl⟩
  rw [hv]
  clear hv
  go_wp2_with fail
  refine (distinct_any b off len cap zs w1 HL.out hm hb HC.out HV.out).mono ?_
  rintro e w2 ⟨v, rfl, hown, hb2⟩
  have hdl : (dd zs).length ≤ 1000 := by have := dd_len zs len (by rw [HL.out]; omega); rw [List.take_of_length_le (by rw [HL.out]; omega)] at this; omega
  have hne : 1 ≤ (dd zs).length := by
    have h0 : zs.getD 0 0 ∈ dd zs := by
      have := (mem_dd zs len (by rw [HL.out]; omega) (zs.getD 0 0)).2
      rw [List.take_of_length_le (by rw [HL.out]; omega)] at this
      refine this ?_
      have h0 : 0 < zs.length := by rw [HL.out]; omega
      simp [h0]
    exact List.length_pos_of_mem h0
  obtain ⟨g, cp, hv, hg, hcell⟩ : ∃ g cp, v = .slice (some ⟨g, 0, none⟩) (dd zs).length cp ∧ g < w2.heap.size ∧ ∀ j, j < (dd zs).length → w2.cell? ⟨g, j, none⟩ = some (.int .i64 ((dd zs).getD j 0)) := by
    rcases hown.2 with ⟨_, h0⟩ | ⟨g, cp, cur, rfl, hbg, hh, _⟩
    · omega
    · refine ⟨g, cp, rfl, ?_, fun j hj => ?_⟩
      · rcases Nat.lt_or_ge g w2.heap.size with h | h
        · exact h
        · simp [Array.getElem?_eq_none h] at hh
      · rw [hown.cellAt j (by omega)]; simp [hj]
  subst hv
  generalize hds : dd zs = ds at *
  have HD : Hid (dd zs = ds) := hds
  clear hown hds HC HV HL
  have HG : Hid (∀ j, j < ds.length → w2.cell? ⟨g, j, none⟩ = some (.int .i64 (ds.getD j 0))) := hcell
  clear hcell
  generalize hn : ds.length = n at *
  have Hn : Hid (ds.length = n) := hn
  clear hn
  go_wp2_with fail
  go_step3
  go_wp2_with fail
  go_loopg [21] n (fun gh i wr => ∃ k : Nat, k + gh = n ∧ i = .int .i64 k ∧ Hid (∀ j, j < k → okIn ds (ds.getD j 0) = false) ∧ Hid (Below w2.heap.size w2 wr))
  case atStart => exact ⟨0, by omega, rfl, fun j hj => by omega, Below.refl _ _⟩
  case round =>
    obtain ⟨k, hk, rfl, Hno, Hb⟩ := hrel
    cases gk with
    | zero =>
      have hkz : ¬ ((k : Int) < (n : Int)) := by omega
      have HF : Hid (ds.find? (okIn ds) = none) := find_no ds _ (fun j hj => Hno.out j (by have := Hn.out; omega))
      go_wp2_with fail
      go_ret2
      exact ⟨ret_2 (by rw [HD.out, newestOf, HF.out]; rfl) (by rw [HD.out, newestErr, HF.out]; rfl), bthen hb2 Hb.out⟩
    | succ gh =>
      have hkz : ((k : Int) < (n : Int)) := by omega
      have hca : wr.cell? ⟨g, k, none⟩ = some (.int .i64 (ds.getD k 0)) := (Hb.out.cell (p := ⟨g, k, none⟩) hg).trans (HG.out k (by omega))
      obtain ⟨a, ha⟩ : ∃ a, a = ds.getD k 0 := ⟨_, rfl⟩
      rw [← ha] at hca
      have HA : Hid (a = ds.getD k 0) := ha
      clear ha
      go_wp2_with fail
      go_loopg [27] n (fun gi i wq => ∃ m : Nat, m + gi = n ∧ i = .int .i64 m ∧ Hid (∀ j, j < m → beats a (ds.getD j 0) = true) ∧ Hid (Below w2.heap.size w2 wq))
      case atStart => exact ⟨0, by omega, rfl, fun j hj => by omega, Hb⟩
      case round =>
        clear hca
        obtain ⟨m, hmn, rfl, Hyes, Hq⟩ := hrel
        cases gk with
        | zero =>
          have hmz : ¬ ((m : Int) < (n : Int)) := by omega
          have HF : Hid (ds.find? (okIn ds) = some a) := by
            rw [HA.out]
            refine find_at ds _ k (by have := Hn.out; omega) Hno.out ?_
            rw [← HA.out]
            exact all_of ds _ (fun j hj => Hyes.out j (by have := Hn.out; omega))
          go_wp2_with fail
          go_ret2
          exact ⟨ret_2 (by rw [HD.out, newestOf, HF.out]; rfl) (by rw [HD.out, newestErr, HF.out]; rfl), bthen hb2 Hq.out⟩
        | succ gi =>
          have hmz : ((m : Int) < (n : Int)) := by omega
          have hcb : wr.cell? ⟨g, m, none⟩ = some (.int .i64 (ds.getD m 0)) := (Hq.out.cell (p := ⟨g, m, none⟩) hg).trans (HG.out m (by omega))
          obtain ⟨c, hc⟩ : ∃ c, c = ds.getD m 0 := ⟨_, rfl⟩
          rw [← hc] at hcb
          have HCc : Hid (c = ds.getD m 0) := hc
          clear hc
          by_cases hac : a = c
          · have hne : (a != c) = false := by simp [hac]
            have HY : Hid (beats a (ds.getD m 0) = true) := by rw [Hid, ← HCc.out, beats, hac]; simp
            clear hac
            go_wp2_with fail
            go_roundg gi
            case measure => omega
            case rel => exact ⟨m + 1, by omega, by go_num, fun j hj => by rcases Nat.lt_succ_iff_lt_or_eq.1 hj with h | rfl; exact Hyes.out j h; exact HY.out, Hq⟩
          · have hne : (a != c) = true := by simp [hac]
            cases hnw : newerB a c
            · have HY : Hid (beats a (ds.getD m 0) = false) := by rw [Hid, ← HCc.out, beats, hnw]; simpa using hac
              have HO : Hid (okIn ds (ds.getD k 0) = false) := by rw [Hid, ← HA.out]; exact all_false ds m (by have := Hn.out; omega) _ HY.out
              clear hac
              go_wp2_with fail
              refine (newer_any a c _).mono ?_
              rintro e w3 ⟨rfl, hb3⟩
              rw [hnw]
              go_wp2_with fail
              go_roundg gh
              case measure => omega
              case rel => exact ⟨k + 1, by omega, by go_num, fun j hj => by rcases Nat.lt_succ_iff_lt_or_eq.1 hj with h | rfl; exact Hno.out j h; exact HO.out, bthen Hq.out hb3⟩
            · have HY : Hid (beats a (ds.getD m 0) = true) := by rw [Hid, ← HCc.out, beats, hnw]; simp
              clear hac
              go_wp2_with fail
              refine (newer_any a c _).mono ?_
              rintro e w3 ⟨rfl, hb3⟩
              rw [hnw]
              go_wp2_with fail
              go_roundg gi
              case measure => omega
              case rel => exact ⟨m + 1, by omega, by go_num, fun j hj => by rcases Nat.lt_succ_iff_lt_or_eq.1 hj with h | rfl; exact Hyes.out j h; exact HY.out, bthen Hq.out hb3⟩

theorem newest_bad (b off len cap : Nat) (zs : List Int) (w : World) (hl : zs.length = len) (h1 : 1 ≤ len) (hm : len ≤ 1000)
    (hc : ∀ k, k < len → w.cell? ⟨b, off + k, none⟩ = some (.int .i64 (zs.getD k 0))) (hv : zs.all vB = false) :
    Calls Try.prog 18 #[.slice (some ⟨b, off, none⟩) len cap] w fun e w' => e = .returned (.tuple #[.int .i64 0, .int .i64 1]) ∧ w' = w := by
  have hlz : ((len : Int) == 0) = false := by simp; omega
  have HC : Hid (∀ k, k < len → w.cell? ⟨b, off + k, none⟩ = some (.int .i64 (zs.getD k 0))) := hc
  have HL : Hid (zs.length = len) := hl
  clear hc hl
  go_enter Try.func18, Try.ntmps18
  go_wp2_with fail
  go_step3
  go_wp2_with fail
  refine (valid_any b off len cap zs w HL.out (by unfold maxLen; omega) HC.out).mono ?_
  rintro e w1 ⟨rfl, rfl⟩
  rw [hv]
  go_wp2_with fail
  try rw [Exit.noGoto_ret]
  go_ret2
  exact ⟨rfl, rfl⟩

theorem newest_none (a : Option Addr) (cap : Nat) (w : World) :
    Calls Try.prog 18 #[.slice a 0 cap] w fun e w' => e = .returned (.tuple #[.int .i64 0, .int .i64 1]) ∧ w' = w := by
  go_enter Try.func18, Try.ntmps18
  go_wp2_with fail
  go_step3
  go_wp2_with fail
  try rw [Exit.noGoto_ret]
  go_ret2
  exact ⟨rfl, rfl⟩
end Go.Proofs.Ytlhlihphhmiflaa
