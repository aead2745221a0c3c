/- What addr's zeroRun answers. -/
import Derived.Test.YtoijfnkbjdekoaaDoorGo2
import Derived.Deep.LoopGhost
import Derived.WalkMore
namespace Go.Proofs.YtoijfnkbjdekoaaDoor
open Go.ChangeShapes Go.WideShapes Go.ChangeAt Go.RowKit
set_option linter.unusedVariables false
set_option linter.unusedSimpArgs false

/-- A run from first up to i may be the longest one. -/
def zst (st : Nat × Nat) (first i : Nat) : Nat × Nat := if 2 ≤ i + 1 - first ∧ st.2 - st.1 < i + 1 - first then (first, i + 1) else st
def zin (g : List Int) (first : Nat) : Nat → Nat → Nat × Nat → Nat × Nat
  | 0, _, st => st
  | f + 1, i, st => if g.getD i 0 = 0 then zin g first f (i + 1) (zst st first i) else st
def zout (g : List Int) : Nat → Nat → Nat × Nat → Nat × Nat
  | 0, _, st => st
  | f + 1, first, st => zout g f (first + 1) (zin g first (f + 1) first st)
/-- Where the run begins and ends that is told by two colons. -/
def zr (g : List Int) : Nat × Nat := zout g 8 0 (0, 0)
theorem ret_2 {a b c d : Int} (h : a = b) (h2 : c = d) : Ending.returned (.tuple #[.int .i64 a, .int .i64 c]) = .returned (.tuple #[.int .i64 b, .int .i64 d]) := by rw [h, h2]

set_option maxRecDepth 100000 in
set_option maxHeartbeats 1600000 in
theorem zeroRun_any (g : List Int) (w : World) (hl : g.length = 8) :
    Calls Tryd.prog 30 #[.agg (i64s g)] w fun e w' => e = .returned (.tuple #[.int .i64 ((zr g).1 : Int), .int .i64 ((zr g).2 : Int)]) ∧ Below w.heap.size w w' := by
  have hc : ∀ j, j < 8 → (w.alloc (.cells (i64s g) 23)).cell? ⟨w.heap.size, j, none⟩ = some (.int .i64 (g.getD j 0)) := fun j hj => by rw [(Row.new w 23 (i64s g)).cell, i64s_at g j (by omega)]
  have HC : Hid (∀ j, j < 8 → (w.alloc (.cells (i64s g) 23)).cell? ⟨w.heap.size, j, none⟩ = some (.int .i64 (g.getD j 0))) := hc
  clear hc hl
  go_enter Tryd.func30, Tryd.ntmps30
  go_wp2_with fail
  go_step3
  go_wp2_with fail
  go_step3
  go_wp2_with fail
  go_loopg [2, 3, 7] 8 (fun gh vf vt i wr => ∃ (k f t : Nat), k + gh = 8 ∧ vf = .int .i64 (f : Int) ∧ vt = .int .i64 (t : Int) ∧ i = .int .i64 (k : Int) ∧ f ≤ t ∧ t ≤ 8 ∧ Hid (zr g = zout g gh k (f, t)) ∧ wr = w.alloc (.cells (i64s g) 23))
  case atStart => exact ⟨0, 0, 0, rfl, rfl, rfl, rfl, by omega, by omega, rfl, rfl⟩
  case round =>
    obtain ⟨k, f, t, hk, rfl, rfl, rfl, hft, ht8, HZ, rfl⟩ := hrel
    cases gk with
    | zero =>
      have hkz : ¬ ((k : Int) < 8) := by omega
      go_wp2_with fail
      go_ret2
      exact ⟨ret_2 (by rw [HZ.out]; rfl) (by rw [HZ.out]; rfl), below_new w _⟩
    | succ gh =>
      have hkz : ((k : Int) < 8) := by omega
      have HZ1 : Hid (zr g = zout g gh (k + 1) (zin g k (gh + 1) k (f, t))) := HZ.out
      clear HZ
      go_wp2_with fail
      go_loopg [2, 3, 5] (gh + 1) (fun gi vf vt i wq => ∃ (m f t : Nat), m + gi = 8 ∧ k ≤ m ∧ vf = .int .i64 (f : Int) ∧ vt = .int .i64 (t : Int) ∧ i = .int .i64 (m : Int) ∧ f ≤ t ∧ t ≤ 8 ∧ Hid (zr g = zout g gh (k + 1) (zin g k gi m (f, t))) ∧ wq = w.alloc (.cells (i64s g) 23))
      case atStart => exact ⟨k, f, t, by omega, Nat.le_refl _, rfl, rfl, rfl, hft, ht8, HZ1, rfl⟩
      case round =>
        clear HZ1 hft ht8
        obtain ⟨m, f, t, hm, hkm, rfl, rfl, rfl, hft, ht8, HZ, rfl⟩ := hrel
        cases gk with
        | zero =>
          have hmz : ¬ ((m : Int) < 8) := by omega
          have HN : Hid (zr g = zout g gh (k + 1) (f, t)) := HZ.out
          go_wp2_with fail
          go_roundg gh
          case measure => omega
          case rel => exact ⟨k + 1, f, t, by omega, rfl, rfl, by go_num, hft, ht8, HN, rfl⟩
        | succ gi =>
          have hmz : ((m : Int) < 8) := by omega
          have hcell := HC.out m (by omega)
          have HE : Hid (zin g k (gi + 1) m (f, t) = if g.getD m 0 = 0 then zin g k gi (m + 1) (zst (f, t) k m) else (f, t)) := rfl
          generalize g.getD m 0 = x at *
          by_cases hx : x = 0
          · subst hx
            by_cases hc1 : 2 ≤ m + 1 - k
            · have i1 : (2 : Int) ≤ (m : Int) + 1 - (k : Int) := by omega
              by_cases hc2 : t - f < m + 1 - k
              · have i2 : (t : Int) - (f : Int) < (m : Int) + 1 - (k : Int) := by omega
                have HN : Hid (zr g = zout g gh (k + 1) (zin g k gi (m + 1) (k, m + 1))) := by show _ = _; rw [HZ.out, HE.out, if_pos rfl, zst, if_pos ⟨hc1, hc2⟩]
                go_wp2_with fail
                go_roundg gi
                case measure => omega
                case rel => exact ⟨m + 1, k, m + 1, by omega, by omega, rfl, by go_num, by go_num, by omega, by omega, HN, rfl⟩
              · have i2 : decide ((t : Int) - (f : Int) < (m : Int) + 1 - (k : Int)) = false := decide_eq_false (by omega)
                have HN : Hid (zr g = zout g gh (k + 1) (zin g k gi (m + 1) (f, t))) := by show _ = _; rw [HZ.out, HE.out, if_pos rfl, zst, if_neg (by intro h; exact hc2 h.2)]
                go_wp2_with fail
                go_roundg gi
                case measure => omega
                case rel => exact ⟨m + 1, f, t, by omega, by omega, rfl, rfl, by go_num, hft, ht8, HN, rfl⟩
            · have i1 : decide ((2 : Int) ≤ (m : Int) + 1 - (k : Int)) = false := decide_eq_false (by omega)
              have HN : Hid (zr g = zout g gh (k + 1) (zin g k gi (m + 1) (f, t))) := by show _ = _; rw [HZ.out, HE.out, if_pos rfl, zst, if_neg (by intro h; exact hc1 h.1)]
              go_wp2_with fail
              go_roundg gi
              case measure => omega
              case rel => exact ⟨m + 1, f, t, by omega, by omega, rfl, rfl, by go_num, hft, ht8, HN, rfl⟩
          · have hx' : (x != 0) = true := by simpa using hx
            have HN : Hid (zr g = zout g gh (k + 1) (f, t)) := by show _ = _; rw [HZ.out, HE.out, if_neg hx]
            clear hx
            go_wp2_with fail
            go_roundg gh
            case measure => omega
            case rel => exact ⟨k + 1, f, t, by omega, rfl, rfl, by go_num, hft, ht8, HN, rfl⟩
end Go.Proofs.YtoijfnkbjdekoaaDoor
