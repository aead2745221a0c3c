/- The document's answer: a kind's letters; Parts, Word, size. -/
import Derived.Test.YtbgogeojdibmkaaDoorSlo
namespace Go.Proofs.YtbgogeojdibmkaaDoor
open Go.ChangeShapes Go.WideShapes Go.ChangeAt Go.RowKit Go.Deep
set_option linter.unusedVariables false
set_option linter.unusedSimpArgs false

def chsL : List ByteArray := [⟨#[]⟩, ⟨#[120]⟩, ⟨#[116]⟩, ⟨#[112, 49, 52, 97]⟩, ⟨#[49, 49, 49, 49, 50, 50, 50, 122, 49, 50]⟩, ⟨#[49, 112, 97]⟩, ⟨#[49, 49, 49, 49]⟩, ⟨#[49, 49, 97, 49]⟩, ⟨#[112, 49, 52, 52, 113, 97]⟩, ⟨#[52]⟩]
/-- A kind's letters. -/
def chs (k : Nat) : ByteArray := chsL.getD k ⟨#[]⟩
def lets (n : Int) : ByteArray := if kndB n = true then chs n.toNat else ⟨#[63]⟩
theorem chs_at (k : Nat) (hk : k < 10) : (#[Value.string ⟨#[]⟩, .string ⟨#[120]⟩, .string ⟨#[116]⟩, .string ⟨#[112, 49, 52, 97]⟩, .string ⟨#[49, 49, 49, 49, 50, 50, 50, 122, 49, 50]⟩, .string ⟨#[49, 112, 97]⟩, .string ⟨#[49, 49, 49, 49]⟩, .string ⟨#[49, 49, 97, 49]⟩, .string ⟨#[112, 49, 52, 52, 113, 97]⟩, .string ⟨#[52]⟩] : Array Value)[k]? = some (.string (chs k)) := by
  match k, hk with
  | 0, _ => rfl
  | 1, _ => rfl
  | 2, _ => rfl
  | 3, _ => rfl
  | 4, _ => rfl
  | 5, _ => rfl
  | 6, _ => rfl
  | 7, _ => rfl
  | 8, _ => rfl
  | 9, _ => rfl
theorem wrd_at (k : Nat) (hk : k < 10) : (#[Value.string ⟨#[112, 97, 100]⟩, .string ⟨#[112, 97, 100, 115]⟩, .string ⟨#[109, 101, 116, 114, 105, 99]⟩, .string ⟨#[114, 111, 117, 116, 101]⟩, .string ⟨#[99, 111, 110, 102, 105, 103]⟩, .string ⟨#[116, 97, 114, 103, 101, 116]⟩, .string ⟨#[116, 114, 97, 110, 115, 105, 116]⟩, .string ⟨#[115, 111, 108, 105, 99, 105, 116, 101, 100]⟩, .string ⟨#[112, 114, 101, 102, 105, 120]⟩, .string ⟨#[100, 101, 115, 99, 114, 105, 112, 116, 111, 114]⟩] : Array Value)[k]? = some (.string (wrd k)) := by
  match k, hk with
  | 0, _ => rfl
  | 1, _ => rfl
  | 2, _ => rfl
  | 3, _ => rfl
  | 4, _ => rfl
  | 5, _ => rfl
  | 6, _ => rfl
  | 7, _ => rfl
  | 8, _ => rfl
  | 9, _ => rfl
set_option maxHeartbeats 400000 in
theorem parts_any (n : Int) (w : World) : Calls Tryd.prog 27 #[.int .i64 n] w fun e w' => e = .returned (.string (lets n)) ∧ Below w.heap.size w w' := by
  have B0 := hid (balloc (Below.refl w.heap.size w) (.cells #[Value.string ⟨#[]⟩, .string ⟨#[120]⟩, .string ⟨#[116]⟩, .string ⟨#[112, 49, 52, 97]⟩, .string ⟨#[49, 49, 49, 49, 50, 50, 50, 122, 49, 50]⟩, .string ⟨#[49, 112, 97]⟩, .string ⟨#[49, 49, 49, 49]⟩, .string ⟨#[49, 49, 97, 49]⟩, .string ⟨#[112, 49, 52, 52, 113, 97]⟩, .string ⟨#[52]⟩] 64))
  have R0 := hid (Row.new w 64 #[Value.string ⟨#[]⟩, .string ⟨#[120]⟩, .string ⟨#[116]⟩, .string ⟨#[112, 49, 52, 97]⟩, .string ⟨#[49, 49, 49, 49, 50, 50, 50, 122, 49, 50]⟩, .string ⟨#[49, 112, 97]⟩, .string ⟨#[49, 49, 49, 49]⟩, .string ⟨#[49, 49, 97, 49]⟩, .string ⟨#[112, 49, 52, 52, 113, 97]⟩, .string ⟨#[52]⟩])
  cases hk : kndB n
  · have HV : Hid (lets n = ⟨#[63]⟩) := by simp [Hid, lets, hk]
    have hn : n < 0 ∨ 9 < n := by simp [kndB] at hk; omega
    rcases hn with hn | hn
    · have e0 : decide (n < 0) = true := decide_eq_true hn
      go_enter Tryd.func27, Tryd.ntmps27
      go_upto_region 2 with fail
      generalize w.alloc (.cells #[Value.string ⟨#[]⟩, .string ⟨#[120]⟩, .string ⟨#[116]⟩, .string ⟨#[112, 49, 52, 97]⟩, .string ⟨#[49, 49, 49, 49, 50, 50, 50, 122, 49, 50]⟩, .string ⟨#[49, 112, 97]⟩, .string ⟨#[49, 49, 49, 49]⟩, .string ⟨#[49, 49, 97, 49]⟩, .string ⟨#[112, 49, 52, 52, 113, 97]⟩, .string ⟨#[52]⟩] 64) = w1 at *
      go_wp2_with fail
      go_ret
      exact ⟨ret_str HV.out.symm, B0.out⟩
    · have e0 : decide (n < 0) = false := decide_eq_false (by omega)
      have e1 : decide (9 < n) = true := decide_eq_true hn
      go_enter Tryd.func27, Tryd.ntmps27
      go_upto_region 2 with fail
      generalize w.alloc (.cells #[Value.string ⟨#[]⟩, .string ⟨#[120]⟩, .string ⟨#[116]⟩, .string ⟨#[112, 49, 52, 97]⟩, .string ⟨#[49, 49, 49, 49, 50, 50, 50, 122, 49, 50]⟩, .string ⟨#[49, 112, 97]⟩, .string ⟨#[49, 49, 49, 49]⟩, .string ⟨#[49, 49, 97, 49]⟩, .string ⟨#[112, 49, 52, 52, 113, 97]⟩, .string ⟨#[52]⟩] 64) = w1 at *
      go_wp2_with fail
      go_ret
      exact ⟨ret_str HV.out.symm, B0.out⟩
  · obtain ⟨k, rfl, hk10⟩ := knd_nat hk
    have HV : Hid (lets k = chs k) := by simp [Hid, lets, hk]
    have e0 : decide ((k : Int) < 0) = false := decide_eq_false (by omega)
    have e1 : decide ((9 : Int) < (k : Int)) = false := decide_eq_false (by omega)
    have e2 : decide (9 < k) = false := decide_eq_false (by omega)
    have hk10' : (k : Int) < 10 := by omega
    clear hk
    go_enter Tryd.func27, Tryd.ntmps27
    go_upto_region 2 with fail
    generalize w.alloc (.cells #[Value.string ⟨#[]⟩, .string ⟨#[120]⟩, .string ⟨#[116]⟩, .string ⟨#[112, 49, 52, 97]⟩, .string ⟨#[49, 49, 49, 49, 50, 50, 50, 122, 49, 50]⟩, .string ⟨#[49, 112, 97]⟩, .string ⟨#[49, 49, 49, 49]⟩, .string ⟨#[49, 49, 97, 49]⟩, .string ⟨#[112, 49, 52, 52, 113, 97]⟩, .string ⟨#[52]⟩] 64) = w1 at *
    have ck := (R0.out.cell k).trans (chs_at k hk10)
    go_wp2_with fail
    go_ret
    exact ⟨ret_str HV.out.symm, B0.out⟩
set_option maxHeartbeats 400000 in
theorem refWord_any (n : Int) (w : World) : Calls Tryd.prog 13 #[.int .i64 n] w fun e w' => e = .returned (.string (wordOf n)) ∧ Below w.heap.size w w' := by
  have B0 := hid (balloc (Below.refl w.heap.size w) (.cells #[Value.string ⟨#[112, 97, 100]⟩, .string ⟨#[112, 97, 100, 115]⟩, .string ⟨#[109, 101, 116, 114, 105, 99]⟩, .string ⟨#[114, 111, 117, 116, 101]⟩, .string ⟨#[99, 111, 110, 102, 105, 103]⟩, .string ⟨#[116, 97, 114, 103, 101, 116]⟩, .string ⟨#[116, 114, 97, 110, 115, 105, 116]⟩, .string ⟨#[115, 111, 108, 105, 99, 105, 116, 101, 100]⟩, .string ⟨#[112, 114, 101, 102, 105, 120]⟩, .string ⟨#[100, 101, 115, 99, 114, 105, 112, 116, 111, 114]⟩] 64))
  have R0 := hid (Row.new w 64 #[Value.string ⟨#[112, 97, 100]⟩, .string ⟨#[112, 97, 100, 115]⟩, .string ⟨#[109, 101, 116, 114, 105, 99]⟩, .string ⟨#[114, 111, 117, 116, 101]⟩, .string ⟨#[99, 111, 110, 102, 105, 103]⟩, .string ⟨#[116, 97, 114, 103, 101, 116]⟩, .string ⟨#[116, 114, 97, 110, 115, 105, 116]⟩, .string ⟨#[115, 111, 108, 105, 99, 105, 116, 101, 100]⟩, .string ⟨#[112, 114, 101, 102, 105, 120]⟩, .string ⟨#[100, 101, 115, 99, 114, 105, 112, 116, 111, 114]⟩])
  cases hk : kndB n
  · have HV : Hid (wordOf n = ByteArray.empty) := by simp [Hid, wordOf, hk]
    have hn : n < 0 ∨ 9 < n := by simp [kndB] at hk; omega
    rcases hn with hn | hn
    · have e0 : decide (n < 0) = true := decide_eq_true hn
      go_enter Tryd.func13, Tryd.ntmps13
      go_upto_region 2 with fail
      generalize w.alloc (.cells #[Value.string ⟨#[112, 97, 100]⟩, .string ⟨#[112, 97, 100, 115]⟩, .string ⟨#[109, 101, 116, 114, 105, 99]⟩, .string ⟨#[114, 111, 117, 116, 101]⟩, .string ⟨#[99, 111, 110, 102, 105, 103]⟩, .string ⟨#[116, 97, 114, 103, 101, 116]⟩, .string ⟨#[116, 114, 97, 110, 115, 105, 116]⟩, .string ⟨#[115, 111, 108, 105, 99, 105, 116, 101, 100]⟩, .string ⟨#[112, 114, 101, 102, 105, 120]⟩, .string ⟨#[100, 101, 115, 99, 114, 105, 112, 116, 111, 114]⟩] 64) = w1 at *
      go_wp2_with fail
      go_ret
      exact ⟨ret_str HV.out.symm, B0.out⟩
    · have e0 : decide (n < 0) = false := decide_eq_false (by omega)
      have e1 : decide (9 < n) = true := decide_eq_true hn
      go_enter Tryd.func13, Tryd.ntmps13
      go_upto_region 2 with fail
      generalize w.alloc (.cells #[Value.string ⟨#[112, 97, 100]⟩, .string ⟨#[112, 97, 100, 115]⟩, .string ⟨#[109, 101, 116, 114, 105, 99]⟩, .string ⟨#[114, 111, 117, 116, 101]⟩, .string ⟨#[99, 111, 110, 102, 105, 103]⟩, .string ⟨#[116, 97, 114, 103, 101, 116]⟩, .string ⟨#[116, 114, 97, 110, 115, 105, 116]⟩, .string ⟨#[115, 111, 108, 105, 99, 105, 116, 101, 100]⟩, .string ⟨#[112, 114, 101, 102, 105, 120]⟩, .string ⟨#[100, 101, 115, 99, 114, 105, 112, 116, 111, 114]⟩] 64) = w1 at *
      go_wp2_with fail
      go_ret
      exact ⟨ret_str HV.out.symm, B0.out⟩
  · obtain ⟨k, rfl, hk10⟩ := knd_nat hk
    have HV : Hid (wordOf k = wrd k) := by simp [Hid, wordOf, hk]
    have e0 : decide ((k : Int) < 0) = false := decide_eq_false (by omega)
    have e1 : decide ((9 : Int) < (k : Int)) = false := decide_eq_false (by omega)
    have e2 : decide (9 < k) = false := decide_eq_false (by omega)
    have hk10' : (k : Int) < 10 := by omega
    clear hk
    go_enter Tryd.func13, Tryd.ntmps13
    go_upto_region 2 with fail
    generalize w.alloc (.cells #[Value.string ⟨#[112, 97, 100]⟩, .string ⟨#[112, 97, 100, 115]⟩, .string ⟨#[109, 101, 116, 114, 105, 99]⟩, .string ⟨#[114, 111, 117, 116, 101]⟩, .string ⟨#[99, 111, 110, 102, 105, 103]⟩, .string ⟨#[116, 97, 114, 103, 101, 116]⟩, .string ⟨#[116, 114, 97, 110, 115, 105, 116]⟩, .string ⟨#[115, 111, 108, 105, 99, 105, 116, 101, 100]⟩, .string ⟨#[112, 114, 101, 102, 105, 120]⟩, .string ⟨#[100, 101, 115, 99, 114, 105, 112, 116, 111, 114]⟩] 64) = w1 at *
    have ck := (R0.out.cell k).trans (wrd_at k hk10)
    go_wp2_with fail
    go_ret
    exact ⟨ret_str HV.out.symm, B0.out⟩
/-- A letter's bytes, if it is a number. -/
def szc (c : Int) : Int := if c = 49 ∨ c = 112 ∨ c = 122 ∨ c = 120 then 1 else if c = 50 then 2 else if c = 52 ∨ c = 113 then 4 else 0
set_option maxHeartbeats 800000 in
theorem rsize_any (c : Int) (w : World) : Calls Tryd.prog 28 #[.int .u8 c] w fun e w' => e = .returned (.int .i64 (szc c)) ∧ w' = w := by
  have key : ∀ b1 b2 b3 b4 b5 b6 b7 : Bool, (c == 49) = b1 → (c == 112) = b2 → (c == 122) = b3 → (c == 120) = b4 → (c == 50) = b5 → (c == 52) = b6 → (c == 113) = b7 → szc c = (if (b1 || (b2 || (b3 || b4))) = true then 1 else if b5 = true then 2 else if (b6 || b7) = true then 4 else 0) → Calls Tryd.prog 28 #[.int .u8 c] w fun e w' => e = .returned (.int .i64 (szc c)) ∧ w' = w := by
    intro b1 b2 b3 b4 b5 b6 b7 h1 h2 h3 h4 h5 h6 h7 hs
    have HS := hid hs
    generalize szc c = s at *
    clear hs
    cases b1
    · cases b2
      · cases b3
        · cases b4
          · cases b5
            · cases b6
              · cases b7
                all_goals (go_enter Tryd.func28, Tryd.ntmps28; go_wp2; go_ret; exact ⟨ret_int HS.out.symm, rfl⟩)
              · go_enter Tryd.func28, Tryd.ntmps28; go_wp2; go_ret; exact ⟨ret_int HS.out.symm, rfl⟩
            · go_enter Tryd.func28, Tryd.ntmps28; go_wp2; go_ret; exact ⟨ret_int HS.out.symm, rfl⟩
          · go_enter Tryd.func28, Tryd.ntmps28; go_wp2; go_ret; exact ⟨ret_int HS.out.symm, rfl⟩
        · go_enter Tryd.func28, Tryd.ntmps28; go_wp2; go_ret; exact ⟨ret_int HS.out.symm, rfl⟩
      · go_enter Tryd.func28, Tryd.ntmps28; go_wp2; go_ret; exact ⟨ret_int HS.out.symm, rfl⟩
    · go_enter Tryd.func28, Tryd.ntmps28; go_wp2; go_ret; exact ⟨ret_int HS.out.symm, rfl⟩
  refine key _ _ _ _ _ _ _ rfl rfl rfl rfl rfl rfl rfl ?_
  unfold szc
  simp only [Bool.or_eq_true, beq_iff_eq]
end Go.Proofs.YtbgogeojdibmkaaDoor
