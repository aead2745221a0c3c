/- The table of kinds in memory; isKind, Word, partsSize, numbers. -/
import Derived.Test.YtbgogeojdibmkaaDoorOpt
namespace Go.Proofs.YtbgogeojdibmkaaDoor
open Go.ChangeShapes Go.WideShapes Go.ChangeAt Go.RowKit Go.Deep
set_option linter.unusedVariables false
set_option linter.unusedSimpArgs false

def wrds : List ByteArray := [⟨#[112, 97, 100]⟩, ⟨#[112, 97, 100, 115]⟩, ⟨#[109, 101, 116, 114, 105, 99]⟩, ⟨#[114, 111, 117, 116, 101]⟩, ⟨#[99, 111, 110, 102, 105, 103]⟩, ⟨#[116, 97, 114, 103, 101, 116]⟩, ⟨#[116, 114, 97, 110, 115, 105, 116]⟩, ⟨#[115, 111, 108, 105, 99, 105, 116, 101, 100]⟩, ⟨#[112, 114, 101, 102, 105, 120]⟩, ⟨#[100, 101, 115, 99, 114, 105, 112, 116, 111, 114]⟩]
def prts : List (List (Int × Int)) := [[], [(1, 255)], [], [(1, 128), (1, 255), (4, 4294967295), (16, 0)], [(1, 255), (1, 255), (1, 255), (1, 255), (2, 65535), (2, 65535), (2, 65535), (1, 0), (1, 255), (2, 65535)], [(1, 255), (1, 128), (16, 0)], [(1, 255), (1, 255), (1, 255), (1, 255)], [(1, 255), (1, 255), (16, 0), (1, 255)], [(1, 128), (1, 255), (4, 4294967295), (4, 4294967295), (4, 0), (16, 0)], [(4, 4294967295)]]
/-- A kind's word. -/
def wrd (k : Nat) : ByteArray := wrds.getD k ByteArray.empty
/-- A kind's parts. -/
def prt (k : Nat) : List (Int × Int) := prts.getD k []
def zer (k : Nat) : Bool := k == 1
def txb (k : Nat) : Bool := k == 2
/-- Parts in memory, below a bound. -/
structure PLies (B : Nat) (w : World) (a : Option Addr) (n cap : Nat) (l : List (Int × Int)) : Prop where
  len : l.length = n
  le : n ≤ cap
  max : cap ≤ maxLen
  cell : ∀ i, i < n → ∃ b off, a = some ⟨b, off, none⟩ ∧ b < B ∧ w.cell? ⟨b, off + i * 2, none⟩ = some (.int .i64 (l.getD i (0, 0)).1) ∧ w.cell? ⟨b, off + i * 2 + 1, none⟩ = some (.int .i64 (l.getD i (0, 0)).2)
/-- The table of kinds in memory. -/
structure Vars (B : Nat) (w : World) : Prop where
  pos : 0 < B
  le : B ≤ w.heap.size
  word : ∀ k, k < 10 → w.cell? ⟨0, k * 4, none⟩ = some (.string (wrd k))
  parts : ∀ k, k < 10 → ∃ a n cap, w.cell? ⟨0, k * 4 + 1, none⟩ = some (.slice a n cap) ∧ PLies B w a n cap (prt k)
  zeros : ∀ k, k < 10 → w.cell? ⟨0, k * 4 + 2, none⟩ = some (.bool (zer k))
  text : ∀ k, k < 10 → w.cell? ⟨0, k * 4 + 3, none⟩ = some (.bool (txb k))
theorem PLies.same {B : Nat} {w w' : World} {a : Option Addr} {n cap : Nat} {l : List (Int × Int)} (h : PLies B w a n cap l) (hc : ∀ b o, b < B → w'.cell? ⟨b, o, none⟩ = w.cell? ⟨b, o, none⟩) : PLies B w' a n cap l :=
  ⟨h.len, h.le, h.max, fun i hi => by
    obtain ⟨b, off, h1, h2, h3, h4⟩ := h.cell i hi
    exact ⟨b, off, h1, h2, (hc _ _ h2).trans h3, (hc _ _ h2).trans h4⟩⟩
theorem Vars.same {B : Nat} {w w' : World} (h : Vars B w) (hs : w.heap.size ≤ w'.heap.size) (hc : ∀ b o, b < B → w'.cell? ⟨b, o, none⟩ = w.cell? ⟨b, o, none⟩) : Vars B w' :=
  ⟨h.pos, Nat.le_trans h.le hs, fun k hk => (hc _ _ h.pos).trans (h.word k hk), fun k hk => by
    obtain ⟨a, n, cap, h1, h2⟩ := h.parts k hk
    exact ⟨a, n, cap, (hc _ _ h.pos).trans h1, h2.same hc⟩, fun k hk => (hc _ _ h.pos).trans (h.zeros k hk), fun k hk => (hc _ _ h.pos).trans (h.text k hk)⟩
theorem Vars.below {B : Nat} {w w' : World} (h : Vars B w) (hb : Below w.heap.size w w') : Vars B w' :=
  h.same hb.size (fun b o hlt => hb.cell (p := ⟨b, o, none⟩) (Nat.lt_of_lt_of_le hlt h.le))
theorem Vars.grown {B : Nat} {w w' : World} {c : Nat} (h : Vars B w) (hg : w.grownBy w' (some c)) (hc : B ≤ c) : Vars B w' :=
  h.same hg.size (fun b o hlt => by
    have := hg.block b (Nat.lt_of_lt_of_le hlt h.le) (fun e => by have := Option.some.inj e; omega)
    simp only [World.cell?, this])
theorem Vars.drewN {B : Nat} {w : World} (h : Vars B w) (q : Nat) : Vars B (w.drewN q) := h.same (Nat.le_refl _) (fun _ _ _ => rfl)

/-- Is a number a kind? -/
def kndB (n : Int) : Bool := decide (0 ≤ n ∧ n < 10)
theorem isKind_any (n : Int) (w : World) : Calls Tryd.prog 26 #[.int .i64 n] w fun e w' => e = .returned (.bool (kndB n)) ∧ w' = w := by
  have HV : Hid (kndB n = decide (0 ≤ n ∧ n < 10)) := rfl
  generalize kndB n = b at *
  by_cases h0 : 0 ≤ n
  · have e0 : decide (0 ≤ n) = true := decide_eq_true h0
    by_cases h1 : n < 10
    · have e1 : decide (n < 10) = true := decide_eq_true h1
      go_enter Tryd.func26, Tryd.ntmps26
      go_wp2
      go_ret
      exact ⟨ret_bool (by rw [HV.out]; simp; omega), rfl⟩
    · have e1 : decide (n < 10) = false := decide_eq_false h1
      go_enter Tryd.func26, Tryd.ntmps26
      go_wp2
      go_ret
      exact ⟨ret_bool (by rw [HV.out]; simp; omega), rfl⟩
  · have e0 : decide (0 ≤ n) = false := decide_eq_false h0
    go_enter Tryd.func26, Tryd.ntmps26
    go_wp2
    go_ret
    exact ⟨ret_bool (by rw [HV.out]; simp; omega), rfl⟩
def wordOf (n : Int) : ByteArray := if kndB n = true then wrd n.toNat else ByteArray.empty
theorem ret_str {a b : ByteArray} (h : a = b) : Ending.returned (.string a) = .returned (.string b) := by rw [h]
theorem word_any {B : Nat} (n : Int) (w : World) (hV : Vars B w) : Calls Tryd.prog 12 #[.int .i64 n] w fun e w' => e = .returned (.string (wordOf n)) ∧ w' = w := by
  cases hk : kndB n
  · have HV : Hid (wordOf n = ByteArray.empty) := by simp [Hid, wordOf, hk]
    go_enter Tryd.func12, Tryd.ntmps12
    go_wp2_with (go_at_call 26; refine (isKind_any _ _).mono ?_; rintro e w ⟨rfl, rfl⟩)
    go_ret
    exact ⟨ret_str HV.out.symm, rfl⟩
  · have hn : 0 ≤ n ∧ n < 10 := by simpa [kndB] using hk
    obtain ⟨k, rfl⟩ : ∃ k : Nat, n = k := ⟨n.toNat, by omega⟩
    have hk10 : k < 10 := by omega
    have HV : Hid (wordOf k = wrd k) := by simp [Hid, wordOf, hk]
    have c0 := hV.word k hk10
    have HK := hid hk
    clear hV hk hn
    go_enter Tryd.func12, Tryd.ntmps12
    go_wp2_with (go_at_call 26; refine (isKind_any _ _).mono ?_; rintro e w ⟨rfl, rfl⟩; rw [HK.out])
    go_ret
    exact ⟨ret_str HV.out.symm, rfl⟩
def sumP (l : List (Int × Int)) : Int := (l.map (·.1)).sum
theorem sumP_succ (l : List (Int × Int)) (i : Nat) (h : i < l.length) : sumP (l.take (i + 1)) = sumP (l.take i) + (l.getD i (0, 0)).1 := by
  unfold sumP
  rw [List.take_succ_eq_append_getElem h, List.map_append, List.sum_append]; simp [h]
theorem prt_small : ∀ k, k < 10 → (prt k).length ≤ 10 ∧ ∀ i, i ≤ 10 → 0 ≤ sumP ((prt k).take i) ∧ sumP ((prt k).take i) ≤ 100 := by decide
theorem prt_size : ∀ k, k < 10 → ∀ i, i < (prt k).length → 0 ≤ ((prt k).getD i (0, 0)).1 ∧ ((prt k).getD i (0, 0)).1 ≤ 16 := by decide
set_option maxHeartbeats 400000 in
theorem partsSize_any {B : Nat} (k : Nat) (hk : k < 10) (w : World) (hV : Vars B w) : Calls Tryd.prog 68 #[.int .i64 k] w fun e w' => e = .returned (.int .i64 (sumP (prt k))) ∧ Below w.heap.size w w' := by
  obtain ⟨a, n, cap, c1, hP⟩ := hV.parts k hk
  have hsm := (prt_small k hk).1
  have HS := hid (prt_small k hk).2
  have HZ := hid (prt_size k hk)
  have hn10 : n ≤ 10 := by rw [← hP.len]; exact hsm
  have HV := hid hV
  have HP := hid hP
  generalize prt k = l at *
  clear hV hP hsm
  go_enter Tryd.func68, Tryd.ntmps68
  go_wp2
  go_loopw [3, 11] (fun v i wr => ∃ j : Nat, j ≤ n ∧ i = .int .i64 j ∧ v = .int .i64 (sumP (l.take j)) ∧ Hid (Below w.heap.size w wr)) (fun _ i _ => n - (intOf i).toNat)
  case atStart => exact ⟨0, Nat.zero_le _, rfl, rfl, Below.refl _ _⟩
  case round =>
    obtain ⟨j, hj, rfl, rfl, hb⟩ := hrel
    by_cases hlt : j < n
    · obtain ⟨b, off, rfl, hbB, hc0, hc1⟩ := (HP.out.same (fun b o hlt => hb.out.cell (p := ⟨b, o, none⟩) (Nat.lt_of_lt_of_le hlt HV.out.le))).cell j hlt
      have hs := HS.out j (by omega)
      have hs2 := HS.out (j + 1) (by omega)
      have HA := hid (sumP_succ l j (by rw [HP.out.len]; exact hlt))
      have hz := HZ.out j (by rw [HP.out.len]; exact hlt)
      rw [HA.out] at hs2
      generalize (l.getD j (0, 0)).1 = x at *
      generalize (l.getD j (0, 0)).2 = y at *
      generalize sumP (l.take j) = s at *
      go_wp2
      go_roundw
      case rel => exact ⟨j + 1, by omega, by go_num, by rw [HA.out], balloc hb.out _⟩
      case measure => simp [intOf]; omega
    · obtain rfl : j = n := by omega
      go_wp2
      go_ret
      exact ⟨ret_int (by rw [List.take_of_length_le (by rw [HP.out.len]; omega)]), hb.out⟩
end Go.Proofs.YtbgogeojdibmkaaDoor
