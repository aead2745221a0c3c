/- What the small functions of package pack answer: contracts, one a function. · What number and appendNumber answer: contracts. · What pack.Put answers: contracts. · What the methods of pack's cursor answer: contracts. · What reading with pack's cursor answers: contracts. · What the exported methods of pack's cursor answer: contracts. · What Within, Peek and Many of pack's cursor answer: contracts. · What Many of pack's cursor answers: contracts. · Slices that came in, appends from wherever, and what pack.Put answers in one sentence. -/
import Derived.Test.YtbklpelikaapoaaGreatDoorRows
import Derived.WalkKit
import Derived.ProofKit
import Derived.OpenShut
import Derived.Handy
import Derived.Deep.QuietTactic
import Derived.BigQuiet
import Derived.WalkSpells
import Derived.Deep.AppendLies
import Derived.Deep.RegionWith
import Derived.Laws.AppendOwnNone
namespace Go.Proofs.YtbklpelikaapoaaGreatDoor
open Go.ChangeShapes Go.WideShapes Go.ChangeAt Go.RowKit
set_option linter.unusedVariables false
set_option linter.unusedSimpArgs false

theorem ret_bool {a b : Bool} (h : a = b) : Ending.returned (.bool a) = .returned (.bool b) := by rw [h]
theorem ret_int {k : IntKind} {a b : Int} (h : a = b) : Ending.returned (.int k a) = .returned (.int k b) := by rw [h]

/-- Is it a size? -/
def sizeB (n : Int) : Bool := decide (n = 1 ∨ n = 2 ∨ n = 4)
theorem sizeB_cases {n : Int} (h : sizeB n = true) : n = 1 ∨ n = 2 ∨ n = 4 := by simpa [sizeB] using h
theorem sizeB_no {n : Int} (h : sizeB n = false) : n ≠ 1 ∧ n ≠ 2 ∧ n ≠ 4 := by simp [sizeB] at h; omega

theorem isSize_any (n : Int) (w : World) : Calls Tryz.prog 115 #[.int .i64 n] w fun e w' => e = .returned (.bool (sizeB n)) ∧ w' = w := by
  cases h : sizeB n
  · have h' := sizeB_no h
    have h1 : (n == 1) = false := by simp; omega
    have h2 : (n == 2) = false := by simp; omega
    have h4 : (n == 4) = false := by simp; omega
    clear h h'
    go_enter Tryz.func115, Tryz.ntmps115
    go_wp2
    go_ret
    exact ⟨rfl, rfl⟩
  · rcases sizeB_cases h with rfl | rfl | rfl
    all_goals
      clear h
      go_enter Tryz.func115, Tryz.ntmps115
      go_wp2
      go_ret
      exact ⟨rfl, rfl⟩

/-- Up to where the numbers of a size go. -/
def top (size : Int) : Int := if size = 1 then 256 else if size = 2 then 65536 else 4294967296
def okB (size n : Int) : Bool := decide (0 ≤ n ∧ n < top size)

/-- Numbers in a slice: it is nil or leads to a row of cells of its length at least. -/
def Lies (kd : IntKind) (w : World) (a : Option Addr) (len cap : Nat) (l : List Int) : Prop :=
  l.length = len ∧ len ≤ cap ∧ cap ≤ maxLen ∧ (a = none → cap = 0) ∧ ∀ k, k < len → ∃ b off, a = some ⟨b, off, none⟩ ∧ w.cell? ⟨b, off + k, none⟩ = some (.int kd (l.getD k 0))

theorem all_take_succ (zs : List Int) (k : Nat) (h : k < zs.length) (p : Int → Bool) : (zs.take (k + 1)).all p = ((zs.take k).all p && p (zs.getD k 0)) := by
  rw [List.take_succ_eq_append_getElem h, List.all_append]; simp [h]

theorem all_false (zs : List Int) (k : Nat) (h : k < zs.length) (p : Int → Bool) (hp : p (zs.getD k 0) = false) : zs.all p = false := by
  rw [List.all_eq_false]; exact ⟨zs[k], List.getElem_mem h, by simpa [h] using hp⟩

set_option maxHeartbeats 400000 in
theorem fits_size1 (a : Option Addr) (len cap : Nat) (l : List Int) (w : World) (h : Lies .i64 w a len cap l) :
    Calls Tryz.prog 85 #[.int .i64 1, .slice a len cap] w fun e w' => e = .returned (.bool (l.all (okB 1))) ∧ w' = w := by
  obtain ⟨hl, hlc, hcm, _, hc⟩ := h
  unfold maxLen at hcm
  have HC : Hid _ := hc
  have HL : Hid (l.length = len) := hl
  have hp : ∀ n, okB 1 n = decide (0 ≤ n ∧ n < 256) := fun _ => rfl
  generalize okB 1 = P at hp ⊢
  have HP : Hid _ := hp
  clear hc hl hp
  go_enter Tryz.func85, Tryz.ntmps85
  go_wp2_with (go_at_call 115; refine (isSize_any _ _).mono ?_; rintro e w ⟨rfl, rfl⟩; rw [show sizeB _ = true from rfl])
  go_loop [12] (fun i => ∃ k : Nat, k ≤ len ∧ i = .int .i64 k ∧ Hid ((l.take k).all P = true)) (fun i => len - (intOf i).toNat)
  case atStart => exact ⟨0, Nat.zero_le _, rfl, rfl⟩
  case round =>
    obtain ⟨k, hk, rfl, hall⟩ := hrel
    by_cases hlt : k < len
    · obtain ⟨b, off, rfl, hcell⟩ := HC.out k hlt
      have hs := all_take_succ l k (by rw [HL.out]; exact hlt) P
      have hf : P (l.getD k 0) = false → l.all P = false := all_false l k (by rw [HL.out]; exact hlt) P
      generalize hz : l.getD k 0 = z at hcell hs hf
      have HS : Hid ((l.take (k + 1)).all P = ((l.take k).all P && P z)) := hs
      have HF : Hid (P z = false → l.all P = false) := hf
      have HZ : Hid (P z = _) := HP.out z
      clear hz hs hf HP
      by_cases h0 : z < 0
      · go_wp2
        go_ret
        exact ⟨ret_bool (HF.out (by rw [HZ.out]; simp; omega)).symm, rfl⟩
      · by_cases h1 : z < 256
        · have hq : (z / 256 != 0) = false := by simp; omega
          go_wp2
          go_round
          case rel => exact ⟨k + 1, by omega, by go_num, by rw [Hid, HS.out, hall.out, HZ.out]; simp; omega⟩
          case measure => simp [intOf]; omega
        · have hq : (z / 256 != 0) = true := by rw [bne_iff_ne]; omega
          go_wp2
          go_ret
          exact ⟨ret_bool (HF.out (by rw [HZ.out]; simp; omega)).symm, rfl⟩
    · go_wp2
      go_ret
      exact ⟨ret_bool (by have := hall.out; rwa [List.take_of_length_le (by rw [HL.out]; omega), eq_comm] at this), rfl⟩

set_option maxHeartbeats 400000 in
theorem fits_size2 (a : Option Addr) (len cap : Nat) (l : List Int) (w : World) (h : Lies .i64 w a len cap l) :
    Calls Tryz.prog 85 #[.int .i64 2, .slice a len cap] w fun e w' => e = .returned (.bool (l.all (okB 2))) ∧ w' = w := by
  obtain ⟨hl, hlc, hcm, _, hc⟩ := h
  unfold maxLen at hcm
  have HC : Hid _ := hc
  have HL : Hid (l.length = len) := hl
  have hp : ∀ n, okB 2 n = decide (0 ≤ n ∧ n < 65536) := fun _ => rfl
  generalize okB 2 = P at hp ⊢
  have HP : Hid _ := hp
  clear hc hl hp
  go_enter Tryz.func85, Tryz.ntmps85
  go_wp2_with (go_at_call 115; refine (isSize_any _ _).mono ?_; rintro e w ⟨rfl, rfl⟩; rw [show sizeB _ = true from rfl])
  go_loop [12] (fun i => ∃ k : Nat, k ≤ len ∧ i = .int .i64 k ∧ Hid ((l.take k).all P = true)) (fun i => len - (intOf i).toNat)
  case atStart => exact ⟨0, Nat.zero_le _, rfl, rfl⟩
  case round =>
    obtain ⟨k, hk, rfl, hall⟩ := hrel
    by_cases hlt : k < len
    · obtain ⟨b, off, rfl, hcell⟩ := HC.out k hlt
      have hs := all_take_succ l k (by rw [HL.out]; exact hlt) P
      have hf : P (l.getD k 0) = false → l.all P = false := all_false l k (by rw [HL.out]; exact hlt) P
      generalize hz : l.getD k 0 = z at hcell hs hf
      have HS : Hid ((l.take (k + 1)).all P = ((l.take k).all P && P z)) := hs
      have HF : Hid (P z = false → l.all P = false) := hf
      have HZ : Hid (P z = _) := HP.out z
      clear hz hs hf HP
      by_cases h0 : z < 0
      · go_wp2
        go_ret
        exact ⟨ret_bool (HF.out (by rw [HZ.out]; simp; omega)).symm, rfl⟩
      · by_cases h1 : z < 65536
        · have hq : (z / 65536 != 0) = false := by simp; omega
          go_wp2
          go_round
          case rel => exact ⟨k + 1, by omega, by go_num, by rw [Hid, HS.out, hall.out, HZ.out]; simp; omega⟩
          case measure => simp [intOf]; omega
        · have hq : (z / 65536 != 0) = true := by rw [bne_iff_ne]; omega
          go_wp2
          go_ret
          exact ⟨ret_bool (HF.out (by rw [HZ.out]; simp; omega)).symm, rfl⟩
    · go_wp2
      go_ret
      exact ⟨ret_bool (by have := hall.out; rwa [List.take_of_length_le (by rw [HL.out]; omega), eq_comm] at this), rfl⟩

set_option maxHeartbeats 400000 in
theorem fits_size4 (a : Option Addr) (len cap : Nat) (l : List Int) (w : World) (h : Lies .i64 w a len cap l) :
    Calls Tryz.prog 85 #[.int .i64 4, .slice a len cap] w fun e w' => e = .returned (.bool (l.all (okB 4))) ∧ w' = w := by
  obtain ⟨hl, hlc, hcm, _, hc⟩ := h
  unfold maxLen at hcm
  have HC : Hid _ := hc
  have HL : Hid (l.length = len) := hl
  have hp : ∀ n, okB 4 n = decide (0 ≤ n ∧ n < 4294967296) := fun _ => rfl
  generalize okB 4 = P at hp ⊢
  have HP : Hid _ := hp
  clear hc hl hp
  go_enter Tryz.func85, Tryz.ntmps85
  go_wp2_with (go_at_call 115; refine (isSize_any _ _).mono ?_; rintro e w ⟨rfl, rfl⟩; rw [show sizeB _ = true from rfl])
  go_loop [12] (fun i => ∃ k : Nat, k ≤ len ∧ i = .int .i64 k ∧ Hid ((l.take k).all P = true)) (fun i => len - (intOf i).toNat)
  case atStart => exact ⟨0, Nat.zero_le _, rfl, rfl⟩
  case round =>
    obtain ⟨k, hk, rfl, hall⟩ := hrel
    by_cases hlt : k < len
    · obtain ⟨b, off, rfl, hcell⟩ := HC.out k hlt
      have hs := all_take_succ l k (by rw [HL.out]; exact hlt) P
      have hf : P (l.getD k 0) = false → l.all P = false := all_false l k (by rw [HL.out]; exact hlt) P
      generalize hz : l.getD k 0 = z at hcell hs hf
      have HS : Hid ((l.take (k + 1)).all P = ((l.take k).all P && P z)) := hs
      have HF : Hid (P z = false → l.all P = false) := hf
      have HZ : Hid (P z = _) := HP.out z
      clear hz hs hf HP
      by_cases h0 : z < 0
      · go_wp2
        go_ret
        exact ⟨ret_bool (HF.out (by rw [HZ.out]; simp; omega)).symm, rfl⟩
      · by_cases h1 : z < 4294967296
        · have hq : (z / 4294967296 != 0) = false := by simp; omega
          go_wp2
          go_round
          case rel => exact ⟨k + 1, by omega, by go_num, by rw [Hid, HS.out, hall.out, HZ.out]; simp; omega⟩
          case measure => simp [intOf]; omega
        · have hq : (z / 4294967296 != 0) = true := by rw [bne_iff_ne]; omega
          go_wp2
          go_ret
          exact ⟨ret_bool (HF.out (by rw [HZ.out]; simp; omega)).symm, rfl⟩
    · go_wp2
      go_ret
      exact ⟨ret_bool (by have := hall.out; rwa [List.take_of_length_le (by rw [HL.out]; omega), eq_comm] at this), rfl⟩

theorem fits_size (size : Int) (a : Option Addr) (len cap : Nat) (l : List Int) (w : World) (hz : size = 1 ∨ size = 2 ∨ size = 4) (h : Lies .i64 w a len cap l) :
    Calls Tryz.prog 85 #[.int .i64 size, .slice a len cap] w fun e w' => e = .returned (.bool (l.all (okB size))) ∧ w' = w := by
  rcases hz with rfl | rfl | rfl
  · exact fits_size1 a len cap l w h
  · exact fits_size2 a len cap l w h
  · exact fits_size4 a len cap l w h

def fitsB (size : Int) (l : List Int) : Bool := sizeB size && l.all (okB size)

theorem fits_any (size : Int) (a : Option Addr) (len cap : Nat) (l : List Int) (w : World) (h : Lies .i64 w a len cap l) :
    Calls Tryz.prog 85 #[.int .i64 size, .slice a len cap] w fun e w' => e = .returned (.bool (fitsB size l)) ∧ w' = w := by
  cases hz : sizeB size
  · have HF : Hid (fitsB size l = false) := by simp [Hid, fitsB, hz]
    clear h
    go_enter Tryz.func85, Tryz.ntmps85
    go_wp2_with (go_at_call 115; refine (isSize_any _ _).mono ?_; rintro e w ⟨rfl, rfl⟩)
    go_ret
    exact ⟨ret_bool HF.out.symm, rfl⟩
  · refine (fits_size size a len cap l w (sizeB_cases hz) h).mono ?_
    rintro e w' ⟨rfl, rfl⟩
    exact ⟨ret_bool (by simp [fitsB, hz]), rfl⟩

theorem same_no (a b : Option Addr) (la ca lb cb : Nat) (w : World) (h : la ≠ lb) :
    Calls Tryz.prog 12 #[.slice a la ca, .slice b lb cb] w fun e w' => e = .returned (.bool false) ∧ w' = w := by
  have hne : ((la : Int) != (lb : Int)) = true := by rw [bne_iff_ne]; omega
  clear h
  go_enter Tryz.func12, Tryz.ntmps12
  go_wp2
  go_ret
  exact ⟨rfl, rfl⟩

theorem take_differ (l m : List Int) (k : Nat) (h : k < l.length) (hm : k < m.length) (hne : l.getD k 0 ≠ m.getD k 0) : (l == m) = false := by
  rw [beq_eq_false_iff_ne]
  intro he
  subst he
  exact hne rfl

theorem take_same (l m : List Int) (k : Nat) (h : k < l.length) (hm : k < m.length) (hs : l.take k = m.take k) (he : l.getD k 0 = m.getD k 0) : l.take (k + 1) = m.take (k + 1) := by
  rw [List.take_succ_eq_append_getElem h, List.take_succ_eq_append_getElem hm, hs]
  simp [h, hm] at he
  rw [he]

set_option maxHeartbeats 400000 in
theorem same_len (a b : Option Addr) (n ca cb : Nat) (l m : List Int) (w : World) (ha : Lies .u8 w a n ca l) (hb : Lies .u8 w b n cb m) :
    Calls Tryz.prog 12 #[.slice a n ca, .slice b n cb] w fun e w' => e = .returned (.bool (l == m)) ∧ ∃ q, w' = w.drewN q := by
  obtain ⟨hl, hlc, hcm, _, hc⟩ := ha
  obtain ⟨hl2, hlc2, hcm2, _, hc2⟩ := hb
  unfold maxLen at hcm hcm2
  have HC : Hid _ := hc
  have HL : Hid (l.length = n) := hl
  have HC2 : Hid _ := hc2
  have HL2 : Hid (m.length = n) := hl2
  clear hc hl hc2 hl2
  go_enter Tryz.func12, Tryz.ntmps12
  go_wp2
  go_loopw [5] (fun i wr => ∃ k : Nat, k ≤ n ∧ i = .int .i64 k ∧ Hid (l.take k = m.take k) ∧ ∃ q, wr = w.drewN q) (fun i _ => n - (intOf i).toNat)
  case atStart => exact ⟨0, Nat.zero_le _, rfl, rfl, 0, rfl⟩
  case round =>
    obtain ⟨k, hk, rfl, hall, q, rfl⟩ := hrel
    by_cases hlt : k < n
    · obtain ⟨b1, off1, rfl, hcell1⟩ := HC.out k hlt
      obtain ⟨b2, off2, rfl, hcell2⟩ := HC2.out k hlt
      have HD : Hid (l.getD k 0 ≠ m.getD k 0 → (l == m) = false) := take_differ l m k (by rw [HL.out]; exact hlt) (by rw [HL2.out]; exact hlt)
      have HS : Hid (l.getD k 0 = m.getD k 0 → l.take (k + 1) = m.take (k + 1)) := take_same l m k (by rw [HL.out]; exact hlt) (by rw [HL2.out]; exact hlt) hall.out
      have hlt' : (k : Int) < (n : Int) := by omega
      generalize l.getD k 0 = x at *
      generalize m.getD k 0 = y at *
      go_wp2
      go_quiet (fail)
      by_cases hxy : x = y
      · have hb : (x != y) = false := by simp [hxy]
        have HX : Hid (x = y) := hxy
        clear hxy
        go_wp2
        go_roundw
        case rel => exact ⟨k + 1, by omega, by go_num, HS.out HX.out, q + nq, rfl⟩
        case measure => simp [intOf]; omega
      · have hb : (x != y) = true := by rw [bne_iff_ne]; exact hxy
        go_wp2
        go_ret
        exact ⟨ret_bool (HD.out hxy).symm, q + nq, World.drewN_drewN ..⟩
    · obtain rfl : k = n := by omega
      go_wp2
      go_ret
      refine ⟨ret_bool ?_, q, rfl⟩
      have h1 : l.take k = l := List.take_of_length_le (by rw [HL.out]; exact Nat.le_refl _)
      have h2 : m.take k = m := List.take_of_length_le (by rw [HL2.out]; exact Nat.le_refl _)
      have := hall.out
      rw [h1, h2] at this
      simp [this]
end Go.Proofs.YtbklpelikaapoaaGreatDoor

namespace Go.Proofs.YtbklpelikaapoaaGreatDoor
open Go.ChangeShapes Go.WideShapes Go.ChangeAt Go.RowKit
set_option linter.unusedVariables false
set_option linter.unusedSimpArgs false

/-- The number that bytes are, the highest one first. -/
def numOf (l : List Int) : Int := l.foldl (fun n x => 256 * n + x) 0
def Oct (l : List Int) : Prop := ∀ x ∈ l, 0 ≤ x ∧ x < 256

theorem numOf_snoc (l : List Int) (k : Nat) (h : k < l.length) : numOf (l.take (k + 1)) = 256 * numOf (l.take k) + l.getD k 0 := by
  rw [List.take_succ_eq_append_getElem h, numOf, List.foldl_append]; simp [numOf, h]

theorem Oct.at {l : List Int} (h : Oct l) (k : Nat) (hk : k < l.length) : 0 ≤ l.getD k 0 ∧ l.getD k 0 < 256 := by
  have := h l[k] (List.getElem_mem hk)
  simpa [hk] using this

theorem numOf_bd (l : List Int) (h : Oct l) : ∀ k, k ≤ l.length → 0 ≤ numOf (l.take k) ∧ numOf (l.take k) < 256 ^ k
  | 0, _ => by simp [numOf]
  | k + 1, hk => by
    have ih := numOf_bd l h k (by omega)
    have hx := h.at k (by omega)
    rw [numOf_snoc l k (by omega), Int.pow_succ]
    omega

theorem pow_le3 (k : Nat) (h : k ≤ 3) : (256 : Int) ^ k ≤ 16777216 := by
  match k, h with
  | 0, _ => decide
  | 1, _ => decide
  | 2, _ => decide
  | 3, _ => decide

theorem wraps_i64 (n : Int) (h₀ : 0 ≤ n) (h₁ : n < 2 ^ 62) : IntKind.i64.wrap n = n := by rw [IntKind.wrap_i64]; omega
theorem or8 (n x : Int) (h0 : 0 ≤ n) (h : n < 16777216) (hx0 : 0 ≤ x) (hx : x < 256) : bits .or .i64 (n * 256) x = 256 * n + x := by
  rw [bits_join .i64 62 (by decide) wraps_i64 8 (n * 256) x (by omega) (by omega) (by omega) hx0 hx (by omega)]; omega

set_option maxHeartbeats 400000 in
theorem number_any (a : Option Addr) (len cap : Nat) (l : List Int) (w : World) (h : Lies .u8 w a len cap l) (h4 : len ≤ 4) (ho : Oct l) :
    Calls Tryz.prog 131 #[.slice a len cap] w fun e w' => e = .returned (.int .i64 (numOf l)) ∧ w' = w := by
  obtain ⟨hl, hlc, hcm, _, hc⟩ := h
  unfold maxLen at hcm
  have HC : Hid _ := hc
  have HL : Hid (l.length = len) := hl
  have HO : Hid (Oct l) := ho
  clear hc hl ho
  go_enter Tryz.func131, Tryz.ntmps131
  go_wp2
  go_loop [3, 8] (fun v i => ∃ k : Nat, k ≤ len ∧ i = .int .i64 k ∧ v = .int .i64 (numOf (l.take k))) (fun _ i => len - (intOf i).toNat)
  case atStart => exact ⟨0, Nat.zero_le _, rfl, rfl⟩
  case round =>
    obtain ⟨k, hk, rfl, rfl⟩ := hrel
    by_cases hlt : k < len
    · obtain ⟨b, off, rfl, hcell⟩ := HC.out k hlt
      have hx := HO.out.at k (by rw [HL.out]; exact hlt)
      have hn := numOf_bd l HO.out k (by rw [HL.out]; omega)
      have hp := pow_le3 k (by omega)
      have HS : Hid _ := numOf_snoc l k (by rw [HL.out]; exact hlt)
      generalize (256 : Int) ^ k = P at *
      generalize numOf (l.take k) = n at *
      generalize l.getD k 0 = x at *
      have hn' : n < 16777216 := by omega
      clear hp
      go_wp2
      go_round
      case rel => exact ⟨k + 1, by omega, by go_num, by rw [HS.out, or8 n x hn.1 hn' hx.1 hx.2]⟩
      case measure => simp [intOf]; omega
    · obtain rfl : k = len := by omega
      go_wp2
      go_ret
      exact ⟨ret_int (by rw [List.take_of_length_le (by rw [HL.out]; omega)]), rfl⟩

/-- A number's bytes, the highest first. -/
def digs (size n : Int) : List Int := (if size = 4 then [n / 16777216 % 256, n / 65536 % 256] else []) ++ ((if size = 1 then [] else [n / 256 % 256]) ++ [n % 256])
def u8s (l : List Int) : List Value := l.map (Value.int .u8)

theorem info5 : (Tryz.prog.info? 5).map (fun i => (i.zero, i.size, i.bytes)) = some (some (.int .u8 0), 1, 1) := by kernel_rfl
theorem info3 : (Tryz.prog.info? 3).map (fun i => (i.zero, i.size, i.bytes)) = some (some (.int .i64 0), 1, 8) := by kernel_rfl

/-- An append of what was just laid down, byte by byte, onto a row of the call's own. -/
theorem wpList_push {ops : Array Oper} {rest : List Oper} {o : Oper} {a : Act} {Q : Exit → Act → World → Prop} {w : World} {cs : Array Value} {base m : Nat} {v : Value} {xs : List Value} (hgd : o.guard = none) (s x : Operand)
    (ho : o.op = .call { callee := .builtin .append, args := #[s, x], argTypes := #[30, 30] }) (hs : a.eval s = v) (hx : a.eval x = .slice (some ⟨w.heap.size, 0, none⟩) cs.size cs.size)
    (hown : w.ownsRow base 5 1 v m xs) (h1 : ∀ u ∈ cs.toList, u.oneCell' = true) (hb : base ≤ w.heap.size) (hm : m + cs.size ≤ 200000)
    (h : ∀ v' w', w'.ownsRow base 5 1 v' (m + cs.size) (xs ++ cs.toList) → Below base w w' → wpList Tryz.prog ops Q rest (a.put o.dst v') w') :
    wpList Tryz.prog ops Q (o :: rest) a (w.alloc (.cells cs 5)) := by
  obtain ⟨i0, hi, hz0, hz1, hz2⟩ := info_parts info5
  refine wpList_append_own _ hgd s x 30 ho base 5 i0 (.int .u8 0) 1 1 Tryz.underlying30 hi hz0 hz1 hz2 rfl (by decide) v m xs hs (hown.alloc _) ⟨w.heap.size, 0, none⟩ cs.size cs.size cs.toList hx (by simp) ?_ h1 (by unfold maxLen; omega) (by omega) (by simp; omega) ?_
  · intro j u hj
    exact World.news_of_block (heap_alloc_new w _) j u hj
  · intro v' w' h2 h3 _
    refine h v' w' h2 (Below.grown ((Below.refl _ _).alloc hb _) h3 (by simp; omega) ?_)
    intro k hk
    exact (hown.lt k hk).1

theorem appendNumber1 (n : Int) (v : Value) (m base : Nat) (xs : List Value) (w : World) (hb : base ≤ w.heap.size) (hm : m ≤ 100000) (hown : w.ownsRow base 5 1 v m xs) (h0 : 0 ≤ n) (hn : n < 256) :
    Calls Tryz.prog 88 #[v, .int .i64 1, .int .i64 n] w fun e w' => ∃ v', e = .returned v' ∧ w'.ownsRow base 5 1 v' (m + 1) (xs ++ u8s (digs 1 n)) ∧ Below base w w' := by
  have HD : Hid (u8s (digs 1 n) = [.int .u8 n]) := by simp [Hid, u8s, digs]; omega
  go_enter Tryz.func88, Tryz.ntmps88
  go_wp2_with (at_builtin; refine wpList_push rfl _ _ rfl rfl rfl hown ?_ hb ?_ ?_)
  case refine_1 => first | rfl | exact ⟨rfl, rfl⟩
  case refine_2 => simp; omega
  intro v1 w1 hown1 hb1
  go_wp2
  go_ret
  exact ⟨_, rfl, by rw [HD.out]; simpa using hown1, hb1⟩

set_option maxHeartbeats 400000 in
theorem appendNumber2 (n : Int) (v : Value) (m base : Nat) (xs : List Value) (w : World) (hb : base ≤ w.heap.size) (hm : m ≤ 100000) (hown : w.ownsRow base 5 1 v m xs) (h0 : 0 ≤ n) (hn : n < 65536) :
    Calls Tryz.prog 88 #[v, .int .i64 2, .int .i64 n] w fun e w' => ∃ v', e = .returned v' ∧ w'.ownsRow base 5 1 v' (m + 2) (xs ++ u8s (digs 2 n)) ∧ Below base w w' := by
  have HD : Hid (u8s (digs 2 n) = [.int .u8 (n / 256), .int .u8 (n % 256)]) := by simp [Hid, u8s, digs]; omega
  go_enter Tryz.func88, Tryz.ntmps88
  go_wp2_with (at_builtin; refine wpList_push rfl _ _ rfl rfl rfl hown ?_ hb ?_ ?_)
  case refine_1 => first | rfl | exact ⟨rfl, rfl⟩
  case refine_2 => simp; omega
  intro v1 w1 hown1 hb1
  go_wp2_with (at_builtin; refine wpList_push rfl _ _ rfl rfl rfl hown1 ?_ ?_ ?_ ?_)
  case refine_1 => first | rfl | exact ⟨rfl, rfl⟩
  case refine_2 => have := hb1.size; omega
  case refine_3 => simp; omega
  intro v2 w2 hown2 hb2
  go_wp2
  go_ret
  refine ⟨_, rfl, ?_, hb1.trans hb2⟩
  rw [HD.out]
  simpa using hown2
set_option maxHeartbeats 400000 in
theorem appendNumber4 (n : Int) (v : Value) (m base : Nat) (xs : List Value) (w : World) (hb : base ≤ w.heap.size) (hm : m ≤ 100000) (hown : w.ownsRow base 5 1 v m xs) (h0 : 0 ≤ n) (hn : n < 4294967296) :
    Calls Tryz.prog 88 #[v, .int .i64 4, .int .i64 n] w fun e w' => ∃ v', e = .returned v' ∧ w'.ownsRow base 5 1 v' (m + 4) (xs ++ u8s (digs 4 n)) ∧ Below base w w' := by
  have HD : Hid (u8s (digs 4 n) = [.int .u8 (n / 16777216), .int .u8 (n / 65536 % 256), .int .u8 (n / 256 % 256), .int .u8 (n % 256)]) := by simp [Hid, u8s, digs]; omega
  go_enter Tryz.func88, Tryz.ntmps88
  go_wp2_with (at_builtin; refine wpList_push rfl _ _ rfl rfl rfl hown ?_ hb ?_ ?_)
  case refine_1 => first | rfl | exact ⟨rfl, rfl⟩
  case refine_2 => simp; omega
  intro v1 w1 hown1 hb1
  go_wp2_with (at_builtin; refine wpList_push rfl _ _ rfl rfl rfl hown1 ?_ ?_ ?_ ?_)
  case refine_1 => first | rfl | exact ⟨rfl, rfl⟩
  case refine_2 => have := hb1.size; omega
  case refine_3 => simp; omega
  intro v2 w2 hown2 hb2
  go_wp2_with (at_builtin; refine wpList_push rfl _ _ rfl rfl rfl hown2 ?_ ?_ ?_ ?_)
  case refine_1 => first | rfl | exact ⟨rfl, rfl⟩
  case refine_2 => have := hb1.size; have := hb2.size; omega
  case refine_3 => simp; omega
  intro v3 w3 hown3 hb3
  go_wp2
  go_ret
  refine ⟨_, rfl, ?_, hb1.trans (hb2.trans hb3)⟩
  rw [HD.out]
  simpa using hown3

/-- Numbers of a size fit, and 'appendNumber' writes their bytes. -/
theorem appendNumber_any (size n : Int) (v : Value) (m base : Nat) (xs : List Value) (w : World) (hz : sizeB size = true) (hb : base ≤ w.heap.size) (hm : m ≤ 100000) (hown : w.ownsRow base 5 1 v m xs) (hn : okB size n = true) :
    Calls Tryz.prog 88 #[v, .int .i64 size, .int .i64 n] w fun e w' => ∃ v', e = .returned v' ∧ w'.ownsRow base 5 1 v' (m + (digs size n).length) (xs ++ u8s (digs size n)) ∧ Below base w w' := by
  rcases sizeB_cases hz with rfl | rfl | rfl
  all_goals
    simp [okB, top] at hn
  · exact appendNumber1 n v m base xs w hb hm hown hn.1 hn.2
  · exact appendNumber2 n v m base xs w hb hm hown hn.1 hn.2
  · exact appendNumber4 n v m base xs w hb hm hown hn.1 hn.2
end Go.Proofs.YtbklpelikaapoaaGreatDoor

namespace Go.Proofs.YtbklpelikaapoaaGreatDoor
open Go.ChangeShapes Go.WideShapes Go.ChangeAt Go.RowKit
set_option linter.unusedVariables false
set_option linter.unusedSimpArgs false

/-- All numbers' bytes, one behind the other. -/
def bytesOf (size : Int) (l : List Int) : List Int := l.flatMap (digs size)

theorem digs_length (size n : Int) (h : sizeB size = true) : (digs size n).length = size.toNat := by
  rcases sizeB_cases h with rfl | rfl | rfl <;> rfl
theorem digs_oct (size n : Int) : Oct (digs size n) := by
  intro x hx
  unfold digs at hx
  split at hx <;> split at hx <;> simp at hx <;> (repeat' (first | (rcases hx with rfl | hx) | subst hx)) <;> omega
theorem bytesOf_snoc (size : Int) (l : List Int) (k : Nat) (h : k < l.length) : bytesOf size (l.take (k + 1)) = bytesOf size (l.take k) ++ digs size (l.getD k 0) := by
  rw [bytesOf, bytesOf, List.take_succ_eq_append_getElem h, List.flatMap_append]; congr 1; simp [h]
theorem bytesOf_length (size : Int) (l : List Int) (h : sizeB size = true) : (bytesOf size l).length = size.toNat * l.length := by
  induction l with
  | nil => simp [bytesOf]
  | cons x l ih => simp only [bytesOf, List.flatMap_cons, List.length_append] at ih ⊢; rw [ih, digs_length size x h]; simp [Nat.mul_add, Nat.add_comm]
theorem bytesOf_oct (size : Int) (l : List Int) : Oct (bytesOf size l) := by
  intro x hx
  simp [bytesOf, List.mem_flatMap] at hx
  obtain ⟨y, _, hx⟩ := hx
  exact digs_oct size y x hx
theorem Oct.app {l m : List Int} (h : Oct l) (k : Oct m) : Oct (l ++ m) := by
  intro x hx; rcases List.mem_append.1 hx with h' | h'
  · exact h x h'
  · exact k x h'

theorem Lies.isNil {kd : IntKind} {w : World} {a : Option Addr} {len cap : Nat} {l : List Int} (h : Lies kd w a len cap l) : a = none → len = 0 ∧ cap = 0 := fun ha => by
  have := h.2.2.2.1 ha; have := h.2.1; omega
theorem Lies.cells {kd : IntKind} {w : World} {a : Option Addr} {len cap : Nat} {l : List Int} (h : Lies kd w a len cap l) : ∀ ad, a = some ad → ∀ j u, (l.map (Value.int kd))[j]? = some u → w.cell? (ad.add j) = some u := by
  intro ad ha j u hj
  have hj' : j < l.length := by have := (List.getElem?_eq_some_iff.1 hj).1; simpa using this
  obtain ⟨b, off, he, hc⟩ := h.2.2.2.2 j (by rw [← h.1]; exact hj')
  rw [ha] at he
  obtain rfl := Option.some.inj he
  rw [Addr.add_lit, hc]
  simp [List.getElem?_eq_getElem hj'] at hj
  simp [hj', hj]
theorem ints_oneCell8 (l : List Int) (kd : IntKind) : ∀ u ∈ l.map (Value.int kd), u.oneCell' = true := by
  intro u hu; simp at hu; obtain ⟨x, _, rfl⟩ := hu; rfl
/-- What was there stays as it was. -/
theorem Lies.below {kd : IntKind} {w w' : World} {a : Option Addr} {len cap : Nat} {l : List Int} (h : Lies kd w a len cap l) (hb : Below w.heap.size w w') : Lies kd w' a len cap l := by
  refine ⟨h.1, h.2.1, h.2.2.1, h.2.2.2.1, fun k hk => ?_⟩
  obtain ⟨b, off, he, hc⟩ := h.2.2.2.2 k hk
  exact ⟨b, off, he, (hb.cell (p := ⟨b, off + k, none⟩) (World.block_lt_of_cell? w _ hc)).trans hc⟩

theorem put_no (ab al : Option Addr) (lb cb ll cl : Nat) (size : Int) (l : List Int) (w : World) (hl : Lies .i64 w al ll cl l) (hf : fitsB size l = false) :
    Calls Tryz.prog 53 #[.slice ab lb cb, .int .i64 size, .slice al ll cl] w fun e w' => e = .returned (.tuple #[.slice none 0 0, .int .i64 1]) ∧ w' = w := by
  have HL : Hid _ := hl
  clear hl
  go_enter Tryz.func53, Tryz.ntmps53
  go_wp2_with (go_at_call 85; refine (fits_any _ _ _ _ l _ HL.out).mono ?_; rintro e w ⟨rfl, rfl⟩)
  go_ret2
  exact ⟨rfl, rfl⟩

theorem put_long (ab al : Option Addr) (lb cb ll cl : Nat) (size : Int) (l : List Int) (w : World) (hl : Lies .i64 w al ll cl l) (hf : fitsB size l = true) (hlb : lb ≤ 1000000) (hll : ll ≤ 1000000) (hlong : 1280 < lb + size.toNat * ll) :
    Calls Tryz.prog 53 #[.slice ab lb cb, .int .i64 size, .slice al ll cl] w fun e w' => e = .returned (.tuple #[.slice none 0 0, .int .i64 2]) ∧ w' = w := by
  have HL : Hid _ := hl
  clear hl
  have hz : sizeB size = true := by simp [fitsB] at hf; exact hf.1
  rcases sizeB_cases hz with rfl | rfl | rfl
  all_goals
    simp at hlong
    have HF : Hid _ := hf
    have hlong' : (1280 : Int) < _ := Int.ofNat_lt.2 hlong
    clear hz
    go_enter Tryz.func53, Tryz.ntmps53
    go_wp2_with (go_at_call 85; refine (fits_any _ _ _ _ l _ HL.out).mono ?_; rintro e w ⟨rfl, rfl⟩; rw [HF.out])
    all_goals (try (exfalso; omega))
    go_ret2
    exact ⟨rfl, rfl⟩

theorem ownsRow_u8 {w : World} {base n m : Nat} {v : Value} {xs ys : List Value} (h : w.ownsRow base 5 1 v n xs) (hn : n = m) (hx : xs = ys) : w.ownsRow base 5 1 v m ys := by subst hn; subst hx; exact h

set_option maxHeartbeats 800000 in
theorem put_ok (ab al : Option Addr) (lb cb ll cl : Nat) (size : Int) (bs l : List Int) (w : World) (hb : Lies .u8 w ab lb cb bs) (hl : Lies .i64 w al ll cl l) (hf : fitsB size l = true) (hlb : lb + size.toNat * ll ≤ 1280) :
    Calls Tryz.prog 53 #[.slice ab lb cb, .int .i64 size, .slice al ll cl] w fun e w' => ∃ v, e = .returned (.tuple #[v, .int .i64 0]) ∧
      w'.ownsRow w.heap.size 5 1 v (bs ++ bytesOf size l).length (u8s (bs ++ bytesOf size l)) ∧ Below w.heap.size w w' := by
  have hz : sizeB size = true := by simp [fitsB] at hf; exact hf.1
  have hall : ∀ x ∈ l, okB size x = true := by simp [fitsB, hz] at hf; exact hf
  obtain ⟨i0, hi, hz0, hz1, hz2⟩ := info_parts info5
  have HB : Hid (Lies .u8 w ab lb cb bs) := hb
  have HL : Hid (Lies .i64 w al ll cl l) := hl
  have HA : Hid _ := hall
  have HZ : Hid _ := hz
  have hmul : (size * ll : Int) = ((size.toNat * ll : Nat) : Int) := by
    have : (size.toNat : Int) = size := by rcases sizeB_cases hz with rfl | rfl | rfl <;> rfl
    rw [Int.natCast_mul, this]
  have hs14 : 1 ≤ size ∧ size ≤ 4 := by rcases sizeB_cases hz with rfl | rfl | rfl <;> omega
  have hll : ll ≤ 1280 := by
    have : 1 * ll ≤ size.toNat * ll := Nat.mul_le_mul_right _ (by omega)
    omega
  clear hb hl hall hz
  have HQ : Hid (∀ k, k ≤ ll → (bs ++ bytesOf size (l.take k)).length ≤ lb + size.toNat * ll) := by
    intro k hk
    rw [List.length_append, bytesOf_length _ _ HZ.out, HB.out.1]
    have : size.toNat * (l.take k).length ≤ size.toNat * ll := Nat.mul_le_mul_left _ (by simp; omega)
    omega
  generalize size.toNat * ll = q at *
  have hdec : decide ((1280 : Int) < (lb : Int) + (q : Int)) = false := by simp; omega
  go_enter Tryz.func53, Tryz.ntmps53
  go_wp2_with (first | (go_at_call 85; refine (fits_any _ _ _ _ l _ HL.out).mono ?_; rintro e w ⟨rfl, rfl⟩; rw [hf]) | (at_make; refine wpList_make_own _ rfl _ _ 30 rfl w.heap.size 5 i0 (.int .u8 0) 1 Tryz.underlying30 hi hz0 hz1 .i64 .i64 _ (lb + q) rfl rfl (by omega) ?b1 ?b2 ?b3 ?_))
  case b1 => rw [hz2]; omega
  case b2 => unfold maxLen; omega
  case b3 => exact Nat.le_refl _
  intro w1 hown1 hg1
  have hb1 : Below w.heap.size w w1 := Below.grown (Below.refl _ _) hg1 (Nat.le_refl _) (fun k hk => by cases hk)
  have hl1 := HB.out.below hb1
  go_wp2_with (at_builtin; refine wpList_append_fits_any _ rfl _ _ 30 rfl w.heap.size 5 i0 1 Tryz.underlying30 hi hz1 w.heap.size 0 (lb + q) [] rfl hown1 ab lb cb (u8s bs) rfl ?c1 hl1.isNil hl1.cells (ints_oneCell8 _ _) ?c2 ?_)
  case c1 => simp [u8s, hl1.1]
  case c2 => omega
  intro w2 hown2 hg2
  have hb2 : Below w.heap.size w w2 := Below.grown hb1 hg2 hb1.size (fun k hk => by cases hk; exact Nat.le_refl _)
  have HO2 : Hid (w2.ownsRow w.heap.size 5 1 (.slice (some ⟨w.heap.size, 0, none⟩) lb (lb + q)) (bs ++ bytesOf size (l.take 0)).length (u8s (bs ++ bytesOf size (l.take 0)))) := ownsRow_u8 hown2 (by simp [bytesOf, hl1.1]) (by simp [bytesOf])
  clear hown1 hg1 hb1 hl1 hown2 hg2
  go_wp2
  go_loopw [9, 31] (fun v i wr => ∃ k : Nat, k ≤ ll ∧ i = .int .i64 k ∧ wr.ownsRow w.heap.size 5 1 v (bs ++ bytesOf size (l.take k)).length (u8s (bs ++ bytesOf size (l.take k))) ∧ Below w.heap.size w wr) (fun _ i _ => ll - (intOf i).toNat)
  case atStart => exact ⟨0, Nat.zero_le _, rfl, by simpa using HO2.out, hb2⟩
  case round =>
    obtain ⟨k, hk, rfl, hown, hbr⟩ := hrel
    by_cases hlt : k < ll
    · obtain ⟨b, off, rfl, hcell0⟩ := HL.out.2.2.2.2 k hlt
      have hcell : wr.cell? ⟨b, off + k, none⟩ = _ := (hbr.cell (p := ⟨b, off + k, none⟩) (World.block_lt_of_cell? w _ hcell0)).trans hcell0
      clear hcell0
      have hkl : k < l.length := by rw [HL.out.1]; exact hlt
      have hok : okB size (l.getD k 0) = true := HA.out _ (by simp [hkl])
      have HS : Hid _ := bytesOf_snoc size l k hkl
      have hln := HQ.out k hk
      generalize l.getD k 0 = x at *
      generalize bytesOf size (l.take k) = B at *
      clear hkl
      go_wp2_with (go_at_call 88; refine (appendNumber_any size x _ _ w.heap.size _ _ HZ.out hbr.size (by omega) hown hok).mono ?_; rintro e w3 ⟨v3, rfl, hown3, hb3⟩)
      go_roundw
      case rel => exact ⟨k + 1, by omega, by go_num, ownsRow_u8 hown3 (by rw [HS.out]; simp; omega) (by rw [HS.out]; simp [u8s]), hbr.trans hb3⟩
      case measure => simp [intOf]; omega
    · obtain rfl : k = ll := by omega
      go_wp2
      go_ret2
      rw [List.take_of_length_le (by rw [HL.out.1]; exact Nat.le_refl _)] at hown
      exact ⟨_, rfl, hown, hbr⟩
end Go.Proofs.YtbklpelikaapoaaGreatDoor

namespace Go.Proofs.YtbklpelikaapoaaGreatDoor
open Go.ChangeShapes Go.WideShapes Go.ChangeAt Go.RowKit
set_option linter.unusedVariables false
set_option linter.unusedSimpArgs false

theorem clone_nil (w : World) : Calls Tryz.prog 78 #[.slice none 0 0] w fun e w' => e = .returned (.slice none 0 0) ∧ w' = w := by
  have he := fun w => Lib.run_eql_slice_nil (P := Tryz.prog) w 30 5 none 0 0 0 0 Tryz.underlying30
  go_enter Tryz.func78, Tryz.ntmps78
  go_wp2
  go_ret
  exact ⟨rfl, rfl⟩

theorem clone_some (ad : Addr) (len cap : Nat) (l : List Int) (w : World) (h : Lies .u8 w (some ad) len cap l) (hl : len ≤ 100000) :
    Calls Tryz.prog 78 #[.slice (some ad) len cap] w fun e w' => ∃ v, e = .returned v ∧ w'.ownsRow w.heap.size 5 1 v l.length (u8s l) ∧ Below w.heap.size w w' := by
  have he := fun w => Lib.run_eql_slice_nil (P := Tryz.prog) w 30 5 (some ad) len cap 0 0 Tryz.underlying30
  obtain ⟨i0, hi, hz0, hz1, hz2⟩ := info_parts info5
  have HB : Hid (Lies .u8 w (some ad) len cap l) := h
  have hb1 : Below w.heap.size w (w.alloc (.cells #[] 5)) := (Below.refl _ _).alloc (Nat.le_refl _) _
  have hl1 := HB.out.below hb1
  have hown := World.ownsRow_made (e := 5) (size := 1) (base := w.heap.size) w #[] 0 (Nat.le_refl _) (by decide) (by simp)
  have HO : Hid _ := hown
  have HL1 : Hid _ := hl1
  clear h hown hl1 hb1
  go_enter Tryz.func78, Tryz.ntmps78
  go_wp2_with (at_builtin; refine wpList_append_own _ rfl _ _ 30 rfl w.heap.size 5 i0 (.int .u8 0) 1 1 Tryz.underlying30 hi hz0 hz1 hz2 rfl (by decide) _ _ _ rfl HO.out ad len cap (u8s l) rfl ?c1 (Lies.cells HL1.out ad rfl) (ints_oneCell8 _ _) ?c3 ?c4 ?c5 ?_)
  case c1 => have := HB.out.1; simp [u8s]; omega
  case c3 => unfold maxLen; omega
  case c4 => omega
  intro v1 w1 hown1 hg1 _
  have hb2 : Below w.heap.size w w1 := Below.grown ((Below.refl _ _).alloc (Nat.le_refl _) _) hg1 (by simp) (fun k hk => by cases hk; exact Nat.le_refl _)
  have hln := HB.out.1
  have HW : Hid _ := hown1
  clear hown1 hg1
  go_wp2
  go_ret
  exact ⟨_, rfl, ownsRow_u8 HW.out (by omega) (by simp), hb2⟩

theorem clone_any (a : Option Addr) (len cap : Nat) (l : List Int) (w : World) (h : Lies .u8 w a len cap l) (hl : len ≤ 100000) :
    Calls Tryz.prog 78 #[.slice a len cap] w fun e w' => ∃ v, e = .returned v ∧ w'.ownsRow w.heap.size 5 1 v l.length (u8s l) ∧ Below w.heap.size w w' := by
  cases a with
  | some ad => exact clone_some ad len cap l w h hl
  | none =>
    obtain ⟨rfl, rfl⟩ := h.isNil rfl
    have : l = [] := List.eq_nil_of_length_eq_zero h.1
    subst this
    refine (clone_nil w).mono ?_
    rintro e w' ⟨rfl, rfl⟩
    exact ⟨_, rfl, World.ownsRow_nil _ _ _ _, Below.refl _ _⟩

/-- A row of the call's own, as a slice of bytes. -/
theorem owns_lies {w : World} {base : Nat} {v : Value} {l : List Int} (h : w.ownsRow base 5 1 v l.length (u8s l)) : ∃ a cap, v = .slice a l.length cap ∧ Lies .u8 w a l.length cap l ∧ (∀ ad, a = some ad → base ≤ ad.block ∧ ad.off = 0 ∧ ad.block < w.heap.size ∧ ∀ k, k < cap → w.frozen? ⟨ad.block, k, none⟩ = false) := by
  rcases h.2 with ⟨rfl, hn⟩ | ⟨g, cap, cur, rfl, hb, hg, hnc, hcm, hcs, hx⟩
  · exact ⟨none, 0, by rw [hn], ⟨rfl, by omega, by decide, fun _ => rfl, fun k hk => by omega⟩, fun ad h => by cases h⟩
  · refine ⟨_, cap, rfl, ⟨rfl, hnc, hcm, (fun h => by cases h), fun k hk => ⟨g, 0, rfl, ?_⟩⟩, ?_⟩
    · rw [Nat.zero_add, cell_of_row w g k cur 5 (0, 0) hg]
      have h1 : (cur.toList.take (l.length * 1))[k]? = (u8s l)[k]? := by rw [hx]
      rw [List.getElem?_take, if_pos (by omega)] at h1
      simp [u8s, hk] at h1
      simp [h1, hk]
    · intro ad had
      obtain rfl := Option.some.inj had
      refine ⟨hb, rfl, (Array.getElem?_eq_some_iff.1 hg).1, fun k hk => ?_⟩
      simp [World.frozen?, hg]

theorem hid {p : Prop} (h : p) : Hid p := h

/-- A part of a slice. -/
theorem Lies.cut {kd : IntKind} {w : World} {a : Option Addr} {len cap : Nat} {l : List Int} (h : Lies kd w a len cap l) (lo n mx : Nat) (h1 : lo + n ≤ len) (h2 : lo + n ≤ mx) (h3 : mx ≤ cap) {a' : Option Addr} (ha : ¬ mx = lo → a' = a.map (·.add lo)) (ha' : mx = lo → a' = a) :
    Lies kd w a' n (mx - lo) ((l.drop lo).take n) := by
  obtain ⟨hl, hlc, hcm, hn, hc⟩ := h
  refine ⟨by simp; omega, by omega, by omega, ?_, fun k hk => ?_⟩
  · intro h0
    by_cases hm : mx = lo
    · omega
    · rw [ha hm] at h0
      have : a = none := by cases a <;> simp_all
      have := hn this; omega
  · obtain ⟨b, off, he, hcell⟩ := hc (lo + k) (by omega)
    refine ⟨b, off + lo, ?_, ?_⟩
    · rw [ha (by omega), he]; simp [Addr.add_lit]
    · rw [Nat.add_assoc, hcell]
      have hk2 : lo + k < l.length := by omega
      simp [List.getD, List.getElem?_take, hk, List.getElem?_drop]

/-- A cursor in memory: its window's bytes, how many were passed, what was wrong. -/
structure CurAt (w : World) (c : Nat) (a : Option Addr) (len cap : Nat) (l : List Int) (at_ : Nat) (er : Int) : Prop where
  block : w.heap[c]? = some (.cells #[.slice a len cap, .int .i64 at_, .int .i64 er] 172 (0, 0))
  lies : Lies .u8 w a len cap l
  oct : Oct l
  le : at_ ≤ len
  small : len ≤ 100000

theorem CurAt.cell0 {w : World} {c : Nat} {a : Option Addr} {len cap : Nat} {l : List Int} {at_ : Nat} {er : Int} (h : CurAt w c a len cap l at_ er) : w.cell? ⟨c, 0, none⟩ = some (.slice a len cap) := by
  rw [cell_of_row w c 0 _ _ _ h.block]; rfl
theorem CurAt.cell1 {w : World} {c : Nat} {a : Option Addr} {len cap : Nat} {l : List Int} {at_ : Nat} {er : Int} (h : CurAt w c a len cap l at_ er) : w.cell? ⟨c, 1, none⟩ = some (.int .i64 at_) := by
  rw [cell_of_row w c 1 _ _ _ h.block]; rfl
theorem CurAt.cell2 {w : World} {c : Nat} {a : Option Addr} {len cap : Nat} {l : List Int} {at_ : Nat} {er : Int} (h : CurAt w c a len cap l at_ er) : w.cell? ⟨c, 2, none⟩ = some (.int .i64 er) := by
  rw [cell_of_row w c 2 _ _ _ h.block]; rfl
theorem CurAt.soft {w : World} {c : Nat} {a : Option Addr} {len cap : Nat} {l : List Int} {at_ : Nat} {er : Int} (h : CurAt w c a len cap l at_ er) : ∀ j, w.frozen? ⟨c, j, none⟩ = false := by
  intro j; simp [World.frozen?, h.block]

/-- A block that holds none of a row's bytes. -/
def NoU8 (w : World) (d : Nat) : Prop := ∀ o x, w.cell? ⟨d, o, none⟩ ≠ some (.int .u8 x)
theorem noU8_of {w : World} {d : Nat} {a : Option Addr} {len cap : Nat} {x y : Int} {t : TypeId} {fr : Nat × Nat} (h : w.heap[d]? = some (.cells #[.slice a len cap, .int .i64 x, .int .i64 y] t fr)) : NoU8 w d := by
  intro o z hz
  rw [cell_of_row w d o _ _ _ h] at hz
  match o, hz with
  | 0, hz => simp at hz
  | 1, hz => simp at hz
  | 2, hz => simp at hz
  | o + 3, hz => simp at hz
theorem CurAt.noU8 {w : World} {c : Nat} {a : Option Addr} {len cap : Nat} {l : List Int} {at_ : Nat} {er : Int} (h : CurAt w c a len cap l at_ er) : NoU8 w c := noU8_of h.block

theorem Lies.grown {w w' : World} {d : Nat} {a : Option Addr} {len cap : Nat} {l : List Int} (h : Lies .u8 w a len cap l) (hn : NoU8 w d) (hg : w.grownBy w' (some d)) : Lies .u8 w' a len cap l := by
  refine ⟨h.1, h.2.1, h.2.2.1, h.2.2.2.1, fun k hk => ?_⟩
  obtain ⟨b, off, he, hc⟩ := h.2.2.2.2 k hk
  refine ⟨b, off, he, hg.cell hc ?_⟩
  intro e
  obtain rfl := Option.some.inj e
  exact hn _ _ hc
theorem Lies.drewN {kd : IntKind} {w : World} {a : Option Addr} {len cap : Nat} {l : List Int} (h : Lies kd w a len cap l) (q : Nat) : Lies kd (w.drewN q) a len cap l := h
theorem CurAt.drewN {w : World} {c : Nat} {a : Option Addr} {len cap : Nat} {l : List Int} {at_ : Nat} {er : Int} (h : CurAt w c a len cap l at_ er) (q : Nat) : CurAt (w.drewN q) c a len cap l at_ er := ⟨h.block, h.lies, h.oct, h.le, h.small⟩
theorem grownBy_drewN (w : World) (q : Nat) (row : Option Nat) : w.grownBy (w.drewN q) row := ⟨rfl, rfl, rfl, Nat.le_refl _, fun _ _ _ => rfl⟩
theorem grownBy_setCell (w : World) (c j : Nat) (v : Value) : w.grownBy (w.setCell ⟨c, j, none⟩ v) (some c) :=
  ⟨rfl, rfl, rfl, by simp, fun k _ hne => heap_setCell_other w _ k v (fun e => hne (by rw [e]))⟩

theorem CurAt.setAt {w : World} {c : Nat} {a : Option Addr} {len cap : Nat} {l : List Int} {at_ : Nat} {er : Int} (h : CurAt w c a len cap l at_ er) (n : Nat) (hn : n ≤ len) : CurAt (w.setCell ⟨c, 1, none⟩ (.int .i64 n)) c a len cap l n er :=
  ⟨by rw [heap_setCell_same w c 1 _ _ _ h.block]; rfl, h.lies.grown h.noU8 (grownBy_setCell ..), h.oct, hn, h.small⟩
theorem CurAt.setEr {w : World} {c : Nat} {a : Option Addr} {len cap : Nat} {l : List Int} {at_ : Nat} {er : Int} (h : CurAt w c a len cap l at_ er) (n : Int) : CurAt (w.setCell ⟨c, 2, none⟩ (.int .i64 n)) c a len cap l at_ n :=
  ⟨by rw [heap_setCell_same w c 2 _ _ _ h.block]; rfl, h.lies.grown h.noU8 (grownBy_setCell ..), h.oct, h.le, h.small⟩

theorem over_any (a : Option Addr) (len cap : Nat) (l : List Int) (w : World) (h : Lies .u8 w a len cap l) (ho : Oct l) (hl : len ≤ 100000) :
    Calls Tryz.prog 65 #[.slice a len cap] w fun e w' => ∃ c a' cap', e = .returned (.pointer (some ⟨c, 0, none⟩)) ∧ CurAt w' c a' len cap' l 0 0 ∧ Below w.heap.size w w' ∧ w.heap.size ≤ c ∧ c < w'.heap.size := by
  have HB := hid h
  have HO := hid ho
  clear h ho
  go_enter Tryz.func65, Tryz.ntmps65
  go_wp2_with (go_at_call 78; refine (clone_any _ _ _ l _ HB.out hl).mono ?_; rintro e w1 ⟨v1, rfl, hown1, hb1⟩; obtain ⟨a1, cap1, rfl, hl1, ho1⟩ := owns_lies hown1)
  have hln : l.length = len := HB.out.1
  rw [hln] at hl1
  go_ret
  have hb2 : Below w1.heap.size w1 (w1.alloc (.cells #[.slice a1 l.length cap1, .int .i64 0, .int .i64 0] 172)) := (Below.refl _ _).alloc (Nat.le_refl _) _
  refine ⟨w1.heap.size, a1, cap1, rfl, ⟨?_, hl1.below hb2, HO.out, Nat.zero_le _, hl⟩, hb1.trans (hb2.mono hb1.size), hb1.size, by simp⟩
  rw [heap_alloc_new, hln]; rfl

theorem err_any (w : World) (c : Nat) (er : Int) (h : w.cell? ⟨c, 2, none⟩ = some (.int .i64 er)) : Calls Tryz.prog 105 #[.pointer (some ⟨c, 0, none⟩)] w fun e w' => e = .returned (.int .i64 er) ∧ w' = w := by
  go_enter Tryz.func105, Tryz.ntmps105
  go_wp2
  go_ret
  exact ⟨rfl, rfl⟩
/-- How many bytes are left. -/
theorem wleft_any (w : World) (c : Nat) (a : Option Addr) (len cap at_ : Nat) (h0 : w.cell? ⟨c, 0, none⟩ = some (.slice a len cap)) (h1 : w.cell? ⟨c, 1, none⟩ = some (.int .i64 at_)) (hle : at_ ≤ len) (hs : len ≤ 100000) :
    Calls Tryz.prog 106 #[.pointer (some ⟨c, 0, none⟩)] w fun e w' => e = .returned (.int .i64 ((len : Int) - at_)) ∧ ∃ q, w' = w.drewN q := by
  go_enter Tryz.func106, Tryz.ntmps106
  go_wp2
  go_quiet (fail)
  go_wp2
  go_ret
  exact ⟨rfl, nq, rfl⟩

/-- Where a part of a slice lies. -/
def cutA (a : Option Addr) (lo n : Nat) : Option Addr := if n = 0 then a else a.map (·.add lo)

theorem Lies.part {kd : IntKind} {w : World} {a : Option Addr} {len cap : Nat} {l : List Int} (h : Lies kd w a len cap l) (lo n : Nat) (h1 : lo + n ≤ len) :
    Lies kd w (cutA a lo n) n n ((l.drop lo).take n) := by
  have := h.cut lo n (lo + n) h1 (Nat.le_refl _) (Nat.le_trans h1 h.2.1) (a' := cutA a lo n) (fun hn => by simp [cutA, show ¬ n = 0 by omega]) (fun hn => by simp [cutA, show n = 0 by omega])
  rwa [Nat.add_sub_cancel_left] at this

theorem ret_slice {a a' : Option Addr} {n n' c c' : Nat} (h : a = a') (hn : n = n') (hc : c = c') : Ending.returned (.slice a n c) = .returned (.slice a' n' c') := by rw [h, hn, hc]

theorem wahead_any (w : World) (c : Nat) (a : Option Addr) (len cap at_ n : Nat) (h0 : w.cell? ⟨c, 0, none⟩ = some (.slice a len cap)) (h1 : w.cell? ⟨c, 1, none⟩ = some (.int .i64 at_)) (hle : at_ + n ≤ len) (hlc : len ≤ cap) (hs : len ≤ 100000) :
    Calls Tryz.prog 144 #[.pointer (some ⟨c, 0, none⟩), .int .i64 n] w fun e w' => e = .returned (.slice (cutA a at_ n) n n) ∧ ∃ q, w' = w.drewN q := by
  by_cases hn : n = 0
  · subst hn
    have HX : Hid (cutA a at_ 0 = a) := by simp [Hid, cutA]
    go_enter Tryz.func144, Tryz.ntmps144
    go_wp2
    go_quiet (fail)
    go_wp2
    all_goals
      go_ret
      exact ⟨ret_slice HX.out.symm (by omega) (by omega), nq, rfl⟩
  · have HX : Hid (cutA a at_ n = a.map (·.add at_)) := by simp [Hid, cutA, hn]
    have hne : ¬ at_ + n = at_ := by omega
    go_enter Tryz.func144, Tryz.ntmps144
    go_wp2
    go_quiet (fail)
    go_wp2
    all_goals
      go_ret
      exact ⟨ret_slice HX.out.symm (by omega) (by omega), nq, rfl⟩

theorem wpass_any (w : World) (c : Nat) (a : Option Addr) (len cap at_ n : Nat) (l : List Int) (er : Int) (h : CurAt w c a len cap l at_ er) (hle : at_ + n ≤ len) :
    Calls Tryz.prog 133 #[.pointer (some ⟨c, 0, none⟩), .int .i64 n] w fun e w' => e = .returned (.slice (cutA a at_ n) n n) ∧ CurAt w' c a len cap l (at_ + n) er ∧ w.grownBy w' (some c) ∧ w'.heap.size = w.heap.size := by
  have h0 := h.cell0
  have h1 := h.cell1
  have hsf := h.soft 1
  have hlc := h.lies.2.1
  have hs := h.small
  have H := hid h
  clear h
  go_enter Tryz.func133, Tryz.ntmps133
  go_wp2_with (go_at_call 144; refine (wahead_any _ c a len cap at_ n ?_ ?_ hle hlc hs).mono ?_; assumption; assumption; rintro e w1 ⟨rfl, q, rfl⟩)
  go_ret
  have hc2 := (H.out.drewN q).setAt (at_ + n) hle
  rw [Int.natCast_add] at hc2
  exact ⟨rfl, hc2, (grownBy_drewN w q _).trans (grownBy_setCell ..), by simp⟩

theorem spoil_was (w : World) (c : Nat) (er e : Int) (h : w.cell? ⟨c, 2, none⟩ = some (.int .i64 er)) (he : er ≠ 0) : Calls Tryz.prog 132 #[.pointer (some ⟨c, 0, none⟩), .int .i64 e] w fun e w' => e = .returned (.tuple #[]) ∧ w' = w := by
  have he' : (er == 0) = false := by simp [he]
  go_enter Tryz.func132, Tryz.ntmps132
  go_wp2_with (go_at_call 105; refine (err_any _ _ _ h).mono ?_; rintro e w1 ⟨rfl, rfl⟩)
  go_returns
  exact ⟨rfl, rfl⟩
theorem spoil_now (w : World) (c : Nat) (a : Option Addr) (len cap at_ : Nat) (l : List Int) (e : Int) (h : CurAt w c a len cap l at_ 0) :
    Calls Tryz.prog 132 #[.pointer (some ⟨c, 0, none⟩), .int .i64 e] w fun e' w' => e' = .returned (.tuple #[]) ∧ CurAt w' c a len cap l at_ e ∧ w.grownBy w' (some c) ∧ w'.heap.size = w.heap.size := by
  have h2 := h.cell2
  have hsf := h.soft 2
  have H := hid h
  clear h
  go_enter Tryz.func132, Tryz.ntmps132
  go_wp2_with (go_at_call 105; refine (err_any _ _ _ h2).mono ?_; rintro e w1 ⟨rfl, rfl⟩)
  go_returns
  exact ⟨rfl, H.out.setEr e, grownBy_setCell .., by simp⟩
end Go.Proofs.YtbklpelikaapoaaGreatDoor

namespace Go.Proofs.YtbklpelikaapoaaGreatDoor
open Go.ChangeShapes Go.WideShapes Go.ChangeAt Go.RowKit
set_option linter.unusedVariables false
set_option linter.unusedSimpArgs false

/-- What is wrong behind reading n numbers of a size, of so many bytes that are left. -/
def rdE (size n : Int) (left : Nat) (er : Int) : Int := if er = 0 then (if n < 0 ∨ sizeB size = false then 1 else if (left : Int) < size * n then 4 else 0) else er
/-- How many bytes are read then. -/
def rdN (size n : Int) (left : Nat) (er : Int) : Nat := if rdE size n left er = 0 then (size * n).toNat else 0

theorem rdN_le (size n : Int) (left : Nat) (er : Int) : rdN size n left er ≤ left := by
  by_cases h : rdE size n left er = 0
  · rw [rdN, if_pos h]
    unfold rdE at h
    split at h
    · split at h
      · omega
      · split at h <;> omega
    · omega
  · rw [rdN, if_neg h]; omega

theorem Lies.nil (kd : IntKind) (w : World) : Lies kd w none 0 0 [] := ⟨rfl, by omega, by decide, fun _ => rfl, fun k hk => by omega⟩

/-- What a call of 'read' leaves. -/
def ReadOk (w : World) (c : Nat) (a : Option Addr) (len cap at_ : Nat) (l : List Int) (er : Int) (size n : Int) (e : Ending) (w' : World) : Prop :=
  ∃ a', e = .returned (.slice a' (rdN size n (len - at_) er) (rdN size n (len - at_) er)) ∧ Lies .u8 w' a' (rdN size n (len - at_) er) (rdN size n (len - at_) er) ((l.drop at_).take (rdN size n (len - at_) er)) ∧
    CurAt w' c a len cap l (at_ + rdN size n (len - at_) er) (rdE size n (len - at_) er) ∧ w.grownBy w' (some c) ∧ w'.heap.size = w.heap.size

theorem readOk_no {w w' : World} {c : Nat} {a : Option Addr} {len cap at_ : Nat} {l : List Int} {er size n er' : Int} (hE : rdE size n (len - at_) er = er') (hN : er' ≠ 0) (h : CurAt w' c a len cap l at_ er') (hg : w.grownBy w' (some c)) (hs : w'.heap.size = w.heap.size) :
    ReadOk w c a len cap at_ l er size n (.returned (.slice none 0 0)) w' := by
  have h0 : rdN size n (len - at_) er = 0 := by unfold rdN; rw [hE, if_neg hN]
  refine ⟨none, ?_⟩
  rw [h0, hE]
  exact ⟨rfl, by simpa using Lies.nil .u8 w', h, hg, hs⟩

theorem read_was (w : World) (c : Nat) (a : Option Addr) (len cap at_ : Nat) (l : List Int) (er size n : Int) (h : CurAt w c a len cap l at_ er) (her : er ≠ 0) :
    Calls Tryz.prog 104 #[.pointer (some ⟨c, 0, none⟩), .int .i64 size, .int .i64 n] w (ReadOk w c a len cap at_ l er size n) := by
  have he' : (er != 0) = true := by rw [bne_iff_ne]; exact her
  have h2 := h.cell2
  have H := hid h
  clear h
  go_enter Tryz.func104, Tryz.ntmps104
  go_wp2_with (go_at_call 105; refine (err_any _ _ _ h2).mono ?_; rintro e w1 ⟨rfl, rfl⟩)
  go_ret
  exact readOk_no (by simp [rdE, her]) her H.out (World.grownBy.refl _ _) rfl

theorem read_neg (w : World) (c : Nat) (a : Option Addr) (len cap at_ : Nat) (l : List Int) (size n : Int) (h : CurAt w c a len cap l at_ 0) (hn : n < 0) :
    Calls Tryz.prog 104 #[.pointer (some ⟨c, 0, none⟩), .int .i64 size, .int .i64 n] w (ReadOk w c a len cap at_ l 0 size n) := by
  have h2 := h.cell2
  have H := hid h
  clear h
  go_enter Tryz.func104, Tryz.ntmps104
  go_wp2_with (first | (go_at_call 105; refine (err_any _ _ _ h2).mono ?_; rintro e w1 ⟨rfl, rfl⟩) | (go_at_call 132; refine (spoil_now _ c a len cap at_ l 1 H.out).mono ?_; rintro e w1 ⟨rfl, hc1, hg1, hs1⟩; have HC1 := hid hc1; have HG1 := hid hg1; have HS1 := hid hs1; clear hc1 hg1 hs1))
  go_ret
  exact readOk_no (by simp [rdE, hn]) (by omega) HC1.out HG1.out HS1.out

theorem read_bad (w : World) (c : Nat) (a : Option Addr) (len cap at_ : Nat) (l : List Int) (size n : Int) (h : CurAt w c a len cap l at_ 0) (hn : 0 ≤ n) (hz : sizeB size = false) :
    Calls Tryz.prog 104 #[.pointer (some ⟨c, 0, none⟩), .int .i64 size, .int .i64 n] w (ReadOk w c a len cap at_ l 0 size n) := by
  have h2 := h.cell2
  have H := hid h
  have hn' : decide (n < 0) = false := by simp; omega
  clear h
  go_enter Tryz.func104, Tryz.ntmps104
  go_wp2_with (first | (go_at_call 105; refine (err_any _ _ _ h2).mono ?_; rintro e w1 ⟨rfl, rfl⟩) | (go_at_call 115; refine (isSize_any _ _).mono ?_; rintro e w1 ⟨rfl, rfl⟩) | (go_at_call 132; refine (spoil_now _ c a len cap at_ l 1 H.out).mono ?_; rintro e w1 ⟨rfl, hc1, hg1, hs1⟩; have HC1 := hid hc1; have HG1 := hid hg1; have HS1 := hid hs1; clear hc1 hg1 hs1))
  go_ret
  exact readOk_no (by simp [rdE, hz]) (by omega) HC1.out HG1.out HS1.out

set_option maxHeartbeats 400000 in
theorem read_end (w : World) (c : Nat) (a : Option Addr) (len cap at_ : Nat) (l : List Int) (size n : Int) (h : CurAt w c a len cap l at_ 0) (hn : 0 ≤ n) (hz : sizeB size = true) (hlt : ((len - at_ : Nat) : Int) < size * n) :
    Calls Tryz.prog 104 #[.pointer (some ⟨c, 0, none⟩), .int .i64 size, .int .i64 n] w (ReadOk w c a len cap at_ l 0 size n) := by
  have hE : rdE size n (len - at_) 0 = 4 := by simp [rdE, hz, hlt]; omega
  have HE := hid hE
  have h0 := h.cell0
  have h1 := h.cell1
  have h2 := h.cell2
  have hle := h.le
  have hsm := h.small
  have H := hid h
  have hn' : decide (n < 0) = false := by simp; omega
  clear h hE
  rcases sizeB_cases hz with rfl | rfl | rfl
  all_goals
    clear hz
    go_enter Tryz.func104, Tryz.ntmps104
    go_wp2_with (first | (go_at_call 105; refine (err_any _ _ _ h2).mono ?_; rintro e w1 ⟨rfl, rfl⟩) | (go_at_call 115; refine (isSize_any _ _).mono ?_; rintro e w1 ⟨rfl, rfl⟩; rw [show sizeB _ = true from rfl]) | (go_at_call 106; refine (wleft_any _ c a len cap at_ h0 h1 hle hsm).mono ?_; rintro e w1 ⟨rfl, q, rfl⟩) | (go_at_call 132; refine (spoil_now _ c a len cap at_ l 4 (H.out.drewN q)).mono ?_; rintro e w1 ⟨rfl, hc1, hg1, hs1⟩; have HC1 := hid hc1; have HG1 := hid hg1; have HS1 := hid hs1; clear hc1 hg1 hs1))
    go_ret
    exact readOk_no HE.out (by omega) HC1.out ((grownBy_drewN _ q _).trans HG1.out) HS1.out

theorem wpass_int (w : World) (c : Nat) (a : Option Addr) (len cap at_ n : Nat) (l : List Int) (er z : Int) (hz : z = n) (h : CurAt w c a len cap l at_ er) (hle : at_ + n ≤ len) :
    Calls Tryz.prog 133 #[.pointer (some ⟨c, 0, none⟩), .int .i64 z] w fun e w' => e = .returned (.slice (cutA a at_ n) n n) ∧ CurAt w' c a len cap l (at_ + n) er ∧ w.grownBy w' (some c) ∧ w'.heap.size = w.heap.size := by
  subst hz; exact wpass_any w c a len cap at_ n l er h hle

set_option maxHeartbeats 400000 in
theorem read_ok (w : World) (c : Nat) (a : Option Addr) (len cap at_ : Nat) (l : List Int) (size n : Int) (h : CurAt w c a len cap l at_ 0) (hn : 0 ≤ n) (hz : sizeB size = true) (hlt : size * n ≤ ((len - at_ : Nat) : Int)) :
    Calls Tryz.prog 104 #[.pointer (some ⟨c, 0, none⟩), .int .i64 size, .int .i64 n] w (ReadOk w c a len cap at_ l 0 size n) := by
  have hE : rdE size n (len - at_) 0 = 0 := by simp [rdE, hz, Int.not_lt.2 hlt]; omega
  have hN : rdN size n (len - at_) 0 = (size * n).toNat := by rw [rdN, if_pos hE]
  have HE := hid hE
  have HN := hid hN
  have h0 := h.cell0
  have h1 := h.cell1
  have h2 := h.cell2
  have hle := h.le
  have hsm := h.small
  have H := hid h
  have hn' : decide (n < 0) = false := by simp; omega
  clear h hE hN
  rcases sizeB_cases hz with rfl | rfl | rfl
  all_goals
    clear hz
    go_enter Tryz.func104, Tryz.ntmps104
    go_wp2_with (first | (go_at_call 105; refine (err_any _ _ _ h2).mono ?_; rintro e w1 ⟨rfl, rfl⟩) | (go_at_call 115; refine (isSize_any _ _).mono ?_; rintro e w1 ⟨rfl, rfl⟩; rw [show sizeB _ = true from rfl]) | (go_at_call 106; refine (wleft_any _ c a len cap at_ h0 h1 hle hsm).mono ?_; rintro e w1 ⟨rfl, q, rfl⟩))
    generalize hm : rdN _ n (len - at_) 0 = m at HN
    have HM := hid hm
    have hm2 := HN.out
    refine (wpass_int _ c a len cap at_ m l 0 _ (by rw [hm2]; omega) (H.out.drewN q) (by omega)).mono ?_
    clear hm hm2
    rintro e w1 ⟨rfl, hc1, hg1, hs1⟩
    have HC1 := hid hc1
    have HG1 := hid hg1
    have HS1 := hid hs1
    clear hc1 hg1 hs1
    go_wp2
    go_ret
    refine ⟨cutA a at_ m, ?_⟩
    rw [HM.out, HE.out]
    have hl1 := HC1.out.lies.part at_ m (by have := HC1.out.le; omega)
    exact ⟨rfl, hl1, HC1.out, (grownBy_drewN _ q _).trans HG1.out, HS1.out⟩

theorem read_any (w : World) (c : Nat) (a : Option Addr) (len cap at_ : Nat) (l : List Int) (er size n : Int) (h : CurAt w c a len cap l at_ er) :
    Calls Tryz.prog 104 #[.pointer (some ⟨c, 0, none⟩), .int .i64 size, .int .i64 n] w (ReadOk w c a len cap at_ l er size n) := by
  by_cases her : er = 0
  · subst her
    by_cases hn : n < 0
    · exact read_neg w c a len cap at_ l size n h hn
    · cases hz : sizeB size
      · exact read_bad w c a len cap at_ l size n h (by omega) hz
      · by_cases hlt : ((len - at_ : Nat) : Int) < size * n
        · exact read_end w c a len cap at_ l size n h (by omega) hz hlt
        · exact read_ok w c a len cap at_ l size n h (by omega) hz (by omega)
  · exact read_was w c a len cap at_ l er size n h her
end Go.Proofs.YtbklpelikaapoaaGreatDoor

namespace Go.Proofs.YtbklpelikaapoaaGreatDoor
open Go.ChangeShapes Go.WideShapes Go.ChangeAt Go.RowKit
set_option linter.unusedVariables false
set_option linter.unusedSimpArgs false

theorem Oct.cut {l : List Int} (h : Oct l) (lo n : Nat) : Oct ((l.drop lo).take n) := fun x hx => h x (List.mem_of_mem_drop (List.mem_of_mem_take hx))
theorem CurAt.below {w w' : World} {c : Nat} {a : Option Addr} {len cap : Nat} {l : List Int} {at_ : Nat} {er : Int} (h : CurAt w c a len cap l at_ er) (hb : Below w.heap.size w w') : CurAt w' c a len cap l at_ er :=
  ⟨(hb.block c (Array.getElem?_eq_some_iff.1 h.block).1).trans h.block, h.lies.below hb, h.oct, h.le, h.small⟩
theorem CurAt.lt {w : World} {c : Nat} {a : Option Addr} {len cap : Nat} {l : List Int} {at_ : Nat} {er : Int} (h : CurAt w c a len cap l at_ er) : c < w.heap.size := (Array.getElem?_eq_some_iff.1 h.block).1
theorem CurAt.grown {w w' : World} {c d : Nat} {a : Option Addr} {len cap : Nat} {l : List Int} {at_ : Nat} {er : Int} (h : CurAt w c a len cap l at_ er) (hn : NoU8 w d) (hcd : c ≠ d) (hg : w.grownBy w' (some d)) : CurAt w' c a len cap l at_ er :=
  ⟨(hg.block c h.lt (fun e => hcd (Option.some.inj e))).trans h.block, h.lies.grown hn hg, h.oct, h.le, h.small⟩
theorem grownBy_below {w w1 w2 : World} {c : Option Nat} (h : w.grownBy w1 c) (hb : Below w1.heap.size w1 w2) : w.grownBy w2 c :=
  ⟨hb.os.trans h.os, hb.tape.trans h.tape, hb.output.trans h.output, Nat.le_trans h.size hb.size, fun k hk hne => (hb.block k (Nat.lt_of_lt_of_le hk h.size)).trans (h.block k hk hne)⟩

theorem rdN_one (size : Int) (left : Nat) (er : Int) : rdN size 1 left er ≤ 4 := by
  unfold rdN
  split
  · rename_i h
    cases hz : sizeB size
    · exfalso
      unfold rdE at h
      split at h
      · rw [if_pos (Or.inr hz)] at h; omega
      · omega
    · rcases sizeB_cases hz with rfl | rfl | rfl <;> omega
  · omega

/-- The number that is read. -/
def takeV (size : Int) (l : List Int) (at_ len : Nat) (er : Int) : Int := numOf ((l.drop at_).take (rdN size 1 (len - at_) er))

theorem take_any (w : World) (c : Nat) (a : Option Addr) (len cap at_ : Nat) (l : List Int) (er size : Int) (h : CurAt w c a len cap l at_ er) :
    Calls Tryz.prog 103 #[.pointer (some ⟨c, 0, none⟩), .int .i64 size] w fun e w' => e = .returned (.int .i64 (takeV size l at_ len er)) ∧
      CurAt w' c a len cap l (at_ + rdN size 1 (len - at_) er) (rdE size 1 (len - at_) er) ∧ w.grownBy w' (some c) ∧ w'.heap.size = w.heap.size := by
  have H := hid h
  have h4 := rdN_one size (len - at_) er
  have ho := hid (h.oct.cut at_ (rdN size 1 (len - at_) er))
  have HT : Hid (takeV size l at_ len er = _) := rfl
  clear h
  go_enter Tryz.func103, Tryz.ntmps103
  go_wp2_with fail
  refine (read_any _ c a len cap at_ l er size 1 H.out).mono ?_
  rintro e w1 ⟨a1, rfl, hl1, hc1, hg1, hs1⟩
  have HL1 := hid hl1
  have HC1 := hid hc1
  have HG1 := hid hg1
  have HS1 := hid hs1
  clear hl1 hc1 hg1 hs1
  go_wp2_with fail
  refine (number_any _ _ _ _ _ HL1.out h4 ho.out).mono ?_
  rintro e w1 ⟨rfl, rfl⟩
  go_wp2
  go_ret
  exact ⟨rfl, HC1.out, HG1.out, HS1.out⟩

theorem bytes_any (w : World) (c : Nat) (a : Option Addr) (len cap at_ : Nat) (l : List Int) (er n : Int) (h : CurAt w c a len cap l at_ er) :
    Calls Tryz.prog 67 #[.pointer (some ⟨c, 0, none⟩), .int .i64 n] w fun e w' => ∃ v, e = .returned v ∧ w'.ownsRow w.heap.size 5 1 v (rdN 1 n (len - at_) er) (u8s ((l.drop at_).take (rdN 1 n (len - at_) er))) ∧
      CurAt w' c a len cap l (at_ + rdN 1 n (len - at_) er) (rdE 1 n (len - at_) er) ∧ w.grownBy w' (some c) := by
  have H := hid h
  have hm := rdN_le 1 n (len - at_) er
  have hs := h.small
  clear h
  go_enter Tryz.func67, Tryz.ntmps67
  go_wp2_with fail
  refine (read_any _ c a len cap at_ l er 1 n H.out).mono ?_
  rintro e w1 ⟨a1, rfl, hl1, hc1, hg1, hs1⟩
  have HL1 := hid hl1
  have HC1 := hid hc1
  have HG1 := hid hg1
  have HS1 := hid hs1
  clear hl1 hc1 hg1 hs1
  go_wp2_with fail
  refine (clone_any _ _ _ _ _ HL1.out (by omega)).mono ?_
  rintro e w2 ⟨v2, rfl, hown2, hb2⟩
  have HO2 := hid hown2
  have HB2 := hid hb2
  clear hown2 hb2
  go_wp2
  go_ret
  refine ⟨v2, rfl, ?_, HC1.out.below HB2.out, grownBy_below HG1.out HB2.out⟩
  have := HO2.out
  rw [HS1.out, HL1.out.1] at this
  exact this

theorem left_any (w : World) (c : Nat) (a : Option Addr) (len cap at_ : Nat) (l : List Int) (er : Int) (h : CurAt w c a len cap l at_ er) :
    Calls Tryz.prog 109 #[.pointer (some ⟨c, 0, none⟩)] w fun e w' => e = .returned (.int .i64 ((len : Int) - at_)) ∧ ∃ q, w' = w.drewN q := by
  have h0 := h.cell0
  have h1 := h.cell1
  have hle := h.le
  have hsm := h.small
  clear h
  go_enter Tryz.func109, Tryz.ntmps109
  go_wp2_with (go_at_call 106; refine (wleft_any _ c a len cap at_ h0 h1 hle hsm).mono ?_; rintro e w1 ⟨rfl, q, rfl⟩)
  go_ret
  exact ⟨rfl, q, rfl⟩

/-- What 'Close' tells. -/
def closeV (left : Nat) (er : Int) : Int := if er = 0 then (if 0 < left then 3 else 0) else er
theorem close_any (w : World) (c : Nat) (a : Option Addr) (len cap at_ : Nat) (l : List Int) (er : Int) (h : CurAt w c a len cap l at_ er) :
    Calls Tryz.prog 68 #[.pointer (some ⟨c, 0, none⟩)] w fun e w' => e = .returned (.int .i64 (closeV (len - at_) er)) ∧ ∃ q, w' = w.drewN q := by
  have h0 := h.cell0
  have h1 := h.cell1
  have h2 := h.cell2
  have hle := h.le
  have hsm := h.small
  clear h
  by_cases her : er = 0
  · subst her
    by_cases hlt : at_ < len
    · have HV : Hid (closeV (len - at_) 0 = 3) := by simp [Hid, closeV]; omega
      go_enter Tryz.func68, Tryz.ntmps68
      go_wp2_with (first | (go_at_call 105; refine (err_any _ _ _ h2).mono ?_; rintro e w1 ⟨rfl, rfl⟩) | (go_at_call 106; refine (wleft_any _ c a len cap at_ h0 h1 hle hsm).mono ?_; rintro e w1 ⟨rfl, q, rfl⟩))
      go_ret
      exact ⟨ret_int HV.out.symm, q, rfl⟩
    · have HV : Hid (closeV (len - at_) 0 = 0) := by simp [Hid, closeV]; omega
      go_enter Tryz.func68, Tryz.ntmps68
      go_wp2_with (first | (go_at_call 105; refine (err_any _ _ _ h2).mono ?_; rintro e w1 ⟨rfl, rfl⟩) | (go_at_call 106; refine (wleft_any _ c a len cap at_ h0 h1 hle hsm).mono ?_; rintro e w1 ⟨rfl, q, rfl⟩))
      go_ret
      exact ⟨ret_int HV.out.symm, q, rfl⟩
  · have HV : Hid (closeV (len - at_) er = er) := by simp [Hid, closeV, her]
    have her' : (er != 0) = true := by rw [bne_iff_ne]; exact her
    go_enter Tryz.func68, Tryz.ntmps68
    go_wp2_with (first | (go_at_call 105; refine (err_any _ _ _ h2).mono ?_; rintro e w1 ⟨rfl, rfl⟩))
    go_ret
    exact ⟨ret_int HV.out.symm, 0, rfl⟩
end Go.Proofs.YtbklpelikaapoaaGreatDoor

namespace Go.Proofs.YtbklpelikaapoaaGreatDoor
open Go.ChangeShapes Go.WideShapes Go.ChangeAt Go.RowKit
set_option linter.unusedVariables false
set_option linter.unusedSimpArgs false

end Go.Proofs.YtbklpelikaapoaaGreatDoor

namespace Go.Proofs.YtbklpelikaapoaaGreatDoor
open Go.ChangeShapes Go.WideShapes Go.ChangeAt Go.RowKit
set_option linter.unusedVariables false
set_option linter.unusedSimpArgs false

def i64s (l : List Int) : List Value := l.map (Value.int .i64)

theorem ownsRow_i64 {w : World} {base base' n m : Nat} {v : Value} {xs ys : List Value} (h : w.ownsRow base 3 1 v n xs) (hb : base = base') (hn : n = m) (hx : xs = ys) : w.ownsRow base' 3 1 v m ys := by subst hb; subst hn; subst hx; exact h
end Go.Proofs.YtbklpelikaapoaaGreatDoor

namespace Go.Proofs.YtbklpelikaapoaaGreatDoor
open Go.ChangeShapes Go.WideShapes Go.ChangeAt Go.RowKit
set_option linter.unusedVariables false
set_option linter.unusedSimpArgs false

theorem bthen {w w1 w2 : World} (h : Below w.heap.size w w1) (k : Below w1.heap.size w1 w2) : Below w.heap.size w w2 := h.trans (k.mono h.size)
theorem bgrown {w w1 w2 : World} {c : Nat} (h : Below w.heap.size w w1) (k : w1.grownBy w2 (some c)) (hc : w.heap.size ≤ c) : Below w.heap.size w w2 := Below.grown h k h.size (fun j hj => by cases hj; exact hc)
theorem bdrew {w w1 : World} (h : Below w.heap.size w w1) (q : Nat) : Below w.heap.size w (w1.drewN q) := h.trans ⟨rfl, rfl, rfl, Nat.le_refl _, fun _ _ => rfl⟩
theorem balloc {w w1 : World} (h : Below w.heap.size w w1) (o : Obj) : Below w.heap.size w (w1.alloc o) := h.alloc h.size o

/-- Numbers that were just laid down. -/
theorem lies_new (kd : IntKind) (w : World) (cs : Array Value) (t : TypeId) (l : List Int) (h : cs.toList = l.map (Value.int kd)) (hs : l.length ≤ 100) : Lies kd (w.alloc (.cells cs t)) (some ⟨w.heap.size, 0, none⟩) l.length l.length l := by
  refine ⟨rfl, Nat.le_refl _, by unfold maxLen; omega, fun h => (by cases h), fun k hk => ⟨w.heap.size, 0, rfl, ?_⟩⟩
  have := World.news_of_block (heap_alloc_new w (.cells cs t)) k (.int kd (l.getD k 0)) (by rw [h]; simp [hk])
  rwa [Addr.add_lit] at this

/-- What is known of a slice of numbers that came in: it is nil, or it leads to a row of 'cap' cells that hold the numbers 'zs'. -/
def IsRow (k : IntKind) (w : World) (a : Option Addr) (len cap : Nat) (zs : List Int) : Prop :=
  (a = none ∧ len = 0 ∧ cap = 0 ∧ zs = []) ∨
  ∃ x, a = some x ∧ len ≤ cap ∧ cap ≤ maxLen ∧ zs.length = cap ∧ (∀ i, i < zs.length → w.cell? (x.add i) = some (.int k (zs.getD i 0))) ∧ ∀ n ∈ zs, (Lit.int k n).wf = true

theorem IsRow.lies {kd : IntKind} {w : World} {a : Option Addr} {len cap : Nat} {zs : List Int} (h : IsRow kd w a len cap zs) : Lies kd w a len cap (zs.take len) := by
  rcases h with ⟨rfl, rfl, rfl, rfl⟩ | ⟨x, rfl, hlc, hcm, hz, hcell, hwf⟩
  · exact Lies.nil kd w
  · refine ⟨by simp; omega, hlc, hcm, fun h => (by cases h), fun k hk => ?_⟩
    obtain ⟨b, off, rfl, hc⟩ := ints_at hcell (by omega)
    refine ⟨b, off, rfl, ?_⟩
    rw [hc k (by omega)]
    simp [List.getD, List.getElem?_take, hk]

theorem Lies.pre {kd : IntKind} {w : World} {a : Option Addr} {len cap : Nat} {l : List Int} (h : Lies kd w a len cap l) (n : Nat) (hn : n ≤ len) : Lies kd w a n cap (l.take n) := by
  refine ⟨by rw [List.length_take, h.1]; omega, Nat.le_trans hn h.2.1, h.2.2.1, h.2.2.2.1, fun k hk => ?_⟩
  obtain ⟨b, off, he, hc⟩ := h.2.2.2.2 k (by omega)
  refine ⟨b, off, he, ?_⟩
  rw [hc]; simp [List.getD, List.getElem?_take, hk]

theorem IsRow.wf {kd : IntKind} {w : World} {a : Option Addr} {len cap : Nat} {zs : List Int} (h : IsRow kd w a len cap zs) : ∀ n ∈ zs, (Lit.int kd n).wf = true := by
  rcases h with ⟨rfl, rfl, rfl, rfl⟩ | ⟨x, rfl, hlc, hcm, hz, hcell, hwf⟩
  · intro n hn; cases hn
  · exact hwf

/-- An append onto a row of the call's own, from wherever. -/
theorem wpList_append_own_any {P : Program} (w : World) {ops : Array Oper} {rest : List Oper} {o : Oper} {a : Act} {Q : Exit → Act → World → Prop} (hgd : o.guard = none) (s x : Operand) (t : TypeId)
    (ho : o.op = .call { callee := .builtin .append, args := #[s, x], argTypes := #[t, t] })
    (base : Nat) (e : TypeId) (i : TypeInfo) (z : Value) (size bytes : Nat) (ht : P.underlying t = some (.slice e)) (hi : P.info? e = some i) (hz : i.zero = some z)
    (hsize : i.size = size) (hby : i.bytes = bytes) (hzs : z.cells.size = size) (hsz : 0 < size)
    (v : Value) (n : Nat) (xs : List Value) (hs : a.eval s = v) (hown : w.ownsRow base e size v n xs)
    (ao : Option Addr) (m c : Nat) (news : List Value) (hx : a.eval x = .slice ao m c) (hl : news.length = m * size) (hnone : ao = none → m = 0 ∧ c = 0) (hnews : ∀ ad, ao = some ad → ∀ j u, news[j]? = some u → w.cell? (ad.add j) = some u) (h1 : ∀ u ∈ news, u.oneCell' = true)
    (h63 : n + m ≤ maxLen) (hbytes : (n + m) * bytes ≤ 140737488355328) (hbase : base ≤ w.heap.size)
    (h : ∀ v' w', w'.ownsRow base e size v' (n + m) (xs ++ news) → Below base w w' → wpList P ops Q rest (a.put o.dst v') w') : wpList P ops Q (o :: rest) a w := by
  cases ao with
  | some ad =>
    refine wpList_append_own w hgd s x t ho base e i z size bytes ht hi hz hsize hby hzs hsz v n xs hs hown ad m c news hx hl (hnews ad rfl) h1 h63 hbytes hbase ?_
    intro v' w' h2 h3 _
    exact h v' w' h2 (Below.grown (Below.refl _ _) h3 hbase (fun k hk => (hown.lt k hk).1))
  | none =>
    obtain ⟨rfl, rfl⟩ := hnone rfl
    have hn : news = [] := List.eq_nil_of_length_eq_zero (by simpa using hl)
    subst hn
    refine wpList_append_own_none hgd s x t ho base e i size ht hi v n xs hs hown hx ?_
    exact h v w (by simpa using hown) (Below.refl _ _)

/-- What is wrong, if these numbers are put behind so many bytes. -/
def putE (size : Int) (lb : Nat) (l : List Int) : Int := if fitsB size l = true then (if 1280 < lb + size.toNat * l.length then 2 else 0) else 1
/-- What is put then. -/
def putL (size : Int) (bs l : List Int) : List Int := if putE size bs.length l = 0 then bs ++ bytesOf size l else []

theorem put_any (ab al : Option Addr) (lb cb ll cl : Nat) (size : Int) (bs l : List Int) (w : World) (hb : Lies .u8 w ab lb cb bs) (hl : Lies .i64 w al ll cl l) (hlb : lb ≤ 1000000) (hll : ll ≤ 1000000) :
    Calls Tryz.prog 53 #[.slice ab lb cb, .int .i64 size, .slice al ll cl] w fun e w' => ∃ v, e = .returned (.tuple #[v, .int .i64 (putE size bs.length l)]) ∧
      w'.ownsRow w.heap.size 5 1 v (putL size bs l).length (u8s (putL size bs l)) ∧ Below w.heap.size w w' := by
  have h1 := hb.1
  have h2 := hl.1
  cases hf : fitsB size l
  · have hE : putE size bs.length l = 1 := by simp [putE, hf]
    have hL : putL size bs l = [] := by simp [putL, hE]
    rw [hE, hL]
    refine (put_no ab al lb cb ll cl size l w hl hf).mono ?_
    rintro e w' ⟨rfl, rfl⟩
    exact ⟨_, rfl, World.ownsRow_nil _ _ _ _, Below.refl _ _⟩
  · by_cases hlong : 1280 < lb + size.toNat * ll
    · have hE : putE size bs.length l = 2 := by simp [putE, hf, h1, h2, hlong]
      have hL : putL size bs l = [] := by simp [putL, hE]
      rw [hE, hL]
      refine (put_long ab al lb cb ll cl size l w hl hf hlb hll hlong).mono ?_
      rintro e w' ⟨rfl, rfl⟩
      exact ⟨_, rfl, World.ownsRow_nil _ _ _ _, Below.refl _ _⟩
    · have hE : putE size bs.length l = 0 := by simp [putE, hf, h1, h2]; omega
      have hL : putL size bs l = bs ++ bytesOf size l := by simp [putL, hE]
      rw [hE, hL]
      refine (put_ok ab al lb cb ll cl size bs l w hb hl hf (by omega)).mono ?_
      rintro e w' ⟨v, rfl, h1, h2⟩
      exact ⟨v, rfl, h1, h2⟩

/-- A row of the call's own, as a slice of numbers. -/
theorem owns_liesk {kd : IntKind} {e : TypeId} {w : World} {base : Nat} {v : Value} {l : List Int} (h : w.ownsRow base e 1 v l.length (l.map (Value.int kd))) : ∃ a cap, v = .slice a l.length cap ∧ Lies kd w a l.length cap l := by
  rcases h.2 with ⟨rfl, hn⟩ | ⟨g, cap, cur, rfl, hb, hg, hnc, hcm, hcs, hx⟩
  · exact ⟨none, 0, by rw [hn], ⟨rfl, by omega, by decide, fun _ => rfl, fun k hk => by omega⟩⟩
  · refine ⟨_, cap, rfl, ⟨rfl, hnc, hcm, (fun h => by cases h), fun k hk => ⟨g, 0, rfl, ?_⟩⟩⟩
    rw [Nat.zero_add, cell_of_row w g k cur e (0, 0) hg]
    have h1 : (cur.toList.take (l.length * 1))[k]? = (l.map (Value.int kd))[k]? := by rw [hx]
    rw [List.getElem?_take, if_pos (by omega)] at h1
    simp [hk] at h1
    simp [h1, hk]

/-- The same bytes, of two rows of any length. -/
theorem same_any (a b : Option Addr) (la ca lb cb : Nat) (l m : List Int) (w : World) (ha : Lies .u8 w a la ca l) (hb : Lies .u8 w b lb cb m) :
    Calls Tryz.prog 12 #[.slice a la ca, .slice b lb cb] w fun e w' => e = .returned (.bool (l == m)) ∧ ∃ q, w' = w.drewN q := by
  by_cases h : la = lb
  · subst h; exact same_len a b la ca cb l m w ha hb
  · refine (same_no a b la ca lb cb w h).mono ?_
    rintro e w' ⟨rfl, rfl⟩
    refine ⟨ret_bool ?_, 0, rfl⟩
    symm
    rw [beq_eq_false_iff_ne]
    intro e; subst e
    exact h (ha.1.symm.trans hb.1)
end Go.Proofs.YtbklpelikaapoaaGreatDoor
