/- What the small functions of package pack answer: contracts, one a function. · What number and appendNumber answer: contracts. · What pack.Put answers: contracts. -/
import Derived.Test.YtbfjkhafdkhhmaaDoorRows
import Derived.WalkKit
import Derived.ProofKit
import Derived.OpenShut
import Derived.Handy
import Derived.Deep.QuietTactic
import Derived.BigQuiet
import Derived.WalkSpells
import Derived.Deep.AppendLies
namespace Go.Proofs.YtbfjkhafdkhhmaaDoor
open Go.ChangeShapes Go.WideShapes Go.ChangeAt Go.RowKit
set_option linter.unusedVariables false
set_option linter.unusedSimpArgs false

theorem ret_bool {a b : Bool} (h : a = b) : Ending.returned (.bool a) = .returned (.bool b) := by rw [h]
theorem ret_int {k : IntKind} {a b : Int} (h : a = b) : Ending.returned (.int k a) = .returned (.int k b) := by rw [h]

/-- Is it a size? -/
def sizeB (n : Int) : Bool := decide (n = 1 ∨ n = 2 ∨ n = 4)
theorem sizeB_cases {n : Int} (h : sizeB n = true) : n = 1 ∨ n = 2 ∨ n = 4 := by simpa [sizeB] using h
theorem sizeB_no {n : Int} (h : sizeB n = false) : n ≠ 1 ∧ n ≠ 2 ∧ n ≠ 4 := by simp [sizeB] at h; omega

theorem isSize_any (n : Int) (w : World) : Calls Tryd.prog 92 #[.int .i64 n] w fun e w' => e = .returned (.bool (sizeB n)) ∧ w' = w := by
  cases h : sizeB n
  · have h' := sizeB_no h
    have h1 : (n == 1) = false := by simp; omega
    have h2 : (n == 2) = false := by simp; omega
    have h4 : (n == 4) = false := by simp; omega
    clear h h'
    go_enter Tryd.func92, Tryd.ntmps92
    go_wp2
    go_ret
    exact ⟨rfl, rfl⟩
  · rcases sizeB_cases h with rfl | rfl | rfl
    all_goals
      clear h
      go_enter Tryd.func92, Tryd.ntmps92
      go_wp2
      go_ret
      exact ⟨rfl, rfl⟩

theorem refSize_any (n : Int) (w : World) : Calls Tryd.prog 68 #[.int .i64 n] w fun e w' => e = .returned (.bool (sizeB n)) ∧ w' = w := by
  cases h : sizeB n
  · have h' := sizeB_no h
    have h1 : (n == 1) = false := by simp; omega
    have h2 : (n == 2) = false := by simp; omega
    have h4 : (n == 4) = false := by simp; omega
    clear h h'
    go_enter Tryd.func68, Tryd.ntmps68
    go_wp2
    go_ret
    exact ⟨rfl, rfl⟩
  · rcases sizeB_cases h with rfl | rfl | rfl
    all_goals
      clear h
      go_enter Tryd.func68, Tryd.ntmps68
      go_wp2
      go_ret
      exact ⟨rfl, rfl⟩

/-- Up to where the numbers of a size go. -/
def top (size : Int) : Int := if size = 1 then 256 else if size = 2 then 65536 else 4294967296
def okB (size n : Int) : Bool := decide (0 ≤ n ∧ n < top size)

/-- Numbers in a slice: it is nil or leads to a row of cells of its length at least. -/
def Lies (kd : IntKind) (w : World) (a : Option Addr) (len cap : Nat) (l : List Int) : Prop :=
  l.length = len ∧ len ≤ cap ∧ cap ≤ maxLen ∧ (a = none → cap = 0) ∧ ∀ k, k < len → ∃ b off, a = some ⟨b, off, none⟩ ∧ w.cell? ⟨b, off + k, none⟩ = some (.int kd (l.getD k 0))

theorem all_take_succ (zs : List Int) (k : Nat) (h : k < zs.length) (p : Int → Bool) : (zs.take (k + 1)).all p = ((zs.take k).all p && p (zs.getD k 0)) := by
  rw [List.take_succ_eq_append_getElem h, List.all_append]; simp [h]

theorem all_false (zs : List Int) (k : Nat) (h : k < zs.length) (p : Int → Bool) (hp : p (zs.getD k 0) = false) : zs.all p = false := by
  rw [List.all_eq_false]; exact ⟨zs[k], List.getElem_mem h, by simpa [h] using hp⟩

theorem okB_cases (size n : Int) : okB size n = true ∨ n < 0 ∨ top size ≤ n := by
  simp [okB]; omega

set_option maxHeartbeats 400000 in
theorem fits_size1 (a : Option Addr) (len cap : Nat) (l : List Int) (w : World) (h : Lies .i64 w a len cap l) :
    Calls Tryd.prog 78 #[.int .i64 1, .slice a len cap] w fun e w' => e = .returned (.bool (l.all (okB 1))) ∧ w' = w := by
  obtain ⟨hl, hlc, hcm, _, hc⟩ := h
  unfold maxLen at hcm
  have HC : Hid _ := hc
  have HL : Hid (l.length = len) := hl
  have hp : ∀ n, okB 1 n = decide (0 ≤ n ∧ n < 256) := fun _ => rfl
  generalize okB 1 = P at hp ⊢
  have HP : Hid _ := hp
  clear hc hl hp
  go_enter Tryd.func78, Tryd.ntmps78
  go_wp2_with (go_at_call 92; refine (isSize_any _ _).mono ?_; rintro e w ⟨rfl, rfl⟩; rw [show sizeB _ = true from rfl])
  go_loop [12] (fun i => ∃ k : Nat, k ≤ len ∧ i = .int .i64 k ∧ Hid ((l.take k).all P = true)) (fun i => len - (intOf i).toNat)
  case atStart => exact ⟨0, Nat.zero_le _, rfl, rfl⟩
  case round =>
    obtain ⟨k, hk, rfl, hall⟩ := hrel
    by_cases hlt : k < len
    · obtain ⟨b, off, rfl, hcell⟩ := HC.out k hlt
      have hs := all_take_succ l k (by rw [HL.out]; exact hlt) P
      have hf : P (l.getD k 0) = false → l.all P = false := all_false l k (by rw [HL.out]; exact hlt) P
      generalize hz : l.getD k 0 = z at hcell hs hf
      have HS : Hid ((l.take (k + 1)).all P = ((l.take k).all P && P z)) := hs
      have HF : Hid (P z = false → l.all P = false) := hf
      have HZ : Hid (P z = _) := HP.out z
      clear hz hs hf HP
      by_cases h0 : z < 0
      · go_wp2
        go_ret
        exact ⟨ret_bool (HF.out (by rw [HZ.out]; simp; omega)).symm, rfl⟩
      · by_cases h1 : z < 256
        · have hq : (z / 256 != 0) = false := by simp; omega
          go_wp2
          go_round
          case rel => exact ⟨k + 1, by omega, by go_num, by rw [Hid, HS.out, hall.out, HZ.out]; simp; omega⟩
          case measure => simp [intOf]; omega
        · have hq : (z / 256 != 0) = true := by rw [bne_iff_ne]; omega
          go_wp2
          go_ret
          exact ⟨ret_bool (HF.out (by rw [HZ.out]; simp; omega)).symm, rfl⟩
    · go_wp2
      go_ret
      exact ⟨ret_bool (by have := hall.out; rwa [List.take_of_length_le (by rw [HL.out]; omega), eq_comm] at this), rfl⟩

set_option maxHeartbeats 400000 in
theorem fits_size2 (a : Option Addr) (len cap : Nat) (l : List Int) (w : World) (h : Lies .i64 w a len cap l) :
    Calls Tryd.prog 78 #[.int .i64 2, .slice a len cap] w fun e w' => e = .returned (.bool (l.all (okB 2))) ∧ w' = w := by
  obtain ⟨hl, hlc, hcm, _, hc⟩ := h
  unfold maxLen at hcm
  have HC : Hid _ := hc
  have HL : Hid (l.length = len) := hl
  have hp : ∀ n, okB 2 n = decide (0 ≤ n ∧ n < 65536) := fun _ => rfl
  generalize okB 2 = P at hp ⊢
  have HP : Hid _ := hp
  clear hc hl hp
  go_enter Tryd.func78, Tryd.ntmps78
  go_wp2_with (go_at_call 92; refine (isSize_any _ _).mono ?_; rintro e w ⟨rfl, rfl⟩; rw [show sizeB _ = true from rfl])
  go_loop [12] (fun i => ∃ k : Nat, k ≤ len ∧ i = .int .i64 k ∧ Hid ((l.take k).all P = true)) (fun i => len - (intOf i).toNat)
  case atStart => exact ⟨0, Nat.zero_le _, rfl, rfl⟩
  case round =>
    obtain ⟨k, hk, rfl, hall⟩ := hrel
    by_cases hlt : k < len
    · obtain ⟨b, off, rfl, hcell⟩ := HC.out k hlt
      have hs := all_take_succ l k (by rw [HL.out]; exact hlt) P
      have hf : P (l.getD k 0) = false → l.all P = false := all_false l k (by rw [HL.out]; exact hlt) P
      generalize hz : l.getD k 0 = z at hcell hs hf
      have HS : Hid ((l.take (k + 1)).all P = ((l.take k).all P && P z)) := hs
      have HF : Hid (P z = false → l.all P = false) := hf
      have HZ : Hid (P z = _) := HP.out z
      clear hz hs hf HP
      by_cases h0 : z < 0
      · go_wp2
        go_ret
        exact ⟨ret_bool (HF.out (by rw [HZ.out]; simp; omega)).symm, rfl⟩
      · by_cases h1 : z < 65536
        · have hq : (z / 65536 != 0) = false := by simp; omega
          go_wp2
          go_round
          case rel => exact ⟨k + 1, by omega, by go_num, by rw [Hid, HS.out, hall.out, HZ.out]; simp; omega⟩
          case measure => simp [intOf]; omega
        · have hq : (z / 65536 != 0) = true := by rw [bne_iff_ne]; omega
          go_wp2
          go_ret
          exact ⟨ret_bool (HF.out (by rw [HZ.out]; simp; omega)).symm, rfl⟩
    · go_wp2
      go_ret
      exact ⟨ret_bool (by have := hall.out; rwa [List.take_of_length_le (by rw [HL.out]; omega), eq_comm] at this), rfl⟩

set_option maxHeartbeats 400000 in
theorem fits_size4 (a : Option Addr) (len cap : Nat) (l : List Int) (w : World) (h : Lies .i64 w a len cap l) :
    Calls Tryd.prog 78 #[.int .i64 4, .slice a len cap] w fun e w' => e = .returned (.bool (l.all (okB 4))) ∧ w' = w := by
  obtain ⟨hl, hlc, hcm, _, hc⟩ := h
  unfold maxLen at hcm
  have HC : Hid _ := hc
  have HL : Hid (l.length = len) := hl
  have hp : ∀ n, okB 4 n = decide (0 ≤ n ∧ n < 4294967296) := fun _ => rfl
  generalize okB 4 = P at hp ⊢
  have HP : Hid _ := hp
  clear hc hl hp
  go_enter Tryd.func78, Tryd.ntmps78
  go_wp2_with (go_at_call 92; refine (isSize_any _ _).mono ?_; rintro e w ⟨rfl, rfl⟩; rw [show sizeB _ = true from rfl])
  go_loop [12] (fun i => ∃ k : Nat, k ≤ len ∧ i = .int .i64 k ∧ Hid ((l.take k).all P = true)) (fun i => len - (intOf i).toNat)
  case atStart => exact ⟨0, Nat.zero_le _, rfl, rfl⟩
  case round =>
    obtain ⟨k, hk, rfl, hall⟩ := hrel
    by_cases hlt : k < len
    · obtain ⟨b, off, rfl, hcell⟩ := HC.out k hlt
      have hs := all_take_succ l k (by rw [HL.out]; exact hlt) P
      have hf : P (l.getD k 0) = false → l.all P = false := all_false l k (by rw [HL.out]; exact hlt) P
      generalize hz : l.getD k 0 = z at hcell hs hf
      have HS : Hid ((l.take (k + 1)).all P = ((l.take k).all P && P z)) := hs
      have HF : Hid (P z = false → l.all P = false) := hf
      have HZ : Hid (P z = _) := HP.out z
      clear hz hs hf HP
      by_cases h0 : z < 0
      · go_wp2
        go_ret
        exact ⟨ret_bool (HF.out (by rw [HZ.out]; simp; omega)).symm, rfl⟩
      · by_cases h1 : z < 4294967296
        · have hq : (z / 4294967296 != 0) = false := by simp; omega
          go_wp2
          go_round
          case rel => exact ⟨k + 1, by omega, by go_num, by rw [Hid, HS.out, hall.out, HZ.out]; simp; omega⟩
          case measure => simp [intOf]; omega
        · have hq : (z / 4294967296 != 0) = true := by rw [bne_iff_ne]; omega
          go_wp2
          go_ret
          exact ⟨ret_bool (HF.out (by rw [HZ.out]; simp; omega)).symm, rfl⟩
    · go_wp2
      go_ret
      exact ⟨ret_bool (by have := hall.out; rwa [List.take_of_length_le (by rw [HL.out]; omega), eq_comm] at this), rfl⟩

theorem fits_size (size : Int) (a : Option Addr) (len cap : Nat) (l : List Int) (w : World) (hz : size = 1 ∨ size = 2 ∨ size = 4) (h : Lies .i64 w a len cap l) :
    Calls Tryd.prog 78 #[.int .i64 size, .slice a len cap] w fun e w' => e = .returned (.bool (l.all (okB size))) ∧ w' = w := by
  rcases hz with rfl | rfl | rfl
  · exact fits_size1 a len cap l w h
  · exact fits_size2 a len cap l w h
  · exact fits_size4 a len cap l w h

def fitsB (size : Int) (l : List Int) : Bool := sizeB size && l.all (okB size)

theorem fits_any (size : Int) (a : Option Addr) (len cap : Nat) (l : List Int) (w : World) (h : Lies .i64 w a len cap l) :
    Calls Tryd.prog 78 #[.int .i64 size, .slice a len cap] w fun e w' => e = .returned (.bool (fitsB size l)) ∧ w' = w := by
  cases hz : sizeB size
  · have HF : Hid (fitsB size l = false) := by simp [Hid, fitsB, hz]
    clear h
    go_enter Tryd.func78, Tryd.ntmps78
    go_wp2_with (go_at_call 92; refine (isSize_any _ _).mono ?_; rintro e w ⟨rfl, rfl⟩)
    go_ret
    exact ⟨ret_bool HF.out.symm, rfl⟩
  · refine (fits_size size a len cap l w (sizeB_cases hz) h).mono ?_
    rintro e w' ⟨rfl, rfl⟩
    exact ⟨ret_bool (by simp [fitsB, hz]), rfl⟩

def sameB (l m : List Int) : Bool := l == m

theorem same_no (a b : Option Addr) (la ca lb cb : Nat) (w : World) (h : la ≠ lb) :
    Calls Tryd.prog 15 #[.slice a la ca, .slice b lb cb] w fun e w' => e = .returned (.bool false) ∧ w' = w := by
  have hne : ((la : Int) != (lb : Int)) = true := by rw [bne_iff_ne]; omega
  clear h
  go_enter Tryd.func15, Tryd.ntmps15
  go_wp2
  go_ret
  exact ⟨rfl, rfl⟩

theorem take_differ (l m : List Int) (k : Nat) (h : k < l.length) (hm : k < m.length) (hne : l.getD k 0 ≠ m.getD k 0) : (l == m) = false := by
  rw [beq_eq_false_iff_ne]
  intro he
  subst he
  exact hne rfl

theorem take_same (l m : List Int) (k : Nat) (h : k < l.length) (hm : k < m.length) (hs : l.take k = m.take k) (he : l.getD k 0 = m.getD k 0) : l.take (k + 1) = m.take (k + 1) := by
  rw [List.take_succ_eq_append_getElem h, List.take_succ_eq_append_getElem hm, hs]
  simp [h, hm] at he
  rw [he]

set_option maxHeartbeats 400000 in
theorem same_len (a b : Option Addr) (n ca cb : Nat) (l m : List Int) (w : World) (ha : Lies .u8 w a n ca l) (hb : Lies .u8 w b n cb m) :
    Calls Tryd.prog 15 #[.slice a n ca, .slice b n cb] w fun e w' => e = .returned (.bool (l == m)) ∧ ∃ q, w' = w.drewN q := by
  obtain ⟨hl, hlc, hcm, _, hc⟩ := ha
  obtain ⟨hl2, hlc2, hcm2, _, hc2⟩ := hb
  unfold maxLen at hcm hcm2
  have HC : Hid _ := hc
  have HL : Hid (l.length = n) := hl
  have HC2 : Hid _ := hc2
  have HL2 : Hid (m.length = n) := hl2
  clear hc hl hc2 hl2
  go_enter Tryd.func15, Tryd.ntmps15
  go_wp2
  go_loopw [5] (fun i wr => ∃ k : Nat, k ≤ n ∧ i = .int .i64 k ∧ Hid (l.take k = m.take k) ∧ ∃ q, wr = w.drewN q) (fun i _ => n - (intOf i).toNat)
  case atStart => exact ⟨0, Nat.zero_le _, rfl, rfl, 0, rfl⟩
  case round =>
    obtain ⟨k, hk, rfl, hall, q, rfl⟩ := hrel
    by_cases hlt : k < n
    · obtain ⟨b1, off1, rfl, hcell1⟩ := HC.out k hlt
      obtain ⟨b2, off2, rfl, hcell2⟩ := HC2.out k hlt
      have HD : Hid (l.getD k 0 ≠ m.getD k 0 → (l == m) = false) := take_differ l m k (by rw [HL.out]; exact hlt) (by rw [HL2.out]; exact hlt)
      have HS : Hid (l.getD k 0 = m.getD k 0 → l.take (k + 1) = m.take (k + 1)) := take_same l m k (by rw [HL.out]; exact hlt) (by rw [HL2.out]; exact hlt) hall.out
      have hlt' : (k : Int) < (n : Int) := by omega
      generalize l.getD k 0 = x at *
      generalize m.getD k 0 = y at *
      go_wp2
      go_quiet (fail)
      by_cases hxy : x = y
      · have hb : (x != y) = false := by simp [hxy]
        have HX : Hid (x = y) := hxy
        clear hxy
        go_wp2
        go_roundw
        case rel => exact ⟨k + 1, by omega, by go_num, HS.out HX.out, q + nq, rfl⟩
        case measure => simp [intOf]; omega
      · have hb : (x != y) = true := by rw [bne_iff_ne]; exact hxy
        go_wp2
        go_ret
        exact ⟨ret_bool (HD.out hxy).symm, q + nq, World.drewN_drewN ..⟩
    · obtain rfl : k = n := by omega
      go_wp2
      go_ret
      refine ⟨ret_bool ?_, q, rfl⟩
      have h1 : l.take k = l := List.take_of_length_le (by rw [HL.out]; exact Nat.le_refl _)
      have h2 : m.take k = m := List.take_of_length_le (by rw [HL2.out]; exact Nat.le_refl _)
      have := hall.out
      rw [h1, h2] at this
      simp [this]
end Go.Proofs.YtbfjkhafdkhhmaaDoor

namespace Go.Proofs.YtbfjkhafdkhhmaaDoor
open Go.ChangeShapes Go.WideShapes Go.ChangeAt Go.RowKit
set_option linter.unusedVariables false
set_option linter.unusedSimpArgs false

/-- The number that bytes are, the highest one first. -/
def numOf (l : List Int) : Int := l.foldl (fun n x => 256 * n + x) 0
def Oct (l : List Int) : Prop := ∀ x ∈ l, 0 ≤ x ∧ x < 256

theorem numOf_snoc (l : List Int) (k : Nat) (h : k < l.length) : numOf (l.take (k + 1)) = 256 * numOf (l.take k) + l.getD k 0 := by
  rw [List.take_succ_eq_append_getElem h, numOf, List.foldl_append]; simp [numOf, h]

theorem Oct.at {l : List Int} (h : Oct l) (k : Nat) (hk : k < l.length) : 0 ≤ l.getD k 0 ∧ l.getD k 0 < 256 := by
  have := h l[k] (List.getElem_mem hk)
  simpa [hk] using this

theorem numOf_bd (l : List Int) (h : Oct l) : ∀ k, k ≤ l.length → 0 ≤ numOf (l.take k) ∧ numOf (l.take k) < 256 ^ k
  | 0, _ => by simp [numOf]
  | k + 1, hk => by
    have ih := numOf_bd l h k (by omega)
    have hx := h.at k (by omega)
    rw [numOf_snoc l k (by omega), Int.pow_succ]
    omega

theorem pow_le3 (k : Nat) (h : k ≤ 3) : (256 : Int) ^ k ≤ 16777216 := by
  match k, h with
  | 0, _ => decide
  | 1, _ => decide
  | 2, _ => decide
  | 3, _ => decide

theorem wraps_i64 (n : Int) (h₀ : 0 ≤ n) (h₁ : n < 2 ^ 62) : IntKind.i64.wrap n = n := by rw [IntKind.wrap_i64]; omega
theorem or8 (n x : Int) (h0 : 0 ≤ n) (h : n < 16777216) (hx0 : 0 ≤ x) (hx : x < 256) : bits .or .i64 (n * 256) x = 256 * n + x := by
  rw [bits_join .i64 62 (by decide) wraps_i64 8 (n * 256) x (by omega) (by omega) (by omega) hx0 hx (by omega)]; omega

set_option maxHeartbeats 400000 in
theorem number_any (a : Option Addr) (len cap : Nat) (l : List Int) (w : World) (h : Lies .u8 w a len cap l) (h4 : len ≤ 4) (ho : Oct l) :
    Calls Tryd.prog 97 #[.slice a len cap] w fun e w' => e = .returned (.int .i64 (numOf l)) ∧ w' = w := by
  obtain ⟨hl, hlc, hcm, _, hc⟩ := h
  unfold maxLen at hcm
  have HC : Hid _ := hc
  have HL : Hid (l.length = len) := hl
  have HO : Hid (Oct l) := ho
  clear hc hl ho
  go_enter Tryd.func97, Tryd.ntmps97
  go_wp2
  go_loop [3, 8] (fun v i => ∃ k : Nat, k ≤ len ∧ i = .int .i64 k ∧ v = .int .i64 (numOf (l.take k))) (fun _ i => len - (intOf i).toNat)
  case atStart => exact ⟨0, Nat.zero_le _, rfl, rfl⟩
  case round =>
    obtain ⟨k, hk, rfl, rfl⟩ := hrel
    by_cases hlt : k < len
    · obtain ⟨b, off, rfl, hcell⟩ := HC.out k hlt
      have hx := HO.out.at k (by rw [HL.out]; exact hlt)
      have hn := numOf_bd l HO.out k (by rw [HL.out]; omega)
      have hp := pow_le3 k (by omega)
      have HS : Hid _ := numOf_snoc l k (by rw [HL.out]; exact hlt)
      generalize (256 : Int) ^ k = P at *
      generalize numOf (l.take k) = n at *
      generalize l.getD k 0 = x at *
      have hn' : n < 16777216 := by omega
      clear hp
      go_wp2
      go_round
      case rel => exact ⟨k + 1, by omega, by go_num, by rw [HS.out, or8 n x hn.1 hn' hx.1 hx.2]⟩
      case measure => simp [intOf]; omega
    · obtain rfl : k = len := by omega
      go_wp2
      go_ret
      exact ⟨ret_int (by rw [List.take_of_length_le (by rw [HL.out]; omega)]), rfl⟩

/-- A number's bytes, the highest first. -/
def digs (size n : Int) : List Int := (if size = 4 then [n / 16777216 % 256, n / 65536 % 256] else []) ++ ((if size = 1 then [] else [n / 256 % 256]) ++ [n % 256])
def u8s (l : List Int) : List Value := l.map (Value.int .u8)

theorem info5 : (Tryd.prog.info? 5).map (fun i => (i.zero, i.size, i.bytes)) = some (some (.int .u8 0), 1, 1) := by kernel_rfl
theorem info3 : (Tryd.prog.info? 3).map (fun i => (i.zero, i.size, i.bytes)) = some (some (.int .i64 0), 1, 8) := by kernel_rfl

theorem Below.alloc0 {base : Nat} {w : World} (hb : base ≤ w.heap.size) (o : Obj) : Below base w (w.alloc o) := (Below.refl _ _).alloc hb o

/-- An append of what was just laid down, byte by byte, onto a row of the call's own. -/
theorem wpList_push {ops : Array Oper} {rest : List Oper} {o : Oper} {a : Act} {Q : Exit → Act → World → Prop} {w : World} {cs : Array Value} {base m : Nat} {v : Value} {xs : List Value} (hgd : o.guard = none) (s x : Operand)
    (ho : o.op = .call { callee := .builtin .append, args := #[s, x], argTypes := #[33, 33] }) (hs : a.eval s = v) (hx : a.eval x = .slice (some ⟨w.heap.size, 0, none⟩) cs.size cs.size)
    (hown : w.ownsRow base 5 1 v m xs) (h1 : ∀ u ∈ cs.toList, u.oneCell' = true) (hb : base ≤ w.heap.size) (hm : m + cs.size ≤ 200000)
    (h : ∀ v' w', w'.ownsRow base 5 1 v' (m + cs.size) (xs ++ cs.toList) → Below base w w' → wpList Tryd.prog ops Q rest (a.put o.dst v') w') :
    wpList Tryd.prog ops Q (o :: rest) a (w.alloc (.cells cs 5)) := by
  obtain ⟨i0, hi, hz0, hz1, hz2⟩ := info_parts info5
  refine wpList_append_own _ hgd s x 33 ho base 5 i0 (.int .u8 0) 1 1 Tryd.underlying33 hi hz0 hz1 hz2 rfl (by decide) v m xs hs (hown.alloc _) ⟨w.heap.size, 0, none⟩ cs.size cs.size cs.toList hx (by simp) ?_ h1 (by unfold maxLen; omega) (by omega) (by simp; omega) ?_
  · intro j u hj
    exact World.news_of_block (heap_alloc_new w _) j u hj
  · intro v' w' h2 h3 _
    refine h v' w' h2 (Below.grown ((Below.refl _ _).alloc hb _) h3 (by simp; omega) ?_)
    intro k hk
    exact (hown.lt k hk).1

theorem push_one {a b : Value} {cs : Array Value} (ha : a.oneCell' = true) : ∀ u ∈ (#[a] : Array Value).toList, u.oneCell' = true := by
  intro u hu; simp at hu; subst hu; exact ha
theorem push_two {a b : Value} (ha : a.oneCell' = true) (hb : b.oneCell' = true) : ∀ u ∈ (#[a, b] : Array Value).toList, u.oneCell' = true := by
  intro u hu; simp at hu; rcases hu with rfl | rfl; exact ha; exact hb

theorem appendNumber1 (n : Int) (v : Value) (m base : Nat) (xs : List Value) (w : World) (hb : base ≤ w.heap.size) (hm : m ≤ 100000) (hown : w.ownsRow base 5 1 v m xs) (h0 : 0 ≤ n) (hn : n < 256) :
    Calls Tryd.prog 79 #[v, .int .i64 1, .int .i64 n] w fun e w' => ∃ v', e = .returned v' ∧ w'.ownsRow base 5 1 v' (m + 1) (xs ++ u8s (digs 1 n)) ∧ Below base w w' := by
  have HD : Hid (u8s (digs 1 n) = [.int .u8 n]) := by simp [Hid, u8s, digs]; omega
  go_enter Tryd.func79, Tryd.ntmps79
  go_wp2_with (at_builtin; refine wpList_push rfl _ _ rfl rfl rfl hown ?_ hb ?_ ?_)
  case refine_1 => first | rfl | exact ⟨rfl, rfl⟩
  case refine_2 => simp; omega
  intro v1 w1 hown1 hb1
  go_wp2
  go_ret
  exact ⟨_, rfl, by rw [HD.out]; simpa using hown1, hb1⟩

set_option maxHeartbeats 400000 in
theorem appendNumber2 (n : Int) (v : Value) (m base : Nat) (xs : List Value) (w : World) (hb : base ≤ w.heap.size) (hm : m ≤ 100000) (hown : w.ownsRow base 5 1 v m xs) (h0 : 0 ≤ n) (hn : n < 65536) :
    Calls Tryd.prog 79 #[v, .int .i64 2, .int .i64 n] w fun e w' => ∃ v', e = .returned v' ∧ w'.ownsRow base 5 1 v' (m + 2) (xs ++ u8s (digs 2 n)) ∧ Below base w w' := by
  have HD : Hid (u8s (digs 2 n) = [.int .u8 (n / 256), .int .u8 (n % 256)]) := by simp [Hid, u8s, digs]; omega
  go_enter Tryd.func79, Tryd.ntmps79
  go_wp2_with (at_builtin; refine wpList_push rfl _ _ rfl rfl rfl hown ?_ hb ?_ ?_)
  case refine_1 => first | rfl | exact ⟨rfl, rfl⟩
  case refine_2 => simp; omega
  intro v1 w1 hown1 hb1
  go_wp2_with (at_builtin; refine wpList_push rfl _ _ rfl rfl rfl hown1 ?_ ?_ ?_ ?_)
  case refine_1 => first | rfl | exact ⟨rfl, rfl⟩
  case refine_2 => have := hb1.size; omega
  case refine_3 => simp; omega
  intro v2 w2 hown2 hb2
  go_wp2
  go_ret
  refine ⟨_, rfl, ?_, hb1.trans hb2⟩
  rw [HD.out]
  simpa using hown2
set_option maxHeartbeats 400000 in
theorem appendNumber4 (n : Int) (v : Value) (m base : Nat) (xs : List Value) (w : World) (hb : base ≤ w.heap.size) (hm : m ≤ 100000) (hown : w.ownsRow base 5 1 v m xs) (h0 : 0 ≤ n) (hn : n < 4294967296) :
    Calls Tryd.prog 79 #[v, .int .i64 4, .int .i64 n] w fun e w' => ∃ v', e = .returned v' ∧ w'.ownsRow base 5 1 v' (m + 4) (xs ++ u8s (digs 4 n)) ∧ Below base w w' := by
  have HD : Hid (u8s (digs 4 n) = [.int .u8 (n / 16777216), .int .u8 (n / 65536 % 256), .int .u8 (n / 256 % 256), .int .u8 (n % 256)]) := by simp [Hid, u8s, digs]; omega
  go_enter Tryd.func79, Tryd.ntmps79
  go_wp2_with (at_builtin; refine wpList_push rfl _ _ rfl rfl rfl hown ?_ hb ?_ ?_)
  case refine_1 => first | rfl | exact ⟨rfl, rfl⟩
  case refine_2 => simp; omega
  intro v1 w1 hown1 hb1
  go_wp2_with (at_builtin; refine wpList_push rfl _ _ rfl rfl rfl hown1 ?_ ?_ ?_ ?_)
  case refine_1 => first | rfl | exact ⟨rfl, rfl⟩
  case refine_2 => have := hb1.size; omega
  case refine_3 => simp; omega
  intro v2 w2 hown2 hb2
  go_wp2_with (at_builtin; refine wpList_push rfl _ _ rfl rfl rfl hown2 ?_ ?_ ?_ ?_)
  case refine_1 => first | rfl | exact ⟨rfl, rfl⟩
  case refine_2 => have := hb1.size; have := hb2.size; omega
  case refine_3 => simp; omega
  intro v3 w3 hown3 hb3
  go_wp2
  go_ret
  refine ⟨_, rfl, ?_, hb1.trans (hb2.trans hb3)⟩
  rw [HD.out]
  simpa using hown3

/-- Numbers of a size fit, and 'appendNumber' writes their bytes. -/
theorem appendNumber_any (size n : Int) (v : Value) (m base : Nat) (xs : List Value) (w : World) (hz : sizeB size = true) (hb : base ≤ w.heap.size) (hm : m ≤ 100000) (hown : w.ownsRow base 5 1 v m xs) (hn : okB size n = true) :
    Calls Tryd.prog 79 #[v, .int .i64 size, .int .i64 n] w fun e w' => ∃ v', e = .returned v' ∧ w'.ownsRow base 5 1 v' (m + (digs size n).length) (xs ++ u8s (digs size n)) ∧ Below base w w' := by
  rcases sizeB_cases hz with rfl | rfl | rfl
  all_goals
    simp [okB, top] at hn
  · exact appendNumber1 n v m base xs w hb hm hown hn.1 hn.2
  · exact appendNumber2 n v m base xs w hb hm hown hn.1 hn.2
  · exact appendNumber4 n v m base xs w hb hm hown hn.1 hn.2
end Go.Proofs.YtbfjkhafdkhhmaaDoor

namespace Go.Proofs.YtbfjkhafdkhhmaaDoor
open Go.ChangeShapes Go.WideShapes Go.ChangeAt Go.RowKit
set_option linter.unusedVariables false
set_option linter.unusedSimpArgs false

/-- All numbers' bytes, one behind the other. -/
def bytesOf (size : Int) (l : List Int) : List Int := l.flatMap (digs size)

theorem digs_length (size n : Int) (h : sizeB size = true) : (digs size n).length = size.toNat := by
  rcases sizeB_cases h with rfl | rfl | rfl <;> rfl
theorem digs_oct (size n : Int) : Oct (digs size n) := by
  intro x hx
  unfold digs at hx
  split at hx <;> split at hx <;> simp at hx <;> (repeat' (first | (rcases hx with rfl | hx) | subst hx)) <;> omega
theorem bytesOf_snoc (size : Int) (l : List Int) (k : Nat) (h : k < l.length) : bytesOf size (l.take (k + 1)) = bytesOf size (l.take k) ++ digs size (l.getD k 0) := by
  rw [bytesOf, bytesOf, List.take_succ_eq_append_getElem h, List.flatMap_append]; congr 1; simp [h]
theorem bytesOf_length (size : Int) (l : List Int) (h : sizeB size = true) : (bytesOf size l).length = size.toNat * l.length := by
  induction l with
  | nil => simp [bytesOf]
  | cons x l ih => simp only [bytesOf, List.flatMap_cons, List.length_append] at ih ⊢; rw [ih, digs_length size x h]; simp [Nat.mul_add, Nat.add_comm]
theorem bytesOf_oct (size : Int) (l : List Int) : Oct (bytesOf size l) := by
  intro x hx
  simp [bytesOf, List.mem_flatMap] at hx
  obtain ⟨y, _, hx⟩ := hx
  exact digs_oct size y x hx
theorem Oct.app {l m : List Int} (h : Oct l) (k : Oct m) : Oct (l ++ m) := by
  intro x hx; rcases List.mem_append.1 hx with h' | h'
  · exact h x h'
  · exact k x h'

theorem Lies.isNil {kd : IntKind} {w : World} {a : Option Addr} {len cap : Nat} {l : List Int} (h : Lies kd w a len cap l) : a = none → len = 0 ∧ cap = 0 := fun ha => by
  have := h.2.2.2.1 ha; have := h.2.1; omega
theorem Lies.cells {kd : IntKind} {w : World} {a : Option Addr} {len cap : Nat} {l : List Int} (h : Lies kd w a len cap l) : ∀ ad, a = some ad → ∀ j u, (l.map (Value.int kd))[j]? = some u → w.cell? (ad.add j) = some u := by
  intro ad ha j u hj
  have hj' : j < l.length := by have := (List.getElem?_eq_some_iff.1 hj).1; simpa using this
  obtain ⟨b, off, he, hc⟩ := h.2.2.2.2 j (by rw [← h.1]; exact hj')
  rw [ha] at he
  obtain rfl := Option.some.inj he
  rw [Addr.add_lit, hc]
  simp [List.getElem?_eq_getElem hj'] at hj
  simp [hj', hj]
theorem ints_oneCell8 (l : List Int) (kd : IntKind) : ∀ u ∈ l.map (Value.int kd), u.oneCell' = true := by
  intro u hu; simp at hu; obtain ⟨x, _, rfl⟩ := hu; rfl
/-- What was there stays as it was. -/
theorem Lies.below {kd : IntKind} {w w' : World} {a : Option Addr} {len cap : Nat} {l : List Int} (h : Lies kd w a len cap l) (hb : Below w.heap.size w w') : Lies kd w' a len cap l := by
  refine ⟨h.1, h.2.1, h.2.2.1, h.2.2.2.1, fun k hk => ?_⟩
  obtain ⟨b, off, he, hc⟩ := h.2.2.2.2 k hk
  exact ⟨b, off, he, (hb.cell (p := ⟨b, off + k, none⟩) (World.block_lt_of_cell? w _ hc)).trans hc⟩

theorem put_no (ab al : Option Addr) (lb cb ll cl : Nat) (size : Int) (l : List Int) (w : World) (hl : Lies .i64 w al ll cl l) (hf : fitsB size l = false) :
    Calls Tryd.prog 55 #[.slice ab lb cb, .int .i64 size, .slice al ll cl] w fun e w' => e = .returned (.tuple #[.slice none 0 0, .int .i64 1]) ∧ w' = w := by
  have HL : Hid _ := hl
  clear hl
  go_enter Tryd.func55, Tryd.ntmps55
  go_wp2_with (go_at_call 78; refine (fits_any _ _ _ _ l _ HL.out).mono ?_; rintro e w ⟨rfl, rfl⟩)
  go_ret2
  exact ⟨rfl, rfl⟩

theorem put_long (ab al : Option Addr) (lb cb ll cl : Nat) (size : Int) (l : List Int) (w : World) (hl : Lies .i64 w al ll cl l) (hf : fitsB size l = true) (hlb : lb ≤ 1000000) (hll : ll ≤ 1000000) (hlong : 1280 < lb + size.toNat * ll) :
    Calls Tryd.prog 55 #[.slice ab lb cb, .int .i64 size, .slice al ll cl] w fun e w' => e = .returned (.tuple #[.slice none 0 0, .int .i64 2]) ∧ w' = w := by
  have HL : Hid _ := hl
  clear hl
  have hz : sizeB size = true := by simp [fitsB] at hf; exact hf.1
  rcases sizeB_cases hz with rfl | rfl | rfl
  all_goals
    simp at hlong
    have HF : Hid _ := hf
    have hlong' : (1280 : Int) < _ := Int.ofNat_lt.2 hlong
    clear hz
    go_enter Tryd.func55, Tryd.ntmps55
    go_wp2_with (go_at_call 78; refine (fits_any _ _ _ _ l _ HL.out).mono ?_; rintro e w ⟨rfl, rfl⟩; rw [HF.out])
    all_goals (try (exfalso; omega))
    go_ret2
    exact ⟨rfl, rfl⟩

theorem ownsRow_u8 {w : World} {base n m : Nat} {v : Value} {xs ys : List Value} (h : w.ownsRow base 5 1 v n xs) (hn : n = m) (hx : xs = ys) : w.ownsRow base 5 1 v m ys := by subst hn; subst hx; exact h

set_option maxHeartbeats 800000 in
theorem put_ok (ab al : Option Addr) (lb cb ll cl : Nat) (size : Int) (bs l : List Int) (w : World) (hb : Lies .u8 w ab lb cb bs) (hl : Lies .i64 w al ll cl l) (hf : fitsB size l = true) (hlb : lb + size.toNat * ll ≤ 1280) :
    Calls Tryd.prog 55 #[.slice ab lb cb, .int .i64 size, .slice al ll cl] w fun e w' => ∃ v, e = .returned (.tuple #[v, .int .i64 0]) ∧
      w'.ownsRow w.heap.size 5 1 v (bs ++ bytesOf size l).length (u8s (bs ++ bytesOf size l)) ∧ Below w.heap.size w w' := by
  have hz : sizeB size = true := by simp [fitsB] at hf; exact hf.1
  have hall : ∀ x ∈ l, okB size x = true := by simp [fitsB, hz] at hf; exact hf
  obtain ⟨i0, hi, hz0, hz1, hz2⟩ := info_parts info5
  have HB : Hid (Lies .u8 w ab lb cb bs) := hb
  have HL : Hid (Lies .i64 w al ll cl l) := hl
  have HA : Hid _ := hall
  have HZ : Hid _ := hz
  have hmul : (size * ll : Int) = ((size.toNat * ll : Nat) : Int) := by
    have : (size.toNat : Int) = size := by rcases sizeB_cases hz with rfl | rfl | rfl <;> rfl
    rw [Int.natCast_mul, this]
  have hs14 : 1 ≤ size ∧ size ≤ 4 := by rcases sizeB_cases hz with rfl | rfl | rfl <;> omega
  have hll : ll ≤ 1280 := by
    have : 1 * ll ≤ size.toNat * ll := Nat.mul_le_mul_right _ (by omega)
    omega
  clear hb hl hall hz
  have HQ : Hid (∀ k, k ≤ ll → (bs ++ bytesOf size (l.take k)).length ≤ lb + size.toNat * ll) := by
    intro k hk
    rw [List.length_append, bytesOf_length _ _ HZ.out, HB.out.1]
    have : size.toNat * (l.take k).length ≤ size.toNat * ll := Nat.mul_le_mul_left _ (by simp; omega)
    omega
  generalize size.toNat * ll = q at *
  have hdec : decide ((1280 : Int) < (lb : Int) + (q : Int)) = false := by simp; omega
  go_enter Tryd.func55, Tryd.ntmps55
  go_wp2_with (first | (go_at_call 78; refine (fits_any _ _ _ _ l _ HL.out).mono ?_; rintro e w ⟨rfl, rfl⟩; rw [hf]) | (at_make; refine wpList_make_own _ rfl _ _ 33 rfl w.heap.size 5 i0 (.int .u8 0) 1 Tryd.underlying33 hi hz0 hz1 .i64 .i64 _ (lb + q) rfl rfl (by omega) ?b1 ?b2 ?b3 ?_))
  case b1 => rw [hz2]; omega
  case b2 => unfold maxLen; omega
  case b3 => exact Nat.le_refl _
  intro w1 hown1 hg1
  have hb1 : Below w.heap.size w w1 := Below.grown (Below.refl _ _) hg1 (Nat.le_refl _) (fun k hk => by cases hk)
  have hl1 := HB.out.below hb1
  go_wp2_with (at_builtin; refine wpList_append_fits_any _ rfl _ _ 33 rfl w.heap.size 5 i0 1 Tryd.underlying33 hi hz1 w.heap.size 0 (lb + q) [] rfl hown1 ab lb cb (u8s bs) rfl ?c1 hl1.isNil hl1.cells (ints_oneCell8 _ _) ?c2 ?_)
  case c1 => simp [u8s, hl1.1]
  case c2 => omega
  intro w2 hown2 hg2
  have hb2 : Below w.heap.size w w2 := Below.grown hb1 hg2 hb1.size (fun k hk => by cases hk; exact Nat.le_refl _)
  have HO2 : Hid (w2.ownsRow w.heap.size 5 1 (.slice (some ⟨w.heap.size, 0, none⟩) lb (lb + q)) (bs ++ bytesOf size (l.take 0)).length (u8s (bs ++ bytesOf size (l.take 0)))) := ownsRow_u8 hown2 (by simp [bytesOf, hl1.1]) (by simp [bytesOf])
  clear hown1 hg1 hb1 hl1 hown2 hg2
  go_wp2
  go_loopw [9, 31] (fun v i wr => ∃ k : Nat, k ≤ ll ∧ i = .int .i64 k ∧ wr.ownsRow w.heap.size 5 1 v (bs ++ bytesOf size (l.take k)).length (u8s (bs ++ bytesOf size (l.take k))) ∧ Below w.heap.size w wr) (fun _ i _ => ll - (intOf i).toNat)
  case atStart => exact ⟨0, Nat.zero_le _, rfl, by simpa using HO2.out, hb2⟩
  case round =>
    obtain ⟨k, hk, rfl, hown, hbr⟩ := hrel
    by_cases hlt : k < ll
    · obtain ⟨b, off, rfl, hcell0⟩ := HL.out.2.2.2.2 k hlt
      have hcell : wr.cell? ⟨b, off + k, none⟩ = _ := (hbr.cell (p := ⟨b, off + k, none⟩) (World.block_lt_of_cell? w _ hcell0)).trans hcell0
      clear hcell0
      have hkl : k < l.length := by rw [HL.out.1]; exact hlt
      have hok : okB size (l.getD k 0) = true := HA.out _ (by simp [hkl])
      have HS : Hid _ := bytesOf_snoc size l k hkl
      have hln := HQ.out k hk
      generalize l.getD k 0 = x at *
      generalize bytesOf size (l.take k) = B at *
      clear hkl
      go_wp2_with (go_at_call 79; refine (appendNumber_any size x _ _ w.heap.size _ _ HZ.out hbr.size (by omega) hown hok).mono ?_; rintro e w3 ⟨v3, rfl, hown3, hb3⟩)
      go_roundw
      case rel => exact ⟨k + 1, by omega, by go_num, ownsRow_u8 hown3 (by rw [HS.out]; simp; omega) (by rw [HS.out]; simp [u8s]), hbr.trans hb3⟩
      case measure => simp [intOf]; omega
    · obtain rfl : k = ll := by omega
      go_wp2
      go_ret2
      rw [List.take_of_length_le (by rw [HL.out.1]; exact Nat.le_refl _)] at hown
      exact ⟨_, rfl, hown, hbr⟩
end Go.Proofs.YtbfjkhafdkhhmaaDoor
