/- What the small functions of package pack answer: contracts, one a function. -/
import Derived.Test.YtbgogeojdibmkaaDoorRows
import Derived.WalkKit
import Derived.ProofKit
import Derived.OpenShut
import Derived.Handy
import Derived.Deep.QuietTactic
import Derived.BigQuiet
import Derived.WalkSpells
namespace Go.Proofs.YtbgogeojdibmkaaDoor
open Go.ChangeShapes Go.WideShapes Go.ChangeAt Go.RowKit
set_option linter.unusedVariables false
set_option linter.unusedSimpArgs false

theorem ret_bool {a b : Bool} (h : a = b) : Ending.returned (.bool a) = .returned (.bool b) := by rw [h]
theorem ret_int {k : IntKind} {a b : Int} (h : a = b) : Ending.returned (.int k a) = .returned (.int k b) := by rw [h]

/-- Is it a size? -/
def sizeB (n : Int) : Bool := decide (n = 1 ∨ n = 2 ∨ n = 4)
theorem sizeB_cases {n : Int} (h : sizeB n = true) : n = 1 ∨ n = 2 ∨ n = 4 := by simpa [sizeB] using h
theorem sizeB_no {n : Int} (h : sizeB n = false) : n ≠ 1 ∧ n ≠ 2 ∧ n ≠ 4 := by simp [sizeB] at h; omega

theorem isSize_any (n : Int) (w : World) : Calls Tryd.prog 72 #[.int .i64 n] w fun e w' => e = .returned (.bool (sizeB n)) ∧ w' = w := by
  cases h : sizeB n
  · have h' := sizeB_no h
    have h1 : (n == 1) = false := by simp; omega
    have h2 : (n == 2) = false := by simp; omega
    have h4 : (n == 4) = false := by simp; omega
    clear h h'
    go_enter Tryd.func72, Tryd.ntmps72
    go_wp2
    go_ret
    exact ⟨rfl, rfl⟩
  · rcases sizeB_cases h with rfl | rfl | rfl
    all_goals
      clear h
      go_enter Tryd.func72, Tryd.ntmps72
      go_wp2
      go_ret
      exact ⟨rfl, rfl⟩

theorem refSize_any (n : Int) (w : World) : Calls Tryd.prog 70 #[.int .i64 n] w fun e w' => e = .returned (.bool (sizeB n)) ∧ w' = w := by
  cases h : sizeB n
  · have h' := sizeB_no h
    have h1 : (n == 1) = false := by simp; omega
    have h2 : (n == 2) = false := by simp; omega
    have h4 : (n == 4) = false := by simp; omega
    clear h h'
    go_enter Tryd.func70, Tryd.ntmps70
    go_wp2
    go_ret
    exact ⟨rfl, rfl⟩
  · rcases sizeB_cases h with rfl | rfl | rfl
    all_goals
      clear h
      go_enter Tryd.func70, Tryd.ntmps70
      go_wp2
      go_ret
      exact ⟨rfl, rfl⟩

/-- Up to where the numbers of a size go. -/
def top (size : Int) : Int := if size = 1 then 256 else if size = 2 then 65536 else 4294967296
def okB (size n : Int) : Bool := decide (0 ≤ n ∧ n < top size)

/-- Numbers in a slice: it is nil or leads to a row of cells of its length at least. -/
def Lies (kd : IntKind) (w : World) (a : Option Addr) (len cap : Nat) (l : List Int) : Prop :=
  l.length = len ∧ len ≤ cap ∧ cap ≤ maxLen ∧ (a = none → cap = 0) ∧ ∀ k, k < len → ∃ b off, a = some ⟨b, off, none⟩ ∧ w.cell? ⟨b, off + k, none⟩ = some (.int kd (l.getD k 0))

theorem all_take_succ (zs : List Int) (k : Nat) (h : k < zs.length) (p : Int → Bool) : (zs.take (k + 1)).all p = ((zs.take k).all p && p (zs.getD k 0)) := by
  rw [List.take_succ_eq_append_getElem h, List.all_append]; simp [h]

theorem all_false (zs : List Int) (k : Nat) (h : k < zs.length) (p : Int → Bool) (hp : p (zs.getD k 0) = false) : zs.all p = false := by
  rw [List.all_eq_false]; exact ⟨zs[k], List.getElem_mem h, by simpa [h] using hp⟩

theorem okB_cases (size n : Int) : okB size n = true ∨ n < 0 ∨ top size ≤ n := by
  simp [okB]; omega

set_option maxHeartbeats 400000 in
theorem fits_size1 (a : Option Addr) (len cap : Nat) (l : List Int) (w : World) (h : Lies .i64 w a len cap l) :
    Calls Tryd.prog 62 #[.int .i64 1, .slice a len cap] w fun e w' => e = .returned (.bool (l.all (okB 1))) ∧ w' = w := by
  obtain ⟨hl, hlc, hcm, _, hc⟩ := h
  unfold maxLen at hcm
  have HC : Hid _ := hc
  have HL : Hid (l.length = len) := hl
  have hp : ∀ n, okB 1 n = decide (0 ≤ n ∧ n < 256) := fun _ => rfl
  generalize okB 1 = P at hp ⊢
  have HP : Hid _ := hp
  clear hc hl hp
  go_enter Tryd.func62, Tryd.ntmps62
  go_wp2_with (go_at_call 72; refine (isSize_any _ _).mono ?_; rintro e w ⟨rfl, rfl⟩; rw [show sizeB _ = true from rfl])
  go_loop [12] (fun i => ∃ k : Nat, k ≤ len ∧ i = .int .i64 k ∧ Hid ((l.take k).all P = true)) (fun i => len - (intOf i).toNat)
  case atStart => exact ⟨0, Nat.zero_le _, rfl, rfl⟩
  case round =>
    obtain ⟨k, hk, rfl, hall⟩ := hrel
    by_cases hlt : k < len
    · obtain ⟨b, off, rfl, hcell⟩ := HC.out k hlt
      have hs := all_take_succ l k (by rw [HL.out]; exact hlt) P
      have hf : P (l.getD k 0) = false → l.all P = false := all_false l k (by rw [HL.out]; exact hlt) P
      generalize hz : l.getD k 0 = z at hcell hs hf
      have HS : Hid ((l.take (k + 1)).all P = ((l.take k).all P && P z)) := hs
      have HF : Hid (P z = false → l.all P = false) := hf
      have HZ : Hid (P z = _) := HP.out z
      clear hz hs hf HP
      by_cases h0 : z < 0
      · go_wp2
        go_ret
        exact ⟨ret_bool (HF.out (by rw [HZ.out]; simp; omega)).symm, rfl⟩
      · by_cases h1 : z < 256
        · have hq : (z / 256 != 0) = false := by simp; omega
          go_wp2
          go_round
          case rel => exact ⟨k + 1, by omega, by go_num, by rw [Hid, HS.out, hall.out, HZ.out]; simp; omega⟩
          case measure => simp [intOf]; omega
        · have hq : (z / 256 != 0) = true := by rw [bne_iff_ne]; omega
          go_wp2
          go_ret
          exact ⟨ret_bool (HF.out (by rw [HZ.out]; simp; omega)).symm, rfl⟩
    · go_wp2
      go_ret
      exact ⟨ret_bool (by have := hall.out; rwa [List.take_of_length_le (by rw [HL.out]; omega), eq_comm] at this), rfl⟩

set_option maxHeartbeats 400000 in
theorem fits_size2 (a : Option Addr) (len cap : Nat) (l : List Int) (w : World) (h : Lies .i64 w a len cap l) :
    Calls Tryd.prog 62 #[.int .i64 2, .slice a len cap] w fun e w' => e = .returned (.bool (l.all (okB 2))) ∧ w' = w := by
  obtain ⟨hl, hlc, hcm, _, hc⟩ := h
  unfold maxLen at hcm
  have HC : Hid _ := hc
  have HL : Hid (l.length = len) := hl
  have hp : ∀ n, okB 2 n = decide (0 ≤ n ∧ n < 65536) := fun _ => rfl
  generalize okB 2 = P at hp ⊢
  have HP : Hid _ := hp
  clear hc hl hp
  go_enter Tryd.func62, Tryd.ntmps62
  go_wp2_with (go_at_call 72; refine (isSize_any _ _).mono ?_; rintro e w ⟨rfl, rfl⟩; rw [show sizeB _ = true from rfl])
  go_loop [12] (fun i => ∃ k : Nat, k ≤ len ∧ i = .int .i64 k ∧ Hid ((l.take k).all P = true)) (fun i => len - (intOf i).toNat)
  case atStart => exact ⟨0, Nat.zero_le _, rfl, rfl⟩
  case round =>
    obtain ⟨k, hk, rfl, hall⟩ := hrel
    by_cases hlt : k < len
    · obtain ⟨b, off, rfl, hcell⟩ := HC.out k hlt
      have hs := all_take_succ l k (by rw [HL.out]; exact hlt) P
      have hf : P (l.getD k 0) = false → l.all P = false := all_false l k (by rw [HL.out]; exact hlt) P
      generalize hz : l.getD k 0 = z at hcell hs hf
      have HS : Hid ((l.take (k + 1)).all P = ((l.take k).all P && P z)) := hs
      have HF : Hid (P z = false → l.all P = false) := hf
      have HZ : Hid (P z = _) := HP.out z
      clear hz hs hf HP
      by_cases h0 : z < 0
      · go_wp2
        go_ret
        exact ⟨ret_bool (HF.out (by rw [HZ.out]; simp; omega)).symm, rfl⟩
      · by_cases h1 : z < 65536
        · have hq : (z / 65536 != 0) = false := by simp; omega
          go_wp2
          go_round
          case rel => exact ⟨k + 1, by omega, by go_num, by rw [Hid, HS.out, hall.out, HZ.out]; simp; omega⟩
          case measure => simp [intOf]; omega
        · have hq : (z / 65536 != 0) = true := by rw [bne_iff_ne]; omega
          go_wp2
          go_ret
          exact ⟨ret_bool (HF.out (by rw [HZ.out]; simp; omega)).symm, rfl⟩
    · go_wp2
      go_ret
      exact ⟨ret_bool (by have := hall.out; rwa [List.take_of_length_le (by rw [HL.out]; omega), eq_comm] at this), rfl⟩

set_option maxHeartbeats 400000 in
theorem fits_size4 (a : Option Addr) (len cap : Nat) (l : List Int) (w : World) (h : Lies .i64 w a len cap l) :
    Calls Tryd.prog 62 #[.int .i64 4, .slice a len cap] w fun e w' => e = .returned (.bool (l.all (okB 4))) ∧ w' = w := by
  obtain ⟨hl, hlc, hcm, _, hc⟩ := h
  unfold maxLen at hcm
  have HC : Hid _ := hc
  have HL : Hid (l.length = len) := hl
  have hp : ∀ n, okB 4 n = decide (0 ≤ n ∧ n < 4294967296) := fun _ => rfl
  generalize okB 4 = P at hp ⊢
  have HP : Hid _ := hp
  clear hc hl hp
  go_enter Tryd.func62, Tryd.ntmps62
  go_wp2_with (go_at_call 72; refine (isSize_any _ _).mono ?_; rintro e w ⟨rfl, rfl⟩; rw [show sizeB _ = true from rfl])
  go_loop [12] (fun i => ∃ k : Nat, k ≤ len ∧ i = .int .i64 k ∧ Hid ((l.take k).all P = true)) (fun i => len - (intOf i).toNat)
  case atStart => exact ⟨0, Nat.zero_le _, rfl, rfl⟩
  case round =>
    obtain ⟨k, hk, rfl, hall⟩ := hrel
    by_cases hlt : k < len
    · obtain ⟨b, off, rfl, hcell⟩ := HC.out k hlt
      have hs := all_take_succ l k (by rw [HL.out]; exact hlt) P
      have hf : P (l.getD k 0) = false → l.all P = false := all_false l k (by rw [HL.out]; exact hlt) P
      generalize hz : l.getD k 0 = z at hcell hs hf
      have HS : Hid ((l.take (k + 1)).all P = ((l.take k).all P && P z)) := hs
      have HF : Hid (P z = false → l.all P = false) := hf
      have HZ : Hid (P z = _) := HP.out z
      clear hz hs hf HP
      by_cases h0 : z < 0
      · go_wp2
        go_ret
        exact ⟨ret_bool (HF.out (by rw [HZ.out]; simp; omega)).symm, rfl⟩
      · by_cases h1 : z < 4294967296
        · have hq : (z / 4294967296 != 0) = false := by simp; omega
          go_wp2
          go_round
          case rel => exact ⟨k + 1, by omega, by go_num, by rw [Hid, HS.out, hall.out, HZ.out]; simp; omega⟩
          case measure => simp [intOf]; omega
        · have hq : (z / 4294967296 != 0) = true := by rw [bne_iff_ne]; omega
          go_wp2
          go_ret
          exact ⟨ret_bool (HF.out (by rw [HZ.out]; simp; omega)).symm, rfl⟩
    · go_wp2
      go_ret
      exact ⟨ret_bool (by have := hall.out; rwa [List.take_of_length_le (by rw [HL.out]; omega), eq_comm] at this), rfl⟩

theorem fits_size (size : Int) (a : Option Addr) (len cap : Nat) (l : List Int) (w : World) (hz : size = 1 ∨ size = 2 ∨ size = 4) (h : Lies .i64 w a len cap l) :
    Calls Tryd.prog 62 #[.int .i64 size, .slice a len cap] w fun e w' => e = .returned (.bool (l.all (okB size))) ∧ w' = w := by
  rcases hz with rfl | rfl | rfl
  · exact fits_size1 a len cap l w h
  · exact fits_size2 a len cap l w h
  · exact fits_size4 a len cap l w h

def fitsB (size : Int) (l : List Int) : Bool := sizeB size && l.all (okB size)

theorem fits_any (size : Int) (a : Option Addr) (len cap : Nat) (l : List Int) (w : World) (h : Lies .i64 w a len cap l) :
    Calls Tryd.prog 62 #[.int .i64 size, .slice a len cap] w fun e w' => e = .returned (.bool (fitsB size l)) ∧ w' = w := by
  cases hz : sizeB size
  · have HF : Hid (fitsB size l = false) := by simp [Hid, fitsB, hz]
    clear h
    go_enter Tryd.func62, Tryd.ntmps62
    go_wp2_with (go_at_call 72; refine (isSize_any _ _).mono ?_; rintro e w ⟨rfl, rfl⟩)
    go_ret
    exact ⟨ret_bool HF.out.symm, rfl⟩
  · refine (fits_size size a len cap l w (sizeB_cases hz) h).mono ?_
    rintro e w' ⟨rfl, rfl⟩
    exact ⟨ret_bool (by simp [fitsB, hz]), rfl⟩

def sameB (l m : List Int) : Bool := l == m

theorem same_no (a b : Option Addr) (la ca lb cb : Nat) (w : World) (h : la ≠ lb) :
    Calls Tryd.prog 11 #[.slice a la ca, .slice b lb cb] w fun e w' => e = .returned (.bool false) ∧ w' = w := by
  have hne : ((la : Int) != (lb : Int)) = true := by rw [bne_iff_ne]; omega
  clear h
  go_enter Tryd.func11, Tryd.ntmps11
  go_wp2
  go_ret
  exact ⟨rfl, rfl⟩

theorem take_differ (l m : List Int) (k : Nat) (h : k < l.length) (hm : k < m.length) (hne : l.getD k 0 ≠ m.getD k 0) : (l == m) = false := by
  rw [beq_eq_false_iff_ne]
  intro he
  subst he
  exact hne rfl

theorem take_same (l m : List Int) (k : Nat) (h : k < l.length) (hm : k < m.length) (hs : l.take k = m.take k) (he : l.getD k 0 = m.getD k 0) : l.take (k + 1) = m.take (k + 1) := by
  rw [List.take_succ_eq_append_getElem h, List.take_succ_eq_append_getElem hm, hs]
  simp [h, hm] at he
  rw [he]

set_option maxHeartbeats 400000 in
theorem same_len (a b : Option Addr) (n ca cb : Nat) (l m : List Int) (w : World) (ha : Lies .u8 w a n ca l) (hb : Lies .u8 w b n cb m) :
    Calls Tryd.prog 11 #[.slice a n ca, .slice b n cb] w fun e w' => e = .returned (.bool (l == m)) ∧ ∃ q, w' = w.drewN q := by
  obtain ⟨hl, hlc, hcm, _, hc⟩ := ha
  obtain ⟨hl2, hlc2, hcm2, _, hc2⟩ := hb
  unfold maxLen at hcm hcm2
  have HC : Hid _ := hc
  have HL : Hid (l.length = n) := hl
  have HC2 : Hid _ := hc2
  have HL2 : Hid (m.length = n) := hl2
  clear hc hl hc2 hl2
  go_enter Tryd.func11, Tryd.ntmps11
  go_wp2
  go_loopw [5] (fun i wr => ∃ k : Nat, k ≤ n ∧ i = .int .i64 k ∧ Hid (l.take k = m.take k) ∧ ∃ q, wr = w.drewN q) (fun i _ => n - (intOf i).toNat)
  case atStart => exact ⟨0, Nat.zero_le _, rfl, rfl, 0, rfl⟩
  case round =>
    obtain ⟨k, hk, rfl, hall, q, rfl⟩ := hrel
    by_cases hlt : k < n
    · obtain ⟨b1, off1, rfl, hcell1⟩ := HC.out k hlt
      obtain ⟨b2, off2, rfl, hcell2⟩ := HC2.out k hlt
      have HD : Hid (l.getD k 0 ≠ m.getD k 0 → (l == m) = false) := take_differ l m k (by rw [HL.out]; exact hlt) (by rw [HL2.out]; exact hlt)
      have HS : Hid (l.getD k 0 = m.getD k 0 → l.take (k + 1) = m.take (k + 1)) := take_same l m k (by rw [HL.out]; exact hlt) (by rw [HL2.out]; exact hlt) hall.out
      have hlt' : (k : Int) < (n : Int) := by omega
      generalize l.getD k 0 = x at *
      generalize m.getD k 0 = y at *
      go_wp2
      go_quiet (fail)
      by_cases hxy : x = y
      · have hb : (x != y) = false := by simp [hxy]
        have HX : Hid (x = y) := hxy
        clear hxy
        go_wp2
        go_roundw
        case rel => exact ⟨k + 1, by omega, by go_num, HS.out HX.out, q + nq, rfl⟩
        case measure => simp [intOf]; omega
      · have hb : (x != y) = true := by rw [bne_iff_ne]; exact hxy
        go_wp2
        go_ret
        exact ⟨ret_bool (HD.out hxy).symm, q + nq, World.drewN_drewN ..⟩
    · obtain rfl : k = n := by omega
      go_wp2
      go_ret
      refine ⟨ret_bool ?_, q, rfl⟩
      have h1 : l.take k = l := List.take_of_length_le (by rw [HL.out]; exact Nat.le_refl _)
      have h2 : m.take k = m := List.take_of_length_le (by rw [HL2.out]; exact Nat.le_refl _)
      have := hall.out
      rw [h1, h2] at this
      simp [this]
end Go.Proofs.YtbgogeojdibmkaaDoor
