/- The document's answer: Check. -/
import Derived.Test.YtbgogeojdibmkaaDoorRpa
import Derived.Test.YtbgogeojdibmkaaDoorDigits
namespace Go.Proofs.YtbgogeojdibmkaaDoor
open Go.ChangeShapes Go.WideShapes Go.ChangeAt Go.RowKit Go.Deep
set_option linter.unusedVariables false
set_option linter.unusedSimpArgs false

/-- A kind's letters as numbers. -/
def cl (k : Nat) : List Int := (chs k).data.toList.map (fun b => (b.toNat : Int))
theorem cl_len (k : Nat) : (cl k).length = (chs k).size := by rw [cl, List.length_map, Array.length_toList]; rfl
theorem chs_ne' : ∀ k, k < 10 → ((chs k).data.toList == [63]) = false := by decide
theorem chs_ne (k : Nat) (hk : k < 10) : ((chs k).toList == [63]) = false := by rw [ByteArray.toList_eq]; exact chs_ne' k hk
theorem chs_small : ∀ k, k < 10 → (chs k).size ≤ 10 := by decide
/-- How many numbers among so many letters. -/
def cnt (l : List Int) (i : Nat) : Nat := ((l.take i).filter (fun c => decide (0 < szc c))).length
theorem cnt_succ (l : List Int) (i : Nat) (h : i < l.length) : cnt l (i + 1) = cnt l i + (if 0 < szc (l.getD i 0) then 1 else 0) := by
  unfold cnt
  rw [List.take_succ_eq_append_getElem h, List.filter_append, List.length_append]
  simp [h]
  split <;> simp_all
def hasC (x : Int) (l : List Int) (i : Nat) : Bool := (l.take i).any (fun c => c == x)
theorem hasC_succ (x : Int) (l : List Int) (i : Nat) (h : i < l.length) : hasC x l (i + 1) = (hasC x l i || (l.getD i 0 == x)) := by
  unfold hasC
  rw [List.take_succ_eq_append_getElem h, List.any_append]
  simp [h]
theorem cl_all : ∀ k, k < 10 → cnt (cl k) (cl k).length = (nmb (prt k)).length ∧ hasC 97 (cl k) (cl k).length = hasA k ∧ hasC 116 (cl k) (cl k).length = txb k := by decide
/-- The greatest number of a letter. -/
def lastc (c : Int) : Int := if c = 112 then 128 else if c = 122 ∨ c = 113 then 0 else top (szc c) - 1
theorem cl_num : ∀ k, k < 10 → ∀ i, i < (cl k).length → 0 < szc ((cl k).getD i 0) → cnt (cl k) i < (nmb (prt k)).length ∧ (nmb (prt k)).getD (cnt (cl k) i) (0, 0) = (szc ((cl k).getD i 0), lastc ((cl k).getD i 0)) ∧ sizeB (szc ((cl k).getD i 0)) = true := by decide
theorem cl_oct : ∀ k, k < 10 → ∀ i, i < (cl k).length → 0 ≤ (cl k).getD i 0 ∧ (cl k).getD i 0 < 256 := by decide
theorem char_at (k i : Nat) (h : i < (chs k).size) : ((((chs k)[i]'h).toNat : Nat) : Int) = (cl k).getD i 0 := by
  have h' : i < (chs k).data.size := h
  have e : (chs k)[i]'h = (chs k).data[i]'h' := rfl
  rw [e]
  simp [cl, Array.getElem?_eq_getElem h']
theorem byte_at (k i : Nat) (h : i < (cl k).length) : ((((chs k).data[i]?.getD 0).toNat : Nat) : Int) = (cl k).getD i 0 := by
  have h' : i < (chs k).data.size := by simpa [cl] using h
  simp [cl, Array.getElem?_eq_getElem h']

theorem zarr : (#[Value.int .u8 0, .int .u8 0, .int .u8 0, .int .u8 0, .int .u8 0, .int .u8 0, .int .u8 0, .int .u8 0, .int .u8 0, .int .u8 0, .int .u8 0, .int .u8 0, .int .u8 0, .int .u8 0, .int .u8 0, .int .u8 0] : Array Value) = arr zeros := rfl
/-- Is a number one that a letter allows? -/
def goodc (c n : Int) : Bool := okB (szc c) n && (!(c == 112 && decide (128 < n)) && !((c == 122 || c == 113) && (n != 0)))
theorem goodc_in (c n : Int) (h : sizeB (szc c) = true) : goodc c n = inB (szc c, lastc c) n := by
  have h1 : c = 49 ∨ c = 112 ∨ c = 122 ∨ c = 120 ∨ c = 50 ∨ c = 52 ∨ c = 113 := by
    unfold szc at h
    split at h
    · omega
    · split at h
      · omega
      · split at h
        · omega
        · exact absurd h (by decide)
  rw [Bool.eq_iff_iff]
  rcases h1 with rfl | rfl | rfl | rfl | rfl | rfl | rfl <;> simp [goodc, inB, okB, szc, lastc, top] <;> omega
end Go.Proofs.YtbgogeojdibmkaaDoor
