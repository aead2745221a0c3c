/- What addr's numbers and groupsOf answer. -/
import Derived.Test.YtoijfnkbjdekoaaDoorOwn
import Derived.Lib.SplitLaws
namespace Go.Proofs.YtoijfnkbjdekoaaDoor
open Go.ChangeShapes Go.WideShapes Go.ChangeAt Go.RowKit
set_option linter.unusedVariables false
set_option linter.unusedSimpArgs false

theorem hexP_le : ∀ (l : List UInt8) (acc : Nat), acc ≤ 65535 → (hexP acc l).2 ≤ 65535
  | [], acc, h => h
  | c :: r, acc, h => by
    unfold hexP
    split
    · exact Nat.zero_le _
    · split
      · exact Nat.le_refl _
      · exact hexP_le r _ (by omega)
theorem hexOk_le {l : List UInt8} {n : Nat} (h : hexOk l = some n) : n ≤ 65535 := by
  unfold hexOk at h
  split at h
  · injection h with h
    rw [← h]; unfold hexS; split
    · exact Nat.zero_le _
    · exact hexP_le l 0 (Nat.zero_le _)
  · cases h

/-- The number of one part; -1 where it is none. -/
def num1 (l : List UInt8) : Int := match hexOk l with | some n => n | none => -1
def colon : ByteArray := ⟨#[58]⟩
def parts (s : ByteArray) : List ByteArray := Lib.splitB colon 0 (Lib.countB s colon) s
/-- What stands between the colons. -/
def nums (s : ByteArray) : List Int := if s.size = 0 then [] else (parts s).map fun p => num1 p.data.toList

theorem parts_len_aux : ∀ (k : Nat) (s : ByteArray), s.size ≤ k → (Lib.splitB colon 0 (Lib.countB s colon) s).length = Lib.countB s colon + 1
  | k, s, h => by
    rcases Lib.indexB_cases s colon with h1 | ⟨i, h1, h2⟩
    · rw [Lib.countB_miss s colon h1, Lib.splitB_zero]; rfl
    · rw [Lib.countB_hit s colon i (by decide) h1, Nat.add_comm 1, Lib.splitB_hit colon 0 _ s i h1, List.length_cons]
      have h3 : colon.size = 1 := rfl
      have h4 : (s.extract (i + colon.size) s.size).size = s.size - (i + 1) := by simp [h3]
      cases k with
      | zero => omega
      | succ k => rw [parts_len_aux k (s.extract (i + colon.size) s.size) (by rw [h4]; omega)]
theorem parts_len (s : ByteArray) : (parts s).length = Lib.countB s colon + 1 := parts_len_aux s.size s (Nat.le_refl _)
theorem parts_le (s : ByteArray) : (parts s).length ≤ s.size + 1 := by rw [parts_len]; have := Lib.countB_le colon (by decide) s.size s (Nat.le_refl _); omega
theorem parts_size_aux : ∀ (k : Nat) (s : ByteArray) (p : ByteArray), p ∈ Lib.splitB colon 0 k s → p.size ≤ s.size
  | 0, s, p, h => by simp only [Lib.splitB_zero, List.mem_singleton] at h; rw [h]; exact Nat.le_refl _
  | k + 1, s, p, h => by
    rcases Lib.indexB_cases s colon with h1 | ⟨i, h1, h2⟩
    · rw [Lib.splitB_miss colon 0 _ s h1, List.mem_singleton] at h; rw [h]; exact Nat.le_refl _
    · rw [Lib.splitB_hit colon 0 k s i h1, List.mem_cons] at h
      rcases h with rfl | h
      · simp; omega
      · have := parts_size_aux k _ p h
        have h4 : (s.extract (i + colon.size) s.size).size = s.size - (i + colon.size) := by simp
        omega
theorem parts_size {s p : ByteArray} (h : p ∈ parts s) : p.size ≤ s.size := parts_size_aux _ s p h
theorem nums_len (s : ByteArray) : (nums s).length ≤ s.size + 1 := by
  unfold nums; split
  · simp
  · rw [List.length_map]; exact parts_le s

def numL (l : List ByteArray) : List Int := l.map fun p => num1 p.data.toList
def i64c (l : List Int) : List Value := l.map (Value.int .i64)

set_option maxRecDepth 100000 in
set_option maxHeartbeats 1600000 in
theorem numbers_any (s : ByteArray) (w : World) (hs : s.size ≤ 100) (hV : Vars w) :
    Calls Tryd.prog 38 #[.string s] w fun e w' => ∃ v, e = .returned v ∧ w'.ownsRow w.heap.size 3 1 v (nums s).length (i64c (nums s)) ∧ Below w.heap.size w w' := by
  by_cases h0 : s.size = 0
  · have hs : s = ⟨#[]⟩ := by
      obtain ⟨d⟩ := s
      have : d.size = 0 := h0
      rw [Array.size_eq_zero_iff] at this
      rw [this]
    subst hs
    go_enter Tryd.func38, Tryd.ntmps38
    go_wp2
    go_ret
    exact ⟨_, rfl, World.ownsRow_nil _ _ _ _, Below.refl _ _⟩
  · have hemp : s.toList.isEmpty = false := by
      rw [← decide_eq_emptyBytes]
      exact decide_eq_false (fun h => h0 (by rw [h]; rfl))
    have HN : Hid (nums s = numL (parts s)) := by show _ = _; rw [nums, if_neg h0]; rfl
    obtain ⟨m, hm⟩ := hV.1
    have HP : Hid (∀ p ∈ parts s, p.size ≤ 281474976710656) := fun p hp => by have := parts_size hp; omega
    have hpl := parts_len s
    have hple := parts_le s
    obtain ⟨ps, hps⟩ : ∃ ps, parts s = ps := ⟨_, rfl⟩
    have hsp := Tryd.strings_Split s colon m w (by omega) hm (by decide)
    rw [show Lib.splitB colon 0 (Lib.countB s colon) s = parts s from rfl] at hsp
    rw [← hpl] at hsp
    rw [hps] at hsp HN HP hple
    obtain ⟨len, hlen⟩ : ∃ len, ps.length = len := ⟨_, rfl⟩
    rw [hlen] at hsp hple
    have HS : Hid (Calls Tryd.prog 42 #[.string s, .string ⟨#[58]⟩] w fun e w' => e = .returned (.slice (some ⟨w.heap.size, 0, none⟩) len len) ∧ w' = w.alloc (.cells (ps.map Value.string).toArray 9)) := hsp
    have HLn : Hid (ps.length = len) := hlen
    clear hpl hps hsp hlen h0
    go_enter Tryd.func38, Tryd.ntmps38
    go_wp2_with (go_at_call 42; refine HS.out.mono ?_; rintro e w1 ⟨rfl, rfl⟩)
    go_loopw [3, 13] (fun v i wr => ∃ k : Nat, k ≤ len ∧ i = .int .i64 k ∧ Hid (wr.ownsRow (w.heap.size + 1) 3 1 v k (i64c (numL (ps.take k)))) ∧ Hid (Below (w.heap.size + 1) (w.alloc (.cells (ps.map Value.string).toArray 9)) wr))
      (fun _ i _ => len - (intOf i).toNat)
    case atStart => exact ⟨0, Nat.zero_le _, rfl, World.ownsRow_nil _ _ _ _, Below.refl _ _⟩
    case round =>
      obtain ⟨k, hk, rfl, HO, HB⟩ := hrel
      by_cases hlt : k < len
      · have hkl : k < ps.length := by rw [HLn.out]; exact hlt
        have hcell : wr.cell? ⟨w.heap.size, k, none⟩ = some (.string ps[k]) := by
          rw [HB.out.cell (p := ⟨w.heap.size, k, none⟩) (Nat.lt_succ_self _), (Row.new w 9 (ps.map Value.string).toArray).cell]; simp [hkl]
        have HT : Hid (i64c (numL (ps.take (k + 1))) = i64c (numL (ps.take k)) ++ [.int .i64 (num1 ps[k].data.toList)]) := by
          show _ = _; rw [List.take_succ_eq_append_getElem hkl]; simp only [i64c, numL, List.map_append, List.map_cons, List.map_nil]
        have hsz := HP.out _ (List.getElem_mem hkl)
        have HVr : Hid (Vars wr) := hV.below ((below_new w _).trans (HB.out.mono (Nat.le_succ _))) hV.2.2.2.2
        have hwr : w.heap.size + 1 ≤ wr.heap.size := by have := HB.out.size; simpa using this
        generalize ps[k] = p at *
        clear hkl
        cases hx : hexOk p.data.toList with
        | some n =>
          have HX : Hid (num1 p.data.toList = n) := by show _ = _; rw [num1, hx]
          have hn : n ≤ 65535 := hexOk_le hx
          go_wp2_with (first
            | (go_at_call 43; refine (parse_ok p n hx hsz _).mono ?_; rintro e w1 ⟨rfl, hb1⟩; have B1 : Hid (Below wr.heap.size wr w1) := hb1; have O1 : Hid (w1.ownsRow _ 3 1 _ k (i64c (numL (ps.take k)))) := own_below HO.out hb1; clear hb1)
            | (at_builtin; refine wp_push rfl _ _ 29 3 _ 8 rfl rfl rfl Tryd.underlying29 row3 rfl (by decide) O1.out rfl ?_ ?_ ?_))
          case refine_1 => exact Nat.le_trans hwr B1.out.size
          case refine_2 => omega
          intro v2 w2 hO2 hb2
          have B2 : Hid (Below (w.heap.size + 1) (w.alloc (.cells (ps.map Value.string).toArray 9)) w2) := (HB.out.trans (B1.out.mono hwr)).trans hb2
          have O2 : Hid (w2.ownsRow (w.heap.size + 1) 3 1 v2 (k + 1) (i64c (numL (ps.take (k + 1))))) := own_as hO2 rfl (by rw [HT.out, HX.out])
          clear hO2 hb2
          go_wp2
          go_roundw
          case rel => exact ⟨k + 1, by omega, by go_num, O2, B2⟩
          case measure => simp [intOf]; omega
        | none =>
          have HX : Hid (num1 p.data.toList = -1) := by show _ = _; rw [num1, hx]
          go_wp2_with (first
            | (go_at_call 43; refine (parse_err p hx hsz _ HVr.out).mono ?_; rintro e w1 ⟨nv, nN, rfl, hb1⟩; have B1 : Hid (Below wr.heap.size wr w1) := hb1; have O1 : Hid (w1.ownsRow _ 3 1 _ k (i64c (numL (ps.take k)))) := own_below HO.out hb1; clear hb1)
            | (at_builtin; refine wp_push rfl _ _ 29 3 _ 8 rfl rfl rfl Tryd.underlying29 row3 rfl (by decide) O1.out rfl ?_ ?_ ?_))
          case refine_1 => exact Nat.le_trans hwr B1.out.size
          case refine_2 => omega
          intro v2 w2 hO2 hb2
          have B2 : Hid (Below (w.heap.size + 1) (w.alloc (.cells (ps.map Value.string).toArray 9)) w2) := (HB.out.trans (B1.out.mono hwr)).trans hb2
          have O2 : Hid (w2.ownsRow (w.heap.size + 1) 3 1 v2 (k + 1) (i64c (numL (ps.take (k + 1))))) := own_as hO2 rfl (by rw [HT.out, HX.out])
          clear hO2 hb2
          go_wp2
          go_roundw
          case rel => exact ⟨k + 1, by omega, by go_num, O2, B2⟩
          case measure => simp [intOf]; omega
      · obtain rfl : k = len := by omega
        go_wp2
        go_ret
        refine ⟨_, rfl, ?_, (below_new w _).trans (HB.out.mono (Nat.le_succ _))⟩
        refine own_low (own_as HO.out ?_ ?_) (Nat.le_succ _)
        · rw [HN.out]; simp [numL, HLn.out]
        · rw [HN.out, List.take_of_length_le (by rw [HLn.out]; omega)]
end Go.Proofs.YtoijfnkbjdekoaaDoor
