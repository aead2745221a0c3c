/- What strconv's ParseUint answers to the base 16 with 16 bits, errors and all. -/
import Derived.Test.YtoijfnkbjdekoaaDoorPrs
namespace Go.Proofs.YtoijfnkbjdekoaaDoor
open Go.ChangeShapes Go.WideShapes Go.ChangeAt Go.RowKit
set_option linter.unusedVariables false
set_option linter.unusedSimpArgs false

/-- What the variables of the library hold that are read. -/
def Vars (w : World) : Prop :=
  (∃ m, w.cell? ⟨0, 0, none⟩ = some (.int .i64 m)) ∧ (∃ te pe, w.cell? ⟨2, 0, none⟩ = some (.iface te pe)) ∧ (∃ te pe, w.cell? ⟨3, 0, none⟩ = some (.iface te pe)) ∧ w.cell? ⟨5, 15, none⟩ = some (.int .u8 4) ∧ 5 < w.heap.size
theorem Vars.below {w w' : World} {B : Nat} (h : Vars w) (hb : Below B w w') (hB : 5 < B) : Vars w' := by
  obtain ⟨⟨m, h0⟩, ⟨a, b, h2⟩, ⟨c, d, h3⟩, h5, hs⟩ := h
  exact ⟨⟨m, (hb.cell (p := ⟨0, 0, none⟩) (by show 0 < B; omega)).trans h0⟩, ⟨a, b, (hb.cell (p := ⟨2, 0, none⟩) (by show 2 < B; omega)).trans h2⟩, ⟨c, d, (hb.cell (p := ⟨3, 0, none⟩) (by show 3 < B; omega)).trans h3⟩, (hb.cell (p := ⟨5, 15, none⟩) (by show 5 < B; omega)).trans h5, Nat.lt_of_lt_of_le hs hb.size⟩
theorem Vars.grow {w w' : World} (h : Vars w) (hb : Below w.heap.size w w') : Vars w' := h.below hb h.2.2.2.2

theorem below_bytes (w : World) (t : ByteArray) : Below w.heap.size w (Lib.bytesWorld w 5 t) :=
  ⟨rfl, rfl, rfl, by rw [Lib.bytesWorld_size]; omega, fun k hk => Lib.bytesWorld_at_old w 5 t k hk⟩

set_option maxRecDepth 100000 in
theorem parse_empty (w : World) : Calls Tryd.prog 50 #[.string ⟨#[]⟩, .int .i64 16, .int .i64 16] w fun e w' => e = .returned (.tuple #[.int .u64 0, errV 2]) ∧ w' = w := by
  go_enter Tryd.func50, Tryd.ntmps50
  go_wp2
  go_ret2
  exact ⟨rfl, rfl⟩

theorem parse_mid (t : ByteArray) (hmax : t.size ≤ 9223372036854775806) (w : World) :
    Calls Tryd.prog 50 #[.string t, .int .i64 16, .int .i64 16] w fun e w' => e = .returned (.tuple #[.int .u64 ((hexS t.data.toList).2 : Int), errV (hexS t.data.toList).1]) ∧ Below w.heap.size w w' := by
  by_cases h : t.size = 0
  · have ht : t = ⟨#[]⟩ := by
      obtain ⟨d⟩ := t
      have : d.size = 0 := h
      rw [Array.size_eq_zero_iff] at this
      rw [this]
    subst ht
    refine (parse_empty w).mono ?_
    rintro e w' ⟨rfl, rfl⟩
    exact ⟨rfl, Below.refl _ _⟩
  · have hl : t.data.toList ≠ [] := by
      intro e; apply h
      have := congrArg List.length e
      simpa using this
    rw [hexS, if_neg hl]
    refine (parse_in t h hmax w).mono ?_
    rintro e w' ⟨rfl, rfl⟩
    exact ⟨rfl, below_bytes w t⟩

/-- Does it end well? -/
def hexOk (l : List UInt8) : Option Nat := if (hexS l).1 = 0 then some (hexS l).2 else none

theorem hexP_tag : ∀ (l : List UInt8) (acc : Nat), (hexP acc l).1 = 0 ∨ (hexP acc l).1 = 1 ∨ (hexP acc l).1 = 2
  | [], acc => Or.inl rfl
  | c :: r, acc => by
    unfold hexP
    split
    · exact Or.inr (Or.inr rfl)
    · split
      · exact Or.inr (Or.inl rfl)
      · exact hexP_tag r _
theorem hexS_tag (l : List UInt8) : (hexS l).1 = 0 ∨ (hexS l).1 = 1 ∨ (hexS l).1 = 2 := by
  unfold hexS; split
  · exact Or.inr (Or.inr rfl)
  · exact hexP_tag l 0

theorem parse_ok (t : ByteArray) (n : Nat) (hn : hexOk t.data.toList = some n) (hmax : t.size ≤ 281474976710656) (w : World) :
    Calls Tryd.prog 43 #[.string t, .int .i64 16, .int .i64 16] w fun e w' => e = .returned (.tuple #[.int .u64 (n : Int), .nilIface]) ∧ Below w.heap.size w w' := by
  have h0 : (hexS t.data.toList).1 = 0 ∧ (hexS t.data.toList).2 = n := by
    unfold hexOk at hn; split at hn
    · rename_i h; exact ⟨h, by injection hn⟩
    · cases hn
  have HE : Hid (errV (hexS t.data.toList).1 = .nilIface ∧ ((hexS t.data.toList).2 : Int) = n) := by rw [Hid, h0.1, h0.2]; exact ⟨rfl, rfl⟩
  clear h0 hn
  go_enter Tryd.func43, Tryd.ntmps43
  go_wp2_with (go_at_call 50; refine (parse_mid t (by omega) _).mono ?_; rintro e w1 ⟨rfl, hb⟩; rw [HE.out.1, HE.out.2])
  go_ret2
  exact ⟨rfl, hb⟩

theorem parse_err (t : ByteArray) (hn : hexOk t.data.toList = none) (hmax : t.size ≤ 281474976710656) (w : World) (hV : Vars w) :
    Calls Tryd.prog 43 #[.string t, .int .i64 16, .int .i64 16] w fun e w' => ∃ (v : Int) (N : Nat), e = .returned (.tuple #[.int .u64 v, .iface 106 (.pointer (some ⟨N, 0, none⟩))]) ∧ Below w.heap.size w w' := by
  have h0 : (hexS t.data.toList).1 ≠ 0 := by
    intro h; unfold hexOk at hn; rw [if_pos h] at hn; cases hn
  have h1 := hexS_tag t.data.toList
  obtain ⟨v, hv⟩ : ∃ v, ((hexS t.data.toList).2 : Int) = v := ⟨_, rfl⟩
  rcases h1 with h1 | h1 | h1
  · exact absurd h1 h0
  · have HE : Hid (errV (hexS t.data.toList).1 = .iface 103 (.int .i64 1) ∧ ((hexS t.data.toList).2 : Int) = v) := by rw [Hid, h1]; exact ⟨rfl, hv⟩
    clear h0 h1 hv hn
    go_enter Tryd.func43, Tryd.ntmps43
    go_wp2_with (first
      | (go_at_call 50; refine (parse_mid t (by omega) _).mono ?_; rintro e w1 ⟨rfl, hb⟩; have B1 : Hid (Below w.heap.size w w1) := hb; clear hb; rw [HE.out.1, HE.out.2])
      | (go_at_call 51; obtain ⟨te, pe, h3⟩ := (hV.grow B1.out).2.2.1; refine (Tryd.strconv_toError_range _ t _ _ _ _ hmax h3 (Or.inr ⟨te, pe, rfl⟩)).mono ?_; rintro e w2 ⟨N, rfl, hN, hcell, hb2⟩; have B2 : Hid (Below w1.heap.size w1 w2) := hb2; clear hb2 hcell h3))
    go_ret2
    exact ⟨v, N, rfl, B1.out.trans (B2.out.mono B1.out.size)⟩
  · have HE : Hid (errV (hexS t.data.toList).1 = .iface 103 (.int .i64 2) ∧ ((hexS t.data.toList).2 : Int) = v) := by rw [Hid, h1]; exact ⟨rfl, hv⟩
    clear h0 h1 hv hn
    go_enter Tryd.func43, Tryd.ntmps43
    go_wp2_with (first
      | (go_at_call 50; refine (parse_mid t (by omega) _).mono ?_; rintro e w1 ⟨rfl, hb⟩; have B1 : Hid (Below w.heap.size w w1) := hb; clear hb; rw [HE.out.1, HE.out.2])
      | (go_at_call 51; obtain ⟨te, pe, h3⟩ := (hV.grow B1.out).2.1; refine (Tryd.strconv_toError_syntax _ t _ _ _ _ hmax h3 (Or.inr ⟨te, pe, rfl⟩)).mono ?_; rintro e w2 ⟨N, rfl, hN, hcell, hb2⟩; have B2 : Hid (Below w1.heap.size w1 w2) := hb2; clear hb2 hcell h3))
    go_ret2
    exact ⟨v, N, rfl, B1.out.trans (B2.out.mono B1.out.size)⟩
end Go.Proofs.YtoijfnkbjdekoaaDoor
