/- What addr's cut and isBits answer. -/
import Derived.Test.YtoijfnkbjdekoaaDoorBase
namespace Go.Proofs.YtoijfnkbjdekoaaDoor
open Go.ChangeShapes Go.WideShapes Go.ChangeAt Go.RowKit
set_option linter.unusedVariables false
set_option linter.unusedSimpArgs false

theorem and_all : ((List.range 256).all fun n => (List.range 9).all fun s => decide (Go.bits BinOp.and IntKind.u8 (n : Int) ((255 * 2 ^ s % 256 : Nat) : Int) = (n : Int) - ((n % 2 ^ s : Nat) : Int))) = true := by kernel_rfl
theorem bits_and_u8 (x : Int) (h0 : 0 ≤ x) (h1 : x < 256) (s : Nat) (hs : s < 9) : Go.bits BinOp.and IntKind.u8 x ((255 * 2 ^ s % 256 : Nat) : Int) = x - x % (2 ^ s : Nat) := by
  have := List.all_eq_true.1 (List.all_eq_true.1 and_all x.toNat (by simp; omega)) s (by simp; omega)
  rw [decide_eq_true_iff] at this
  have hx : ((x.toNat : Nat) : Int) = x := by omega
  rw [hx] at this
  rw [this, Int.natCast_emod, hx]

/-- The bytes of an address. -/
def Adr (l : List Int) : Prop := l.length = 16 ∧ ∀ x ∈ l, 0 ≤ x ∧ x < 256

/-- How many low bits of byte i are struck. -/
def low (bits : Int) (i : Nat) : Nat := (8 - min (max (bits - 8 * i) 0) 8).toNat
/-- The bits of one byte that are kept. -/
def cutAt (bits : Int) (i : Nat) (x : Int) : Int := x - x % (2 ^ low bits i : Nat)
def cutL (bits : Int) (l : List Int) : List Int := l.mapIdx (cutAt bits)
theorem cutL_len (bits : Int) (l : List Int) : (cutL bits l).length = l.length := by simp [cutL]
theorem getD_mem {l : List Int} {k : Nat} (h : k < l.length) : l.getD k 0 ∈ l := by simp [h]

theorem adr_cut {bits : Int} {l : List Int} (h : Adr l) : Adr (cutL bits l) := by
  refine ⟨by rw [cutL_len]; exact h.1, fun x hx => ?_⟩
  simp only [cutL, List.mem_mapIdx] at hx
  obtain ⟨i, hi, rfl⟩ := hx
  have := h.2 l[i] (List.getElem_mem hi)
  have p : (0 : Int) < (2 ^ low bits i : Nat) := by exact_mod_cast Nat.two_pow_pos _
  have a := Int.emod_nonneg l[i] (Int.ne_of_gt p)
  have b : l[i] % (2 ^ low bits i : Nat) ≤ l[i] := by
    have := Int.emod_add_mul_ediv l[i] (2 ^ low bits i : Nat)
    have q : 0 ≤ l[i] / (2 ^ low bits i : Nat) := Int.ediv_nonneg (by omega) (by omega)
    have := Int.mul_nonneg (Int.le_of_lt p) q
    omega
  simp only [cutAt]; omega

/-- One more byte is cut. -/
theorem cut_next (bits : Int) (l : List Int) (k : Nat) (h : k < l.length) :
    ((cutL bits l).take k ++ l.drop k).set k (cutAt bits k (l.getD k 0)) = (cutL bits l).take (k + 1) ++ l.drop (k + 1) := by
  have hc : (cutL bits l).length = l.length := cutL_len bits l
  apply List.ext_getElem (by simp; omega)
  intro i h1 h2
  rw [List.getElem_set]
  by_cases hik : k = i
  · subst hik
    rw [if_pos rfl, List.getElem_append_left (by simp; omega)]
    simp [cutL, h]
  · rw [if_neg hik]
    by_cases hi : i < k
    · rw [List.getElem_append_left (by simp; omega), List.getElem_append_left (by simp; omega)]; simp
    · rw [List.getElem_append_right (by simp; omega), List.getElem_append_right (by simp; omega)]
      simp only [List.getElem_drop]
      congr 1; simp; omega
theorem cut_at (bits : Int) (l : List Int) (k : Nat) (h : k < l.length) : ((cutL bits l).take k ++ l.drop k).getD k 0 = l.getD k 0 := by
  have hc : (cutL bits l).length = l.length := cutL_len bits l
  rw [List.getD_eq_getElem?_getD, List.getElem?_append_right (by simp; omega)]
  simp; congr 2; omega

theorem ret_bool {a b : Bool} (h : a = b) : Ending.returned (.bool a) = .returned (.bool b) := by rw [h]
/-- May there be so many bits? -/
def bitsB (n : Int) : Bool := decide (0 ≤ n ∧ n ≤ 128)
theorem bitsB_yes {n : Int} (h : bitsB n = true) : 0 ≤ n ∧ n ≤ 128 := by simpa [bitsB] using h
theorem bitsB_no {n : Int} (h : bitsB n = false) : n < 0 ∨ 128 < n := by simp [bitsB] at h; omega

theorem isBits_any (n : Int) (w : World) : Calls Tryd.prog 36 #[.int .i64 n] w fun e w' => e = .returned (.bool (bitsB n)) ∧ w' = w := by
  cases h : bitsB n
  · rcases bitsB_no h with h0 | h0
    · have h3 : decide (0 ≤ n) = false := by simp; omega
      clear h
      go_enter Tryd.func36, Tryd.ntmps36
      go_wp2
      go_ret
      exact ⟨rfl, rfl⟩
    · have h3 : 0 ≤ n := by omega
      have h4 : decide (n ≤ 128) = false := by simp; omega
      clear h
      go_enter Tryd.func36, Tryd.ntmps36
      go_wp2
      go_ret
      exact ⟨rfl, rfl⟩
  · obtain ⟨h0, h1⟩ := bitsB_yes h
    clear h
    go_enter Tryd.func36, Tryd.ntmps36
    go_wp2
    go_ret
    exact ⟨rfl, rfl⟩

set_option maxHeartbeats 1600000 in
theorem cut_any (l : List Int) (bits : Int) (w : World) (ha : Adr l) (h0 : 0 ≤ bits) (h1 : bits ≤ 128) :
    Calls Tryd.prog 34 #[.agg (u8s l), .int .i64 bits] w fun e w' => e = .returned (.agg (u8s (cutL bits l))) ∧ Below w.heap.size w w' := by
  obtain ⟨hl, hv⟩ := ha
  have HV : Hid (∀ x ∈ l, 0 ≤ x ∧ x < 256) := hv
  have HL : Hid (l.length = 16) := hl
  clear hv hl
  go_enter Tryd.func34, Tryd.ntmps34
  go_wp2
  go_loopw [7] (fun i wr => ∃ k : Nat, k ≤ 16 ∧ i = .int .i64 k ∧ Hid (Row wr w.heap.size 25 (u8s ((cutL bits l).take k ++ l.drop k))) ∧ Hid (Row wr (w.heap.size + 1) 25 (u8s (List.replicate 16 0))) ∧ Below w.heap.size w wr)
    (fun i _ => 16 - (intOf i).toNat)
  case atStart =>
    refine ⟨0, Nat.zero_le _, rfl, ?_, ?_, by go_grown⟩
    · show Row _ _ _ _
      simpa using (Row.new w 25 (u8s l)).alloc _
    · show Row _ _ _ _
      have := Row.new (w.alloc (.cells (u8s l) 25)) 25 (u8s (List.replicate 16 0))
      rw [World.size_alloc] at this
      exact this
  case round =>
    obtain ⟨k, hk, rfl, HA, HR, hb⟩ := hrel
    by_cases hlt : k < 16
    · have hkl : k < l.length := by rw [HL.out]; exact hlt
      have hcell : wr.cell? ⟨w.heap.size, k, none⟩ = some (.int .u8 (l.getD k 0)) := by
        rw [HA.out.cell, u8s_at _ _ (by have := cutL_len bits l; simp; omega), cut_at bits l k hkl]
      have hfz := HA.out.frozen k
      have hx := HV.out _ (getD_mem hkl)
      have HN : Hid (∀ y, y = cutAt bits k (l.getD k 0) → Row (wr.setCell ⟨w.heap.size, k, none⟩ (.int .u8 y)) w.heap.size 25 (u8s ((cutL bits l).take (k + 1) ++ l.drop (k + 1)))) := by
        rintro y rfl; rw [← cut_next bits l k hkl, ← u8s_set]; exact HA.out.set k _
      clear hkl
      generalize l.getD k 0 = x at *
      have c : bits - 8 * (k : Int) < 0 ∨ 8 < bits - 8 * (k : Int) ∨ bits - 8 * (k : Int) = 0 ∨ bits - 8 * (k : Int) = 1 ∨ bits - 8 * (k : Int) = 2 ∨ bits - 8 * (k : Int) = 3 ∨ bits - 8 * (k : Int) = 4 ∨ bits - 8 * (k : Int) = 5 ∨ bits - 8 * (k : Int) = 6 ∨ bits - 8 * (k : Int) = 7 ∨ bits - 8 * (k : Int) = 8 := by omega
      have hlw : low bits k = (8 - min (max (bits - 8 * k) 0) 8).toNat := rfl
      have hct : cutAt bits k x = x - x % (2 ^ low bits k : Nat) := rfl
      rcases c with c | c | c | c | c | c | c | c | c | c | c
      all_goals
        have HE : Hid (low bits k = (8 - min (max (bits - 8 * k) 0) 8).toNat ∧ cutAt bits k x = x - x % (2 ^ low bits k : Nat)) := ⟨hlw, hct⟩
        clear hlw hct
        try (have c' : (if bits - 8 * (k : Int) < 0 then 0 else bits - 8 * (k : Int)) = 0 := if_pos c)
        try (have c' : ¬ bits - 8 * (k : Int) < 0 := by omega
             have c'' : ¬ bits - 8 * (k : Int) ≤ 8 := by omega)
        go_wp2
        go_region
        go_wp2
        go_roundw
        case rel =>
          refine ⟨k + 1, by omega, by go_num, HN.out _ ?_, HR.out.other _ _ (by simp), (hb.setCell (Nat.le_refl _) _).drew⟩
          obtain ⟨e1, e2⟩ := HE.out
          first
            | (have e3 : low bits k = 8 := by omega
               rw [e2, e3]; exact bits_and_u8 x hx.1 hx.2 8 (by omega))
            | (have e3 : low bits k = 7 := by omega
               rw [e2, e3]; exact bits_and_u8 x hx.1 hx.2 7 (by omega))
            | (have e3 : low bits k = 6 := by omega
               rw [e2, e3]; exact bits_and_u8 x hx.1 hx.2 6 (by omega))
            | (have e3 : low bits k = 5 := by omega
               rw [e2, e3]; exact bits_and_u8 x hx.1 hx.2 5 (by omega))
            | (have e3 : low bits k = 4 := by omega
               rw [e2, e3]; exact bits_and_u8 x hx.1 hx.2 4 (by omega))
            | (have e3 : low bits k = 3 := by omega
               rw [e2, e3]; exact bits_and_u8 x hx.1 hx.2 3 (by omega))
            | (have e3 : low bits k = 2 := by omega
               rw [e2, e3]; exact bits_and_u8 x hx.1 hx.2 2 (by omega))
            | (have e3 : low bits k = 1 := by omega
               rw [e2, e3]; exact bits_and_u8 x hx.1 hx.2 1 (by omega))
            | (have e3 : low bits k = 0 := by omega
               rw [e2, e3]; exact bits_and_u8 x hx.1 hx.2 0 (by omega))
        case measure => simp [intOf]; omega
    · obtain rfl : k = 16 := by omega
      have hcl : (cutL bits l).length = 16 := by rw [cutL_len]; exact HL.out
      have hA : Row wr w.heap.size 25 (u8s (cutL bits l)) := HA.out.as (by rw [List.take_of_length_le (by omega), List.drop_of_length_le (by rw [HL.out]; omega), List.append_nil])
      have hR : Row wr (w.heap.size + 1) 25 (u8s (List.replicate 16 0)) := HR.out
      go_wp2_with (first
        | (refine ld25 _ rfl rfl w.heap.size 0 rfl (cutL bits l) hcl hA.part ?_)
        | (refine st25 _ _ rfl rfl (w.heap.size + 1) (cutL bits l) hcl rfl rfl 25 _ (by simp [u8s_size]) hR ?_))
      refine bodyPost_ret (res25 rfl _ _ _ 25 (cutL bits l) hcl rfl (hR.setRow _)) rfl ⟨rfl, ?_⟩
      exact below_setRow hb (by omega) _
end Go.Proofs.YtoijfnkbjdekoaaDoor
