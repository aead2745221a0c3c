/- Texts, without a walk: what is told is read back; the reference's way of telling. -/
import Derived.Test.YtoijfnkbjdekoaaDoorTxp
namespace Go.Proofs.YtoijfnkbjdekoaaDoor
open Go.ChangeShapes Go.WideShapes Go.ChangeAt Go.RowKit
set_option linter.unusedVariables false
set_option linter.unusedSimpArgs false

theorem jn_le (a : List Int) : (jn a).length ≤ 5 * a.length ∧ (a ≠ [] → (jn a).length + 1 ≤ 5 * a.length) := by
  cases a with
  | nil => exact ⟨by decide, fun h => absurd rfl h⟩
  | cons x r =>
    have h1 := tail_len (r.map fun x => hexT x.toNat) (by intro y hy; obtain ⟨z, _, rfl⟩ := List.mem_map.1 hy; exact (hexT_len _).2)
    have h2 := (hexT_len x.toNat).2
    rw [List.length_map] at h1
    have : (jn (x :: r)).length + 1 ≤ 5 * (x :: r).length := by
      rw [jn, List.map_cons, Lib.join_cons, List.length_append, List.length_cons]
      omega
    exact ⟨by omega, fun _ => this⟩
theorem txt_len (g : List Int) (hl : g.length = 8) : (txt g).length ≤ 39 := by
  obtain ⟨hzz, _⟩ := zr_zz g
  have hok := zr_ok g
  unfold txt
  generalize (zr g).1 = f at *
  generalize (zr g).2 = t at *
  by_cases hft : f = t
  · rw [if_pos hft]
    have := (jn_le g).2 (by intro e; rw [e] at hl; simp at hl)
    omega
  · rw [if_neg hft, List.length_append, List.length_append]
    have h1 := (jn_le (g.take f)).1
    have h2 := (jn_le (g.drop t)).1
    rw [List.length_take] at h1
    rw [List.length_drop] at h2
    simp only [List.length_cons, List.length_nil]
    rcases hzz with h | h
    · exact absurd h hft
    · omega
theorem of_grp (l : List Int) (h : Adr l) : ofL (grpL l) = l := by
  obtain ⟨hl, hb⟩ := h
  match l, hl with
  | [a0, a1, a2, a3, a4, a5, a6, a7, a8, a9, a10, a11, a12, a13, a14, a15], _ =>
    have hg : grpL [a0, a1, a2, a3, a4, a5, a6, a7, a8, a9, a10, a11, a12, a13, a14, a15] = [256 * a0 + a1, 256 * a2 + a3, 256 * a4 + a5, 256 * a6 + a7, 256 * a8 + a9, 256 * a10 + a11, 256 * a12 + a13, 256 * a14 + a15] := rfl
    have k0 := hb a0 (by simp)
    have k1 := hb a1 (by simp)
    have k2 := hb a2 (by simp)
    have k3 := hb a3 (by simp)
    have k4 := hb a4 (by simp)
    have k5 := hb a5 (by simp)
    have k6 := hb a6 (by simp)
    have k7 := hb a7 (by simp)
    have k8 := hb a8 (by simp)
    have k9 := hb a9 (by simp)
    have k10 := hb a10 (by simp)
    have k11 := hb a11 (by simp)
    have k12 := hb a12 (by simp)
    have k13 := hb a13 (by simp)
    have k14 := hb a14 (by simp)
    have k15 := hb a15 (by simp)
    have e : ∀ x y : Int, 0 ≤ x ∧ x < 256 → 0 ≤ y ∧ y < 256 → (256 * x + y) / 256 = x ∧ (256 * x + y) % 256 = y := by intro x y hx hy; omega
    rw [hg]
    simp only [ofL, (e a0 a1 k0 k1).1, (e a0 a1 k0 k1).2, (e a2 a3 k2 k3).1, (e a2 a3 k2 k3).2, (e a4 a5 k4 k5).1, (e a4 a5 k4 k5).2, (e a6 a7 k6 k7).1, (e a6 a7 k6 k7).2, (e a8 a9 k8 k9).1, (e a8 a9 k8 k9).2, (e a10 a11 k10 k11).1, (e a10 a11 k10 k11).2, (e a12 a13 k12 k13).1, (e a12 a13 k12 k13).2, (e a14 a15 k14 k15).1, (e a14 a15 k14 k15).2]
theorem ofB_grp (l : List Int) (h : Adr l) : ofB (grpL l) = true := by
  rw [ofB, grpL_len]
  simp only [decide_true, Bool.true_and, List.all_eq_true]
  intro x hx
  have := grp_ok h x hx
  simp [okG]; omega
theorem ofA_grp (l : List Int) (h : Adr l) : ofA (grpL l) = l := by rw [ofA, ofB_grp l h, if_pos rfl, of_grp l h]
theorem ofE_grp (l : List Int) (h : Adr l) : ofE (grpL l) = 0 := by rw [ofE, ofB_grp l h, if_pos rfl]
/-- What is told is read back. -/
theorem prs_txt (l : List Int) (h : Adr l) : prsB ⟨(txt (grpL l)).toArray⟩ = true ∧ prsA ⟨(txt (grpL l)).toArray⟩ = l := by
  have hg := gof_txt (grpL l) (grpL_len l) (grp_ok h)
  have hl := txt_len (grpL l) (grpL_len l)
  have hb : prsB ⟨(txt (grpL l)).toArray⟩ = true := by
    have hs : (⟨(txt (grpL l)).toArray⟩ : ByteArray).size = (txt (grpL l)).length := by simp [ByteArray.size]
    rw [prsB, hg, ofB_grp l h, ofA_grp l h, hs, decide_eq_true hl]
    simp
  exact ⟨hb, by rw [prsA, hb, if_pos rfl, hg, ofA_grp l h]⟩

/-! The reference's run of zeros. -/
def zrun (g : List Int) : Nat → Nat → Nat
  | 0, _ => 0
  | f + 1, i => if g.getD i 0 = 0 then zrun g f (i + 1) + 1 else 0
def rst (g : List Int) : Nat → Nat × Nat
  | 0 => (0, 1)
  | k + 1 => if (rst g k).2 < zrun g (8 - k) k then (k, zrun g (8 - k) k) else rst g k
def pat (b : List Bool) : List Int := b.map fun x => if x then 0 else 1
theorem rst_pat : ∀ b0 b1 b2 b3 b4 b5 b6 b7 : Bool, (rst (pat [b0, b1, b2, b3, b4, b5, b6, b7]) 8 == (if (zr (pat [b0, b1, b2, b3, b4, b5, b6, b7])).1 = (zr (pat [b0, b1, b2, b3, b4, b5, b6, b7])).2 then (0, 1) else ((zr (pat [b0, b1, b2, b3, b4, b5, b6, b7])).1, (zr (pat [b0, b1, b2, b3, b4, b5, b6, b7])).2 - (zr (pat [b0, b1, b2, b3, b4, b5, b6, b7])).1))) = true := by decide +kernel
def Same (g g' : List Int) : Prop := ∀ i, g.getD i 0 = 0 ↔ g'.getD i 0 = 0
theorem zrun_same {g g' : List Int} (h : Same g g') : ∀ f i, zrun g f i = zrun g' f i
  | 0, _ => rfl
  | f + 1, i => by
    unfold zrun
    by_cases h0 : g.getD i 0 = 0
    · rw [if_pos h0, if_pos ((h i).1 h0), zrun_same h f (i + 1)]
    · rw [if_neg h0, if_neg (fun e => h0 ((h i).2 e))]
theorem rst_same {g g' : List Int} (h : Same g g') : ∀ k, rst g k = rst g' k
  | 0 => rfl
  | k + 1 => by unfold rst; rw [rst_same h k, zrun_same h]
theorem zin_same {g g' : List Int} (h : Same g g') (first : Nat) : ∀ f i st, zin g first f i st = zin g' first f i st
  | 0, _, _ => rfl
  | f + 1, i, st => by
    unfold zin
    by_cases h0 : g.getD i 0 = 0
    · rw [if_pos h0, if_pos ((h i).1 h0), zin_same h first f (i + 1)]
    · rw [if_neg h0, if_neg (fun e => h0 ((h i).2 e))]
theorem zout_same {g g' : List Int} (h : Same g g') : ∀ f first st, zout g f first st = zout g' f first st
  | 0, _, _ => rfl
  | f + 1, first, st => by unfold zout; rw [zin_same h, zout_same h f]
theorem rst_zr (g : List Int) (hl : g.length = 8) : rst g 8 = if (zr g).1 = (zr g).2 then (0, 1) else ((zr g).1, (zr g).2 - (zr g).1) := by
  match g, hl with
  | [a0, a1, a2, a3, a4, a5, a6, a7], _ =>
    have hs : Same [a0, a1, a2, a3, a4, a5, a6, a7] (pat [decide (a0 = 0), decide (a1 = 0), decide (a2 = 0), decide (a3 = 0), decide (a4 = 0), decide (a5 = 0), decide (a6 = 0), decide (a7 = 0)]) := by
      have key : ∀ a : Int, a = 0 ↔ (if decide (a = 0) = true then (0 : Int) else 1) = 0 := by
        intro a
        by_cases h : a = 0
        · simp [h]
        · simp [h]
      intro i
      match i with
      | 0 => exact key a0
      | 1 => exact key a1
      | 2 => exact key a2
      | 3 => exact key a3
      | 4 => exact key a4
      | 5 => exact key a5
      | 6 => exact key a6
      | 7 => exact key a7
      | i + 8 => exact Iff.rfl
    have e := beq_iff_eq.1 (rst_pat (decide (a0 = 0)) (decide (a1 = 0)) (decide (a2 = 0)) (decide (a3 = 0)) (decide (a4 = 0)) (decide (a5 = 0)) (decide (a6 = 0)) (decide (a7 = 0)))
    have ez : zr [a0, a1, a2, a3, a4, a5, a6, a7] = zr (pat [decide (a0 = 0), decide (a1 = 0), decide (a2 = 0), decide (a3 = 0), decide (a4 = 0), decide (a5 = 0), decide (a6 = 0), decide (a7 = 0)]) := zout_same hs 8 0 (0, 0)
    rw [rst_same hs, e, ez]

/-! The reference's text, as it grows. -/
def rs (g : List Int) (f t k : Nat) : List UInt8 :=
  if f = t ∨ k ≤ f then jn (g.take k) else if k ≤ t then jn (g.take f) ++ [58, 58] else jn (g.take f) ++ [58, 58] ++ jn ((g.drop t).take (k - t))
/-- A colon is wanted ahead of the next group. -/
def wantC (s : List UInt8) : Bool := decide (s ≠ []) && decide (s.getLast? ≠ some 58)
theorem jn_snoc (a : List Int) (x : Int) (h : a ≠ []) : jn (a ++ [x]) = jn a ++ [58] ++ hexT x.toNat := by
  cases a with
  | nil => exact absurd rfl h
  | cons y r =>
    simp only [jn, List.cons_append, List.map_cons, List.map_append, List.map_nil, Lib.join_cons, Lib.joinTail, List.flatten_append, List.flatten_cons, List.flatten_nil, List.append_nil, List.append_assoc]
theorem good_jn (a : List Int) (h : InG a) (hne : a ≠ []) : Good (jn a) := by
  cases a with
  | nil => exact absurd rfl hne
  | cons x r =>
    have hw := words_hex (x :: r) h
    rw [List.map_cons] at hw
    exact good_join _ _ hw
theorem want_jn (a : List Int) (h : InG a) (hne : a ≠ []) : wantC (jn a) = true := by
  have hg := good_jn a h hne
  simp [wantC, hg.ne, hg.last]
theorem take_snoc' (g : List Int) (k : Nat) (h : k < g.length) : g.take (k + 1) = g.take k ++ [g.getD k 0] := take_snoc g k h
theorem jn_next (g : List Int) (k : Nat) (hk : k < g.length) (h : InG g) : jn (g.take (k + 1)) = jn (g.take k) ++ (if wantC (jn (g.take k)) then [58] else []) ++ hexT (g.getD k 0).toNat := by
  rw [take_snoc g k hk]
  cases k with
  | zero => simp [jn, wantC, Lib.join, List.intercalate]
  | succ k =>
    have hne : g.take (k + 1) ≠ [] := by intro e; have h9 := congrArg List.length e; rw [List.length_take, List.length_nil] at h9; omega
    rw [jn_snoc _ _ hne, want_jn _ (fun x hx => h x (List.mem_of_mem_take hx)) hne]
    rfl
theorem rs_out (g : List Int) (hl : g.length = 8) (h : InG g) (f t k : Nat) (hft : f = t ∨ f + 2 ≤ t) (ht : t ≤ 8) (hk : k < 8) (ho : f = t ∨ k < f ∨ t ≤ k) :
    rs g f t (k + 1) = rs g f t k ++ (if wantC (rs g f t k) then [58] else []) ++ hexT (g.getD k 0).toNat := by
  by_cases h1 : f = t ∨ k < f
  · have e1 : rs g f t (k + 1) = jn (g.take (k + 1)) := by rw [rs, if_pos (by omega)]
    have e2 : rs g f t k = jn (g.take k) := by rw [rs, if_pos (by omega)]
    rw [e1, e2]
    exact jn_next g k (by omega) h
  · have htk : t ≤ k := by omega
    have e1 : rs g f t (k + 1) = jn (g.take f) ++ [58, 58] ++ jn ((g.drop t).take (k - t + 1)) := by rw [rs, if_neg (by omega), if_neg (by omega), show k + 1 - t = k - t + 1 by omega]
    have e2 : rs g f t k = jn (g.take f) ++ [58, 58] ++ jn ((g.drop t).take (k - t)) := by
      by_cases hkt : k = t
      · subst hkt
        rw [rs, if_neg (by omega), if_pos (Nat.le_refl _), Nat.sub_self]
        simp [jn, Lib.join, List.intercalate]
      · rw [rs, if_neg (by omega), if_neg (by omega)]
    have hg : (g.drop t).getD (k - t) 0 = g.getD k 0 := by
      rw [List.getD_eq_getElem?_getD, List.getD_eq_getElem?_getD, List.getElem?_drop, show t + (k - t) = k by omega]
    have hin : InG (g.drop t) := fun x hx => h x (List.mem_of_mem_drop hx)
    have en := jn_next (g.drop t) (k - t) (by rw [List.length_drop]; omega) hin
    rw [hg] at en
    have ew : wantC (jn (g.take f) ++ [58, 58] ++ jn ((g.drop t).take (k - t))) = wantC (jn ((g.drop t).take (k - t))) := by
      by_cases h0 : (g.drop t).take (k - t) = []
      · rw [h0]
        simp [jn, wantC, Lib.join, List.intercalate, List.getLast?_append]
      · have hgd := good_jn _ (fun x hx => hin x (List.mem_of_mem_take hx)) h0
        have hl : (jn (g.take f) ++ [58, 58] ++ jn ((g.drop t).take (k - t))).getLast? = (jn ((g.drop t).take (k - t))).getLast? := by
          rw [List.getLast?_append]
          cases hj : jn ((g.drop t).take (k - t)) with
          | nil => exact absurd hj hgd.ne
          | cons c r => simp [List.getLast?_cons]
        rw [wantC, wantC, hl]
        simp [hgd.ne]
    rw [e1, e2, ew, en]
    simp [List.append_assoc]
theorem rs_at (g : List Int) (f t : Nat) (h : f + 2 ≤ t) : rs g f t (f + 1) = rs g f t f ++ [58, 58] := by
  rw [rs, if_neg (by omega), if_pos (by omega), rs, if_pos (by omega)]
theorem rs_in (g : List Int) (f t k : Nat) (h : f + 2 ≤ t) (h1 : f < k) (h2 : k < t) : rs g f t (k + 1) = rs g f t k := by
  rw [rs, if_neg (by omega), if_pos (by omega), rs, if_neg (by omega), if_pos (by omega)]
theorem rs_end (g : List Int) (hl : g.length = 8) : rs g (zr g).1 (zr g).2 8 = txt g := by
  obtain ⟨hzz, _⟩ := zr_zz g
  have hok := zr_ok g
  unfold txt
  generalize (zr g).1 = f at *
  generalize (zr g).2 = t at *
  by_cases hft : f = t
  · rw [if_pos hft, rs, if_pos (Or.inl hft), List.take_of_length_le (by omega)]
  · rw [if_neg hft, rs, if_neg (by omega)]
    by_cases h8 : 8 ≤ t
    · rw [if_pos h8, List.drop_eq_nil_of_le (by omega)]
      simp [jn, Lib.join, List.intercalate]
    · rw [if_neg h8, List.take_of_length_le (l := g.drop t) (by rw [List.length_drop]; omega)]
end Go.Proofs.YtoijfnkbjdekoaaDoor
