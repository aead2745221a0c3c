/- What lolli's distinct answers: each number once, in the order of the first ones. -/
import Derived.Test.YtlhlihphhmiflaaWindowWalk
namespace Go.Proofs.Ytlhlihphhmiflaa
open Go.ChangeShapes Go.WideShapes Go.ChangeAt Go.RowKit
set_option linter.unusedVariables false
set_option linter.unusedSimpArgs false

/-- Each number once, in the order of the first ones. -/
def dd (l : List Int) : List Int := l.foldl (fun acc x => if x ∈ acc then acc else acc ++ [x]) []

theorem dd_snoc (l : List Int) (x : Int) : dd (l ++ [x]) = if x ∈ dd l then dd l else dd l ++ [x] := by
  unfold dd; rw [List.foldl_append]; rfl

theorem take_snoc (zs : List Int) (k : Nat) (h : k < zs.length) : zs.take (k + 1) = zs.take k ++ [zs.getD k 0] := by
  rw [List.take_succ_eq_append_getElem h]; simp [h]

theorem mem_dd (zs : List Int) (k : Nat) (h : k ≤ zs.length) : ∀ y : Int, y ∈ dd (zs.take k) ↔ y ∈ zs.take k := by
  induction k with
  | zero => simp [dd]
  | succ k ih =>
    have ih := ih (by omega)
    intro y
    rw [take_snoc zs k h, dd_snoc]
    by_cases hx : zs.getD k 0 ∈ dd (zs.take k)
    · rw [if_pos hx, ih]
      have hx' := (ih _).1 hx
      simp only [List.mem_append, List.mem_singleton]
      constructor
      · exact Or.inl
      · rintro (h | h)
        · exact h
        · rw [h]; exact hx'
    · rw [if_neg hx]; simp only [List.mem_append, ih]

theorem dd_yes (zs : List Int) (k : Nat) (h : k < zs.length) (hx : zs.getD k 0 ∈ zs.take k) : dd (zs.take (k + 1)) = dd (zs.take k) := by
  rw [take_snoc zs k h, dd_snoc, if_pos ((mem_dd zs k (by omega) _).2 hx)]

theorem dd_no (zs : List Int) (k : Nat) (h : k < zs.length) (hx : ¬ zs.getD k 0 ∈ zs.take k) : dd (zs.take (k + 1)) = dd (zs.take k) ++ [zs.getD k 0] := by
  rw [take_snoc zs k h, dd_snoc, if_neg (fun h' => hx ((mem_dd zs k (by omega) _).1 h'))]

theorem dd_len (zs : List Int) (k : Nat) (h : k ≤ zs.length) : (dd (zs.take k)).length ≤ k := by
  induction k with
  | zero => simp [dd]
  | succ k ih =>
    have ih := ih (by omega)
    by_cases hx : zs.getD k 0 ∈ zs.take k
    · rw [dd_yes zs k h hx]; omega
    · rw [dd_no zs k h hx]; simp; omega

theorem find_dd (zs : List Int) (p : Int → Bool) (k : Nat) (h : k ≤ zs.length) : (dd (zs.take k)).find? p = (zs.take k).find? p := by
  induction k with
  | zero => simp [dd]
  | succ k ih =>
    have ih := ih (by omega)
    rw [take_snoc zs k h, List.find?_append]
    by_cases hx : zs.getD k 0 ∈ zs.take k
    · rw [← take_snoc zs k h, dd_yes zs k h hx, ih]
      cases hf : (zs.take k).find? p with
      | some a => simp
      | none =>
        have := (List.find?_eq_none.1 hf) _ hx
        have h2 : p (zs.getD k 0) = false := by simpa using this
        simp only [List.find?, h2]; rfl
    · rw [← take_snoc zs k h, dd_no zs k h hx, List.find?_append, ih]

def zcells : Array Value := Array.replicate 256 (.bool false)
theorem zcells_at (j : Nat) (h : j < 256) : zcells[j]? = some (.bool false) := by simp [zcells, h]
theorem zcells_ne : ¬ zcells = #[] := by intro h; have := congrArg Array.size h; simp [zcells] at this
theorem zval (w : World) : (zeroValue 40).run Try.prog w = .ok (.agg zcells) w := by kernel_rfl
theorem info3 : (Try.prog.info? 3).map (fun i => (i.zero, i.size, i.bytes)) = some (some (.int .i64 0), 1, 8) := by kernel_rfl

/-- A number that was not met yet: what a round does to memory. -/
theorem round_new {w wr w1 : World} {v : Value} {n : Nat} {xs : List Value} {x : Int} {seen : Int → Bool} (hx0 : 0 ≤ x) (hx : x < 256) (hsz : w.heap.size < wr.heap.size) (hnx : Below w.heap.size w wr)
    (hown : wr.ownsRow (w.heap.size + 1) 3 1 v n xs)
    (Hs : ∀ j : Nat, j < 256 → wr.cell? ⟨w.heap.size, j, none⟩ = some (.bool (seen j))) (Hf : ∀ j : Nat, wr.frozen? ⟨w.heap.size, j, none⟩ = false)
    (hg : ((wr.setCell ⟨w.heap.size, x.toNat, none⟩ (.bool true)).alloc (.cells #[.int .i64 x] 3)).grownBy w1 v.ownBlock) :
    (∀ j : Nat, j < 256 → w1.cell? ⟨w.heap.size, j, none⟩ = some (.bool (seen j || decide ((j : Int) = x)))) ∧ (∀ j : Nat, w1.frozen? ⟨w.heap.size, j, none⟩ = false) ∧ w.heap.size < w1.heap.size ∧ Below w.heap.size w w1 := by
  have hne : some w.heap.size ≠ v.ownBlock := by
    intro e
    have := (hown.lt _ e.symm).1
    omega
  have hbl : w1.heap[w.heap.size]? = ((wr.setCell ⟨w.heap.size, x.toNat, none⟩ (.bool true)).alloc (.cells #[.int .i64 x] 3)).heap[w.heap.size]? := hg.block _ (by simp; omega) hne
  refine ⟨?_, ?_, ?_, ?_⟩
  · intro j hj
    rw [World.cell?_of_block (w := (wr.setCell ⟨w.heap.size, x.toNat, none⟩ (.bool true)).alloc (.cells #[.int .i64 x] 3)) (a := ⟨w.heap.size, j, none⟩) hbl]
    rw [World.cell?_alloc_past _ _ _ (by simpa using hsz)]
    by_cases hjx : (j : Int) = x
    · obtain rfl : j = x.toNat := by omega
      rw [World.cell?_setCell_same (h := Hs _ hj)]; simp; right; omega
    · rw [World.cell?_setCell_other (h := by intro h; simp only [Addr.mk.injEq] at h; omega), Hs j hj]; simp [hjx]
  · intro j
    rw [World.frozen?_of_block (w := (wr.setCell ⟨w.heap.size, x.toNat, none⟩ (.bool true)).alloc (.cells #[.int .i64 x] 3)) (a := ⟨w.heap.size, j, none⟩) hbl]
    rw [World.frozen?_alloc_past _ _ _ (by simpa using hsz)]
    simpa using Hf j
  · have := hg.size; simp at this; omega
  · refine Below.grown (w := (wr.setCell ⟨w.heap.size, x.toNat, none⟩ (.bool true)).alloc (.cells #[.int .i64 x] 3)) ?_ hg (by simp; omega) ?_
    · exact (hnx.setCell (Nat.le_refl _) _).alloc (by simp; omega) _
    · intro k hk; have := (hown.lt _ hk).1; omega

set_option maxHeartbeats 800000 in
theorem distinct_any (b off len cap : Nat) (zs : List Int) (w : World) (hl : zs.length = len) (hm : len ≤ 1000) (hb : b < w.heap.size)
    (hc : ∀ k, k < len → w.cell? ⟨b, off + k, none⟩ = some (.int .i64 (zs.getD k 0))) (hv : ∀ k, k < len → 0 ≤ zs.getD k 0 ∧ zs.getD k 0 < 256) :
    Calls Try.prog 22 #[.slice (some ⟨b, off, none⟩) len cap] w fun e w' => ∃ v, e = .returned v ∧ w'.ownsRow (w.heap.size + 1) 3 1 v (dd zs).length ((dd zs).map (Value.int .i64)) ∧ Below w.heap.size w w' := by
  obtain ⟨i0, hi, hz0, hz1, hz2⟩ := info_parts info3
  have hzv := zval
  have hzn := zcells_ne
  have HC : Hid (∀ k, k < len → w.cell? ⟨b, off + k, none⟩ = some (.int .i64 (zs.getD k 0))) := hc
  have HV : Hid (∀ k, k < len → 0 ≤ zs.getD k 0 ∧ zs.getD k 0 < 256) := hv
  have HL : Hid (zs.length = len) := hl
  clear hc hv hl
  go_enter Try.func22, Try.ntmps22
  go_wp2
  go_loopw [4, 9] (fun v i wr => ∃ k : Nat, k ≤ len ∧ i = .int .i64 k ∧ wr.ownsRow (w.heap.size + 1) 3 1 v (dd (zs.take k)).length ((dd (zs.take k)).map (Value.int .i64)) ∧
      Hid (∀ j : Nat, j < 256 → wr.cell? ⟨w.heap.size, j, none⟩ = some (.bool (decide ((j : Int) ∈ zs.take k)))) ∧ Hid (∀ j : Nat, wr.frozen? ⟨w.heap.size, j, none⟩ = false) ∧ w.heap.size < wr.heap.size ∧ Below w.heap.size w wr)
    (fun _ i _ => len - (intOf i).toNat)
  case atStart =>
    refine ⟨0, Nat.zero_le _, rfl, World.ownsRow_nil _ _ _ _, ?_, ?_, by simp, by go_grown⟩
    · intro j hj; simp [zcells_at j hj]
    · intro j; simp
  case round =>
    obtain ⟨k, hk, rfl, hown, Hs, Hf, hsz, hnx⟩ := hrel
    by_cases hlt : k < len
    · have hcell : wr.cell? ⟨b, off + k, none⟩ = some (.int .i64 (zs.getD k 0)) := (hnx.cell (p := ⟨b, off + k, none⟩) hb).trans (HC.out k hlt)
      have hx := HV.out k hlt
      have hseen := Hs.out (zs.getD k 0).toNat (by omega)
      have hfz := Hf.out (zs.getD k 0).toNat
      have e : (((zs.getD k 0).toNat : Nat) : Int) = zs.getD k 0 := by omega
      rw [e] at hseen
      have HK : Hid (k < zs.length) := by show k < zs.length; rw [HL.out]; exact hlt
      by_cases hin : zs.getD k 0 ∈ zs.take k
      · rw [decide_eq_true hin] at hseen
        have HD : Hid (dd (zs.take (k + 1)) = dd (zs.take k)) := dd_yes zs k HK.out hin
        have HT : Hid (∀ y : Int, y ∈ zs.take (k + 1) ↔ y ∈ zs.take k) := by
          intro y; rw [take_snoc zs k HK.out]; simp only [List.mem_append, List.mem_singleton]
          exact ⟨fun h => h.elim id (fun h => h ▸ hin), Or.inl⟩
        generalize zs.getD k 0 = x at *
        clear hin e
        go_wp2
        go_roundw
        case rel => exact ⟨k + 1, by omega, by go_num, by rw [HD.out]; exact hown, fun j hj => by rw [Hs.out j hj]; simp only [HT.out], Hf, hsz, hnx⟩
        case measure => simp [intOf]; omega
      · rw [decide_eq_false hin] at hseen
        have HD : Hid (dd (zs.take (k + 1)) = dd (zs.take k) ++ [zs.getD k 0]) := dd_no zs k HK.out hin
        have HT : Hid (zs.take (k + 1) = zs.take k ++ [zs.getD k 0]) := take_snoc zs k HK.out
        have hln : (dd (zs.take k)).length ≤ k := dd_len zs k (by have := HK.out; omega)
        generalize zs.getD k 0 = x at *
        have E : Hid ((x.toNat : Int) = x) := e
        clear hin e
        have hown2 := ownsRow_setCell_below hown (a := ⟨w.heap.size, x.toNat, none⟩) (Nat.lt_succ_self _) (.bool true)
        go_wp2_with (at_builtin; refine wpList_append_own _ rfl _ _ 33 rfl (w.heap.size + 1) 3 i0 (.int .i64 0) 1 8 Try.underlying33 hi hz0 hz1 hz2 rfl (by decide) _ _ _ rfl (hown2.alloc _) ⟨wr.heap.size, 0, none⟩ 1 1 [.int .i64 x] rfl rfl ?c1 ?c2 ?c3 ?c4 ?c5 ?_)
        case c1 =>
          intro j u hj
          match j, hj with
          | 0, hj => simp at hj; subst hj; simp [Addr.add, World.cell?_alloc_at]
        case c2 => intro u hu; simp at hu; subst hu; rfl
        case c3 => unfold maxLen; omega
        case c4 => omega
        case c5 => simp; omega
        intro v' w1 hown' hgrow _
        have R := round_new hx.1 hx.2 hsz hnx hown (seen := fun y => decide (y ∈ zs.take k)) Hs.out Hf.out hgrow
        clear hown2 hgrow hown hcell hseen hfz
        have HR : Hid _ := R
        clear R
        go_wp2
        go_roundw
        case rel =>
          obtain ⟨R1, R2, R3, R4⟩ := HR.out
          refine ⟨k + 1, by omega, by go_num, ?_, ?_, R2, R3, R4⟩
          · rw [HD.out]; simpa using hown'
          · intro j hj
            rw [R1 j hj, HT.out]; simp
        case measure => simp [intOf]; omega
    · obtain rfl : k = len := by omega
      go_wp2
      go_ret
      rw [List.take_of_length_le (by rw [HL.out]; omega)] at hown
      exact ⟨_, rfl, hown, hnx⟩
end Go.Proofs.Ytlhlihphhmiflaa
