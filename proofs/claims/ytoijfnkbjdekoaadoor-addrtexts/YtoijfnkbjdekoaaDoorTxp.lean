/- Texts, without a walk: the groups that a text names are those that it tells. -/
import Derived.Test.YtoijfnkbjdekoaaDoorParse
namespace Go.Proofs.YtoijfnkbjdekoaaDoor
open Go.ChangeShapes Go.WideShapes Go.ChangeAt Go.RowKit
set_option linter.unusedVariables false
set_option linter.unusedSimpArgs false

/-! A group's text. -/
theorem dg_all : ((List.range 16).all fun d => (dg d != 58) && (hexV (dg d) == some d)) = true := by kernel_rfl
theorem dg_colon (d : Nat) (h : d < 16) : dg d ≠ 58 := by
  have := List.all_eq_true.1 dg_all d (by simp; omega)
  simp at this
  exact this.1
theorem hexV_dg (d : Nat) (h : d < 16) : hexV (dg d) = some d := by
  have := List.all_eq_true.1 dg_all d (by simp; omega)
  simp at this
  exact this.2
theorem hexT_colon (n : Nat) (h : n < 65536) : (58 : UInt8) ∉ hexT n := by
  intro hm
  unfold hexT at hm
  split at hm
  · simp at hm; exact dg_colon n (by omega) hm.symm
  · split at hm
    · simp at hm; rcases hm with e | e
      · exact dg_colon _ (by omega) e.symm
      · exact dg_colon _ (by omega) e.symm
    · split at hm
      · simp at hm; rcases hm with e | e | e
        · exact dg_colon _ (by omega) e.symm
        · exact dg_colon _ (by omega) e.symm
        · exact dg_colon _ (by omega) e.symm
      · simp at hm; rcases hm with e | e | e | e
        · exact dg_colon _ (by omega) e.symm
        · exact dg_colon _ (by omega) e.symm
        · exact dg_colon _ (by omega) e.symm
        · exact dg_colon _ (by omega) e.symm
theorem hexT_ne (n : Nat) : hexT n ≠ [] := by
  intro h
  have := (hexT_len n).1
  rw [h] at this
  simp at this
theorem hexP_step (acc d : Nat) (r : List UInt8) (hd : d < 16) (h : acc * 16 + d ≤ 65535) : hexP acc (dg d :: r) = hexP (acc * 16 + d) r := by
  rw [hexP, hexV_dg d hd]
  simp only []
  rw [if_neg (by omega)]
theorem hexS_hexT (n : Nat) (h : n < 65536) : hexS (hexT n) = (0, n) := by
  rw [hexS, if_neg (hexT_ne n)]
  unfold hexT
  split
  · rw [hexP_step 0 n _ (by omega) (by omega), hexP]; simp
  · split
    · rw [hexP_step 0 _ _ (by omega) (by omega), hexP_step _ _ _ (by omega) (by omega), hexP]
      congr 1; omega
    · split
      · rw [hexP_step 0 _ _ (by omega) (by omega), hexP_step _ _ _ (by omega) (by omega), hexP_step _ _ _ (by omega) (by omega), hexP]
        congr 1; omega
      · rw [hexP_step 0 _ _ (by omega) (by omega), hexP_step _ _ _ (by omega) (by omega), hexP_step _ _ _ (by omega) (by omega), hexP_step _ _ _ (by omega) (by omega), hexP]
        congr 1; omega
theorem num1_hexT (x : Int) (h0 : 0 ≤ x) (h1 : x < 65536) : num1 (hexT x.toNat) = x := by
  have e : hexOk (hexT x.toNat) = some x.toNat := by rw [hexOk, hexS_hexT _ (by omega)]; rfl
  rw [num1, e]
  show ((x.toNat : Nat) : Int) = x
  omega

/-! One colon, and two. -/
theorem idx1 : ∀ (x t : List UInt8), (58 : UInt8) ∉ x → Lib.index (x ++ 58 :: t) [58] = x.length
  | [], t, _ => by simp [Lib.index, List.isPrefixOf]
  | b :: l, t, h => by
    have hb : b ≠ 58 := fun e => h (by simp [e])
    have ih := idx1 l t (fun e => h (by simp [e]))
    have hp : ([58] : List UInt8).isPrefixOf (b :: (l ++ 58 :: t)) = false := by simp [List.isPrefixOf, Ne.symm hb]
    rw [List.cons_append, Lib.index, hp, ih]
    have : (((l.length : Nat) : Int) == -1) = false := by rw [beq_eq_false_iff_ne]; omega
    simp [this]
theorem idx1_no : ∀ (x : List UInt8), (58 : UInt8) ∉ x → Lib.index x [58] = -1
  | [], _ => rfl
  | b :: l, h => by
    have hb : b ≠ 58 := fun e => h (by simp [e])
    have ih := idx1_no l (fun e => h (by simp [e]))
    have hp : ([58] : List UInt8).isPrefixOf (b :: l) = false := by simp [List.isPrefixOf, Ne.symm hb]
    rw [Lib.index, hp, ih]; rfl
/-- It has no two colons, neither ends nor begins with one, and is something. -/
structure Good (s : List UInt8) : Prop where
  ne : s ≠ []
  head : s.head? ≠ some 58
  none : Lib.index s [58, 58] = -1
  last : s.getLast? ≠ some 58
theorem idx2_word : ∀ (x s : List UInt8), (58 : UInt8) ∉ x → Lib.index s [58, 58] = -1 → Lib.index (x ++ s) [58, 58] = -1
  | [], s, _, hs => hs
  | b :: l, s, h, hs => by
    have hb : b ≠ 58 := fun e => h (by simp [e])
    have ih := idx2_word l s (fun e => h (by simp [e])) hs
    have hp : ([58, 58] : List UInt8).isPrefixOf (b :: (l ++ s)) = false := by simp [List.isPrefixOf, Ne.symm hb]
    rw [List.cons_append, Lib.index, hp, ih]; rfl
theorem idx2_colon (s : List UInt8) (h : Good s) : Lib.index (58 :: s) [58, 58] = -1 := by
  have hp : ([58, 58] : List UInt8).isPrefixOf (58 :: s) = false := by
    cases s with
    | nil => rfl
    | cons c t =>
      have : c ≠ 58 := fun e => h.head (by simp [e])
      simp [List.isPrefixOf, Ne.symm this]
  rw [Lib.index, hp, h.none]; rfl
theorem idx2_hit : ∀ (s t : List UInt8), Lib.index s [58, 58] = -1 → s.getLast? ≠ some 58 → Lib.index (s ++ 58 :: 58 :: t) [58, 58] = s.length
  | [], t, _, _ => by simp [Lib.index, List.isPrefixOf]
  | b :: l, t, h, hl => by
    have hp0 : ([58, 58] : List UInt8).isPrefixOf (b :: l) = false := by
      cases hp : ([58, 58] : List UInt8).isPrefixOf (b :: l) with
      | false => rfl
      | true => rw [Lib.index, hp] at h; simp at h
    have hi : Lib.index l [58, 58] = -1 := by
      rw [Lib.index, hp0] at h
      cases hq : (Lib.index l [58, 58] == -1) with
      | true => exact beq_iff_eq.1 hq
      | false =>
        rw [hq] at h
        have := Lib.index_ge l [58, 58]
        have h2 : Lib.index l [58, 58] ≠ -1 := by simpa using hq
        simp at h
        omega
    have hl2 : l.getLast? ≠ some 58 := by
      cases l with
      | nil => simp
      | cons c r => simpa [List.getLast?_cons_cons] using hl
    have ih := idx2_hit l t hi hl2
    have hp : ([58, 58] : List UInt8).isPrefixOf (b :: (l ++ 58 :: 58 :: t)) = false := by
      cases l with
      | nil =>
        have : b ≠ 58 := fun e => hl (by simp [e])
        simp [List.isPrefixOf, Ne.symm this]
      | cons c r => simpa [List.isPrefixOf] using hp0
    rw [List.cons_append, Lib.index, hp, ih]
    have : (((l.length : Nat) : Int) == -1) = false := by rw [beq_eq_false_iff_ne]; omega
    simp [this]
/-- Words: something, and no colon in it. -/
def Words (xs : List (List UInt8)) : Prop := ∀ x ∈ xs, x ≠ [] ∧ (58 : UInt8) ∉ x
theorem join_two (x y : List UInt8) (r : List (List UInt8)) : Lib.join (x :: y :: r) [58] = x ++ 58 :: Lib.join (y :: r) [58] := by
  rw [Lib.join_cons, Lib.join_cons]
  simp [Lib.joinTail]
theorem join_one (x : List UInt8) : Lib.join [x] [58] = x := by rw [Lib.join_cons]; simp [Lib.joinTail]
theorem good_word (x : List UInt8) (h : x ≠ [] ∧ (58 : UInt8) ∉ x) : Good x where
  ne := h.1
  head := fun e => h.2 (List.mem_of_head? e)
  none := by have := idx2_word x [] h.2 rfl; simpa using this
  last := fun e => h.2 (List.mem_of_getLast? e)
theorem good_join : ∀ (x : List UInt8) (r : List (List UInt8)), Words (x :: r) → Good (Lib.join (x :: r) [58])
  | x, [], h => by rw [join_one]; exact good_word x (h x (by simp))
  | x, y :: r, h => by
    have ih := good_join y r (fun z hz => h z (by simp [hz]))
    have hx := h x (by simp)
    have gx := good_word x hx
    rw [join_two]
    refine ⟨by simp [hx.1], ?_, idx2_word x _ hx.2 (idx2_colon _ ih), ?_⟩
    · rw [List.head?_append]
      cases hh : x.head? with
      | none => exact absurd (List.head?_eq_none_iff.1 hh) hx.1
      | some c => intro e; apply gx.head; rw [hh]; simpa using e
    · have h1 : (x ++ 58 :: Lib.join (y :: r) [58]).getLast? = (Lib.join (y :: r) [58]).getLast? := by
        rw [List.getLast?_append]
        cases hj : Lib.join (y :: r) [58] with
        | nil => exact absurd hj ih.ne
        | cons c t => simp [List.getLast?_cons]
      rw [h1]; exact ih.last
theorem split_join : ∀ (x : List UInt8) (r : List (List UInt8)), Words (x :: r) → Lib.splitK [58] 0 (Lib.count (Lib.join (x :: r) [58]) [58]) (Lib.join (x :: r) [58]) = x :: r
  | x, [], h => by
    have hx := h x (by simp)
    rw [join_one, Lib.count_miss (idx1_no x hx.2)]
    rfl
  | x, y :: r, h => by
    have hx := h x (by simp)
    have ih := split_join y r (fun z hz => h z (by simp [hz]))
    have hi := idx1 x (Lib.join (y :: r) [58]) hx.2
    have hd : (x ++ 58 :: Lib.join (y :: r) [58]).drop (x.length + 1) = Lib.join (y :: r) [58] := by simp
    rw [join_two, Lib.count_hit (by simp) hi, show x.length + ([58] : List UInt8).length = x.length + 1 from rfl, hd, Nat.add_comm 1]
    unfold Lib.splitK
    have hm : (Lib.index (x ++ 58 :: Lib.join (y :: r) [58]) [58] == -1) = false := by rw [hi, beq_eq_false_iff_ne]; omega
    rw [hm, hi]
    simp only [Bool.false_eq_true, if_false, Int.toNat_natCast, Nat.add_zero]
    rw [show x.length + ([58] : List UInt8).length = x.length + 1 from rfl, hd, ih]
    simp

/-! The groups between the colons. -/
def InG (g : List Int) : Prop := ∀ x ∈ g, 0 ≤ x ∧ x < 65536
theorem words_hex (a : List Int) (h : InG a) : Words (a.map fun x => hexT x.toNat) := by
  intro y hy
  obtain ⟨x, hx, rfl⟩ := List.mem_map.1 hy
  have := h x hx
  exact ⟨hexT_ne _, hexT_colon _ (by omega)⟩
theorem nums_jn (a : List Int) (h : InG a) : nums ⟨(jn a).toArray⟩ = a := by
  cases a with
  | nil => rfl
  | cons x r =>
    have hw := words_hex (x :: r) h
    rw [List.map_cons] at hw
    have hg := good_join _ _ hw
    have hs : (⟨(jn (x :: r)).toArray⟩ : ByteArray).size ≠ 0 := by
      have : (jn (x :: r)).length ≠ 0 := fun e => hg.ne (List.eq_nil_of_length_eq_zero (by rw [jn, List.map_cons] at e; exact e))
      simpa [ByteArray.size] using this
    rw [nums, if_neg hs]
    have e1 : (parts ⟨(jn (x :: r)).toArray⟩).map (·.data.toList) = (x :: r).map fun x => hexT x.toNat := by
      rw [parts, Lib.splitB_data]
      exact split_join _ _ hw
    have e2 : (parts ⟨(jn (x :: r)).toArray⟩).map (fun p => num1 p.data.toList) = ((parts ⟨(jn (x :: r)).toArray⟩).map (·.data.toList)).map num1 := by rw [List.map_map]; rfl
    rw [e2, e1, List.map_map]
    apply List.ext_getElem?
    intro i
    rw [List.getElem?_map]
    cases hi : (x :: r)[i]? with
    | none => rfl
    | some y =>
      have hy := h y (List.mem_of_getElem? hi)
      show some (num1 (hexT y.toNat)) = some y
      rw [num1_hexT y hy.1 hy.2]
/-- Where the run is, all is 0. -/
def ZZ (g : List Int) (st : Nat × Nat) : Prop := (st.1 = st.2 ∨ st.1 + 2 ≤ st.2) ∧ ∀ i, st.1 ≤ i → i < st.2 → g.getD i 0 = 0
theorem zin_zz (g : List Int) (first : Nat) : ∀ (f i : Nat) (st : Nat × Nat), ZZ g st → first ≤ i → (∀ j, first ≤ j → j < i → g.getD j 0 = 0) → ZZ g (zin g first f i st)
  | 0, _, st, h, _, _ => h
  | f + 1, i, st, h, hi, hz => by
    unfold zin
    split
    · rename_i h0
      have hz2 : ∀ j, first ≤ j → j < i + 1 → g.getD j 0 = 0 := fun j h1 h2 => by
        rcases Nat.lt_succ_iff_lt_or_eq.1 h2 with h3 | rfl
        · exact hz j h1 h3
        · exact h0
      refine zin_zz g first f (i + 1) _ ?_ (by omega) hz2
      unfold zst
      split
      · rename_i hc
        exact ⟨Or.inr (by show first + 2 ≤ i + 1; omega), fun j h1 h2 => hz2 j h1 h2⟩
      · exact h
    · exact h
theorem zout_zz (g : List Int) : ∀ (f first : Nat) (st : Nat × Nat), ZZ g st → ZZ g (zout g f first st)
  | 0, _, st, h => h
  | f + 1, first, st, h => by
    unfold zout
    exact zout_zz g f (first + 1) _ (zin_zz g first (f + 1) first st h (Nat.le_refl _) (fun j h1 h2 => by omega))
theorem zr_zz (g : List Int) : ZZ g (zr g) := zout_zz g 8 0 (0, 0) ⟨Or.inl rfl, fun i h1 h2 => by simp at h2⟩
theorem cut_jn (g : List Int) (h : InG g) (hne : g ≠ []) : Lib.cut (jn g) [58, 58] = (jn g, [], false) := by
  cases g with
  | nil => exact absurd rfl hne
  | cons x r =>
    have hw := words_hex (x :: r) h
    rw [List.map_cons] at hw
    have hg := good_join _ _ hw
    have : Lib.index (jn (x :: r)) [58, 58] = -1 := hg.none
    rw [Lib.cut, this]; rfl
theorem cut_two (a : List Int) (t : List UInt8) (h : InG a) : Lib.cut (jn a ++ [58, 58] ++ t) [58, 58] = (jn a, t, true) := by
  have hi : Lib.index (jn a ++ 58 :: 58 :: t) [58, 58] = (jn a).length := by
    cases a with
    | nil => exact idx2_hit [] t rfl (by simp)
    | cons x r =>
      have hw := words_hex (x :: r) h
      rw [List.map_cons] at hw
      have hg := good_join _ _ hw
      exact idx2_hit _ t hg.none hg.last
  have e : jn a ++ [58, 58] ++ t = jn a ++ 58 :: 58 :: t := by simp
  rw [e, Lib.cut, hi, if_pos (by omega)]
  simp
theorem gof_txt (g : List Int) (hl : g.length = 8) (h : InG g) : gofL ⟨(txt g).toArray⟩ = g := by
  obtain ⟨hzz, hz0⟩ := zr_zz g
  have hok := zr_ok g
  unfold txt gofL cutF cutB cutS
  generalize (zr g).1 = f at *
  generalize (zr g).2 = t at *
  have hb : ∀ l : List UInt8, (⟨l.toArray⟩ : ByteArray).data.toList = l := fun l => rfl
  by_cases hft : f = t
  · rw [if_pos hft, hb, cut_jn g h (by intro e; rw [e] at hl; simp at hl)]
    simp only [Bool.false_eq_true, if_false]
    rw [nums_jn g h]
    show g ++ nums ⟨#[]⟩ = g
    rw [show nums ⟨#[]⟩ = [] from rfl, List.append_nil]
  · rw [if_neg hft, hb, cut_two (g.take f) (jn (g.drop t)) (fun x hx => h x (List.mem_of_mem_take hx))]
    simp only [if_true]
    rw [nums_jn _ (fun x hx => h x (List.mem_of_mem_take hx)), nums_jn _ (fun x hx => h x (List.mem_of_mem_drop hx))]
    rw [List.length_take, List.length_drop, hl]
    have hz : List.replicate (8 - (min f 8 + (8 - t))) (0 : Int) = (g.drop f).take (t - f) := by
      apply List.ext_getElem?
      intro i
      rw [List.getElem?_replicate, List.getElem?_take]
      by_cases hi : i < t - f
      · rw [if_pos (by omega), if_pos hi, List.getElem?_drop, List.getElem?_eq_getElem (by omega)]
        have := hz0 (f + i) (by omega) (by omega)
        rw [List.getD_eq_getElem?_getD, List.getElem?_eq_getElem (by omega)] at this
        simp only [Option.getD_some] at this
        rw [this]
      · rw [if_neg (by omega), if_neg hi]
    rw [hz]
    have e1 : g = g.take f ++ g.drop f := (List.take_append_drop f g).symm
    have e2 : g.drop f = (g.drop f).take (t - f) ++ g.drop t := by
      have := (List.take_append_drop (t - f) (g.drop f)).symm
      rw [List.drop_drop, show f + (t - f) = t by omega] at this
      exact this
    rw [List.append_assoc, ← e2, ← e1]
end Go.Proofs.YtoijfnkbjdekoaaDoor
