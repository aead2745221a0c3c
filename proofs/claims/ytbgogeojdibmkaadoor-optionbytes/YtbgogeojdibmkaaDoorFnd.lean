/- Options of some kinds: slices.Index, Contains, IndexFunc, oneOf; slices.Clone, copied. -/
import Derived.Test.YtbgogeojdibmkaaDoorSlo
namespace Go.Proofs.YtbgogeojdibmkaaDoor
open Go.ChangeShapes Go.WideShapes Go.ChangeAt Go.RowKit Go.Deep
set_option linter.unusedVariables false
set_option linter.unusedSimpArgs false

theorem not_mem_take {l : List Int} {x : Int} {k : Nat} (hk : k < l.length) (h : ¬ x ∈ l.take k) (hne : ¬ x = l.getD k 0) : ¬ x ∈ l.take (k + 1) := by
  rw [List.take_succ_eq_append_getElem hk, List.mem_append]
  intro h'
  rcases h' with h' | h'
  · exact h h'
  · simp at h'; exact hne (by simp [hk, h'])
theorem index_any (a : Option Addr) (n cap : Nat) (l : List Int) (x : Int) (w : World) (h : Lies .i64 w a n cap l) :
    Calls Tryd.prog 71 #[.slice a n cap, .int .i64 x] w fun e w' => (∃ r : Int, e = .returned (.int .i64 r) ∧ decide (0 ≤ r) = decide (x ∈ l)) ∧ w' = w := by
  obtain ⟨hl, hlc, hcm, _, hc⟩ := h
  unfold maxLen at hcm
  have HC : Hid _ := hc
  have HL : Hid (l.length = n) := hl
  clear hc hl
  go_enter Tryd.func71, Tryd.ntmps71
  go_wp2
  go_loop [8] (fun i => ∃ k : Nat, k ≤ n ∧ i = .int .i64 k ∧ Hid (¬ x ∈ l.take k)) (fun i => n - (intOf i).toNat)
  case atStart => exact ⟨0, Nat.zero_le _, rfl, by rw [Hid]; simp⟩
  case round =>
    obtain ⟨k, hk, rfl, hno⟩ := hrel
    by_cases hlt : k < n
    · obtain ⟨b, off, rfl, hcell⟩ := HC.out k hlt
      have hlt' : (k : Int) < (n : Int) := by omega
      have HM : Hid (l.getD k 0 ∈ l) := by rw [Hid]; simp [show k < l.length by rw [HL.out]; exact hlt]
      have HN : Hid (¬ x = l.getD k 0 → ¬ x ∈ l.take (k + 1)) := not_mem_take (by rw [HL.out]; exact hlt) hno.out
      generalize l.getD k 0 = z at *
      by_cases hz : x = z
      · have he : (x == z) = true := by simp [hz]
        have HZ := hid hz
        clear hz
        go_wp2
        go_ret
        exact ⟨⟨_, rfl, by rw [HZ.out]; simp [HM.out]⟩, rfl⟩
      · have he : (x == z) = false := by simp [hz]
        have HZ := hid hz
        clear hz
        go_wp2
        go_round
        case rel => exact ⟨k + 1, by omega, by go_num, HN.out HZ.out⟩
        case measure => simp [intOf]; omega
    · obtain rfl : k = n := by omega
      go_wp2
      go_ret
      refine ⟨⟨_, rfl, ?_⟩, rfl⟩
      have := hno.out
      rw [List.take_of_length_le (by rw [HL.out]; exact Nat.le_refl _)] at this
      simp [this]
theorem contains_any (a : Option Addr) (n cap : Nat) (l : List Int) (x : Int) (w : World) (h : Lies .i64 w a n cap l) :
    Calls Tryd.prog 59 #[.slice a n cap, .int .i64 x] w fun e w' => e = .returned (.bool (decide (x ∈ l))) ∧ w' = w := by
  have HL := hid h
  clear h
  go_enter Tryd.func59, Tryd.ntmps59
  go_wp2_with fail
  refine (index_any a n cap l x _ HL.out).mono ?_
  rintro e w1 ⟨⟨r, rfl, hr⟩, rfl⟩
  have HR := hid hr
  clear hr
  go_wp2_with fail
  go_ret
  exact ⟨ret_bool HR.out, rfl⟩
/-- Is an option of one of some kinds? -/
def hitB (ks : List Int) (k : Int) : Bool := decide (k ∈ ks)
theorem oneOf1_any (o : Ov) (g : Nat) (ka : Option Addr) (kn kc : Nat) (ks : List Int) (w : World) (hc : w.cell? ⟨g, 0, none⟩ = some (.slice ka kn kc)) (hk : Lies .i64 w ka kn kc ks) :
    Calls Tryd.prog 58 #[.agg o.cs, .pointer (some ⟨g, 0, none⟩)] w fun e w' => e = .returned (.bool (hitB ks o.k)) ∧ Below w.heap.size w w' := by
  have HR0 := hid (Row.new w 43 o.cs)
  have B0 := hid (balloc (Below.refl w.heap.size w) (.cells o.cs 43))
  have K0 := hid (hk.below B0.out)
  have C0 := hid ((B0.out.cell (p := ⟨g, 0, none⟩) (World.block_lt_of_cell? w _ hc)).trans hc)
  clear hk hc
  go_enter Tryd.func58, Tryd.ntmps58
  go_upto_region 1 with fail
  generalize hw1 : w.alloc (.cells o.cs 43) = w1 at *
  have c0 := (HR0.out.cell 0).trans o.at0
  have d0 := C0.out
  clear hw1
  go_wp2_with fail
  refine (contains_any ka kn kc ks o.k _ K0.out).mono ?_
  rintro e w1 ⟨rfl, rfl⟩
  go_wp2_with fail
  go_ret
  exact ⟨rfl, B0.out⟩
theorem oneOf_any (ka : Option Addr) (kn kc : Nat) (w : World) :
    Calls Tryd.prog 43 #[.slice ka kn kc] w fun e w' => e = .returned (.func (.func 58) #[] #[.pointer (some ⟨w.heap.size, 0, none⟩)]) ∧ w' = w.alloc (.cells #[.slice ka kn kc] 35) := by
  have hmf : ∀ (fn : Fn) (first cap : Array Value) (w : World), (Instr.makeFunc fn first cap).run Tryd.prog w = .ok (.func fn first cap) w := fun _ _ _ _ => rfl
  go_enter Tryd.func43, Tryd.ntmps43
  go_wp2_with fail
  go_ret
  exact ⟨rfl, rfl⟩
/-- Which is the first one? -/
def firstAt (ks : List Int) (L : List Ov) (r : Int) : Prop := (r = -1 ∧ ∀ o ∈ L, hitB ks o.k = false) ∨ ∃ i : Nat, i < L.length ∧ r = i ∧ hitB ks (L.getD i Ov.zero).k = true ∧ ∀ j, j < i → hitB ks (L.getD j Ov.zero).k = false
set_option maxRecDepth 100000 in
set_option maxHeartbeats 800000 in
theorem indexFunc_any (a : Option Addr) (n cap : Nat) (L : List Ov) (g : Nat) (ka : Option Addr) (kn kc : Nat) (ks : List Int) (w : World) (hL : Opts w a n cap L) (hc : w.cell? ⟨g, 0, none⟩ = some (.slice ka kn kc)) (hk : Lies .i64 w ka kn kc ks) :
    Calls Tryd.prog 42 #[.slice a n cap, .func (.func 58) #[] #[.pointer (some ⟨g, 0, none⟩)]] w fun e w' => (∃ r : Int, e = .returned (.int .i64 r) ∧ Hid (firstAt ks L r)) ∧ Below w.heap.size w w' := by
  have k1 := Nat.le_trans hL.le hL.max
  unfold maxLen at k1
  have HL := hid hL
  have HK := hid hk
  have HC := hid hc
  have ll := hid hL.len
  clear hL hk hc
  go_enter Tryd.func42, Tryd.ntmps42
  go_wp2_with fail
  go_loopw [8] (fun i wr => ∃ j : Nat, j ≤ n ∧ i = .int .i64 j ∧ Hid (∀ i, i < j → hitB ks (L.getD i Ov.zero).k = false) ∧ Hid (Below w.heap.size w wr)) (fun i _ => n - (intOf i).toNat)
  case atStart => exact ⟨0, Nat.zero_le _, rfl, (fun i hi => by omega), Below.refl _ _⟩
  case round =>
    obtain ⟨j, hj, rfl, hno, hb⟩ := hrel
    by_cases hlt : j < n
    · have hlt' : (j : Int) < (n : Int) := by omega
      obtain ⟨b1, off1, rfl, hp1⟩ := (HL.out.below hb.out).cell j hlt
      have ok1 := (HL.out.below hb.out).at j hlt
      generalize hoo : L.getD j Ov.zero = o at *
      have HOO := hid hoo
      have P1 := hid hp1
      have A1 := hid ok1.ad
      have K1 := hid (HK.out.below hb.out)
      have C1 := hid ((hb.out.cell (p := ⟨g, 0, none⟩) (World.block_lt_of_cell? w _ HC.out)).trans HC.out)
      clear hp1 ok1 hoo
      go_wp2_with (refine ldO o43 _ rfl rfl _ _ rfl o A1.out P1.out ?_)
      refine (oneOf1_any o g ka kn kc ks _ C1.out K1.out).mono ?_
      rintro e w2 ⟨rfl, hb2⟩
      have B2 := hid (bthen hb.out hb2)
      clear hb2
      cases hh : hitB ks o.k
      · go_wp2_with fail
        go_roundw
        case rel =>
          refine ⟨j + 1, by omega, by go_num, ?_, B2.out⟩
          intro i hi
          by_cases hij : i = j
          · rw [hij, HOO.out]; exact hh
          · exact hno.out i (by omega)
        case measure => simp [intOf]; omega
      · go_wp2_with fail
        go_ret
        refine ⟨⟨_, rfl, .inr ⟨j, by rw [ll.out]; exact hlt, rfl, by rw [HOO.out]; exact hh, hno.out⟩⟩, B2.out⟩
    · obtain rfl : j = n := by omega
      go_wp2_with fail
      go_ret
      refine ⟨⟨_, rfl, .inl ⟨rfl, fun o ho => ?_⟩⟩, hb.out⟩
      obtain ⟨i, hi, rfl⟩ := List.mem_iff_getElem.1 ho
      have := hno.out i (by rw [← ll.out]; exact hi)
      simpa [hi] using this
end Go.Proofs.YtbgogeojdibmkaaDoor
