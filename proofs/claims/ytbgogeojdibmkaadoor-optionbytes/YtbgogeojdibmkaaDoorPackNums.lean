/- What number and appendNumber answer: contracts. -/
import Derived.Test.YtbgogeojdibmkaaDoorPackBase
import Derived.Deep.AppendLies
namespace Go.Proofs.YtbgogeojdibmkaaDoor
open Go.ChangeShapes Go.WideShapes Go.ChangeAt Go.RowKit
set_option linter.unusedVariables false
set_option linter.unusedSimpArgs false

/-- The number that bytes are, the highest one first. -/
def numOf (l : List Int) : Int := l.foldl (fun n x => 256 * n + x) 0
def Oct (l : List Int) : Prop := ∀ x ∈ l, 0 ≤ x ∧ x < 256

theorem numOf_snoc (l : List Int) (k : Nat) (h : k < l.length) : numOf (l.take (k + 1)) = 256 * numOf (l.take k) + l.getD k 0 := by
  rw [List.take_succ_eq_append_getElem h, numOf, List.foldl_append]; simp [numOf, h]

theorem Oct.at {l : List Int} (h : Oct l) (k : Nat) (hk : k < l.length) : 0 ≤ l.getD k 0 ∧ l.getD k 0 < 256 := by
  have := h l[k] (List.getElem_mem hk)
  simpa [hk] using this

theorem numOf_bd (l : List Int) (h : Oct l) : ∀ k, k ≤ l.length → 0 ≤ numOf (l.take k) ∧ numOf (l.take k) < 256 ^ k
  | 0, _ => by simp [numOf]
  | k + 1, hk => by
    have ih := numOf_bd l h k (by omega)
    have hx := h.at k (by omega)
    rw [numOf_snoc l k (by omega), Int.pow_succ]
    omega

theorem pow_le3 (k : Nat) (h : k ≤ 3) : (256 : Int) ^ k ≤ 16777216 := by
  match k, h with
  | 0, _ => decide
  | 1, _ => decide
  | 2, _ => decide
  | 3, _ => decide

theorem wraps_i64 (n : Int) (h₀ : 0 ≤ n) (h₁ : n < 2 ^ 62) : IntKind.i64.wrap n = n := by rw [IntKind.wrap_i64]; omega
theorem or8 (n x : Int) (h0 : 0 ≤ n) (h : n < 16777216) (hx0 : 0 ≤ x) (hx : x < 256) : bits .or .i64 (n * 256) x = 256 * n + x := by
  rw [bits_join .i64 62 (by decide) wraps_i64 8 (n * 256) x (by omega) (by omega) (by omega) hx0 hx (by omega)]; omega

set_option maxHeartbeats 400000 in
theorem number_any (a : Option Addr) (len cap : Nat) (l : List Int) (w : World) (h : Lies .u8 w a len cap l) (h4 : len ≤ 4) (ho : Oct l) :
    Calls Tryd.prog 64 #[.slice a len cap] w fun e w' => e = .returned (.int .i64 (numOf l)) ∧ w' = w := by
  obtain ⟨hl, hlc, hcm, _, hc⟩ := h
  unfold maxLen at hcm
  have HC : Hid _ := hc
  have HL : Hid (l.length = len) := hl
  have HO : Hid (Oct l) := ho
  clear hc hl ho
  go_enter Tryd.func64, Tryd.ntmps64
  go_wp2
  go_loop [3, 8] (fun v i => ∃ k : Nat, k ≤ len ∧ i = .int .i64 k ∧ v = .int .i64 (numOf (l.take k))) (fun _ i => len - (intOf i).toNat)
  case atStart => exact ⟨0, Nat.zero_le _, rfl, rfl⟩
  case round =>
    obtain ⟨k, hk, rfl, rfl⟩ := hrel
    by_cases hlt : k < len
    · obtain ⟨b, off, rfl, hcell⟩ := HC.out k hlt
      have hx := HO.out.at k (by rw [HL.out]; exact hlt)
      have hn := numOf_bd l HO.out k (by rw [HL.out]; omega)
      have hp := pow_le3 k (by omega)
      have HS : Hid _ := numOf_snoc l k (by rw [HL.out]; exact hlt)
      generalize (256 : Int) ^ k = P at *
      generalize numOf (l.take k) = n at *
      generalize l.getD k 0 = x at *
      have hn' : n < 16777216 := by omega
      clear hp
      go_wp2
      go_round
      case rel => exact ⟨k + 1, by omega, by go_num, by rw [HS.out, or8 n x hn.1 hn' hx.1 hx.2]⟩
      case measure => simp [intOf]; omega
    · obtain rfl : k = len := by omega
      go_wp2
      go_ret
      exact ⟨ret_int (by rw [List.take_of_length_le (by rw [HL.out]; omega)]), rfl⟩

/-- A number's bytes, the highest first. -/
def digs (size n : Int) : List Int := (if size = 4 then [n / 16777216 % 256, n / 65536 % 256] else []) ++ ((if size = 1 then [] else [n / 256 % 256]) ++ [n % 256])
def u8s (l : List Int) : List Value := l.map (Value.int .u8)

theorem info5 : (Tryd.prog.info? 5).map (fun i => (i.zero, i.size, i.bytes)) = some (some (.int .u8 0), 1, 1) := by kernel_rfl
theorem info3 : (Tryd.prog.info? 3).map (fun i => (i.zero, i.size, i.bytes)) = some (some (.int .i64 0), 1, 8) := by kernel_rfl

theorem Below.alloc0 {base : Nat} {w : World} (hb : base ≤ w.heap.size) (o : Obj) : Below base w (w.alloc o) := (Below.refl _ _).alloc hb o

/-- An append of what was just laid down, byte by byte, onto a row of the call's own. -/
theorem wpList_push {ops : Array Oper} {rest : List Oper} {o : Oper} {a : Act} {Q : Exit → Act → World → Prop} {w : World} {cs : Array Value} {base m : Nat} {v : Value} {xs : List Value} (hgd : o.guard = none) (s x : Operand)
    (ho : o.op = .call { callee := .builtin .append, args := #[s, x], argTypes := #[26, 26] }) (hs : a.eval s = v) (hx : a.eval x = .slice (some ⟨w.heap.size, 0, none⟩) cs.size cs.size)
    (hown : w.ownsRow base 5 1 v m xs) (h1 : ∀ u ∈ cs.toList, u.oneCell' = true) (hb : base ≤ w.heap.size) (hm : m + cs.size ≤ 200000)
    (h : ∀ v' w', w'.ownsRow base 5 1 v' (m + cs.size) (xs ++ cs.toList) → Below base w w' → wpList Tryd.prog ops Q rest (a.put o.dst v') w') :
    wpList Tryd.prog ops Q (o :: rest) a (w.alloc (.cells cs 5)) := by
  obtain ⟨i0, hi, hz0, hz1, hz2⟩ := info_parts info5
  refine wpList_append_own _ hgd s x 26 ho base 5 i0 (.int .u8 0) 1 1 Tryd.underlying26 hi hz0 hz1 hz2 rfl (by decide) v m xs hs (hown.alloc _) ⟨w.heap.size, 0, none⟩ cs.size cs.size cs.toList hx (by simp) ?_ h1 (by unfold maxLen; omega) (by omega) (by simp; omega) ?_
  · intro j u hj
    exact World.news_of_block (heap_alloc_new w _) j u hj
  · intro v' w' h2 h3 _
    refine h v' w' h2 (Below.grown ((Below.refl _ _).alloc hb _) h3 (by simp; omega) ?_)
    intro k hk
    exact (hown.lt k hk).1

theorem push_one {a b : Value} {cs : Array Value} (ha : a.oneCell' = true) : ∀ u ∈ (#[a] : Array Value).toList, u.oneCell' = true := by
  intro u hu; simp at hu; subst hu; exact ha
theorem push_two {a b : Value} (ha : a.oneCell' = true) (hb : b.oneCell' = true) : ∀ u ∈ (#[a, b] : Array Value).toList, u.oneCell' = true := by
  intro u hu; simp at hu; rcases hu with rfl | rfl; exact ha; exact hb

theorem appendNumber1 (n : Int) (v : Value) (m base : Nat) (xs : List Value) (w : World) (hb : base ≤ w.heap.size) (hm : m ≤ 100000) (hown : w.ownsRow base 5 1 v m xs) (h0 : 0 ≤ n) (hn : n < 256) :
    Calls Tryd.prog 63 #[v, .int .i64 1, .int .i64 n] w fun e w' => ∃ v', e = .returned v' ∧ w'.ownsRow base 5 1 v' (m + 1) (xs ++ u8s (digs 1 n)) ∧ Below base w w' := by
  have HD : Hid (u8s (digs 1 n) = [.int .u8 n]) := by simp [Hid, u8s, digs]; omega
  go_enter Tryd.func63, Tryd.ntmps63
  go_wp2_with (at_builtin; refine wpList_push rfl _ _ rfl rfl rfl hown ?_ hb ?_ ?_)
  case refine_1 => first | rfl | exact ⟨rfl, rfl⟩
  case refine_2 => simp; omega
  intro v1 w1 hown1 hb1
  go_wp2
  go_ret
  exact ⟨_, rfl, by rw [HD.out]; simpa using hown1, hb1⟩

set_option maxHeartbeats 400000 in
theorem appendNumber2 (n : Int) (v : Value) (m base : Nat) (xs : List Value) (w : World) (hb : base ≤ w.heap.size) (hm : m ≤ 100000) (hown : w.ownsRow base 5 1 v m xs) (h0 : 0 ≤ n) (hn : n < 65536) :
    Calls Tryd.prog 63 #[v, .int .i64 2, .int .i64 n] w fun e w' => ∃ v', e = .returned v' ∧ w'.ownsRow base 5 1 v' (m + 2) (xs ++ u8s (digs 2 n)) ∧ Below base w w' := by
  have HD : Hid (u8s (digs 2 n) = [.int .u8 (n / 256), .int .u8 (n % 256)]) := by simp [Hid, u8s, digs]; omega
  go_enter Tryd.func63, Tryd.ntmps63
  go_wp2_with (at_builtin; refine wpList_push rfl _ _ rfl rfl rfl hown ?_ hb ?_ ?_)
  case refine_1 => first | rfl | exact ⟨rfl, rfl⟩
  case refine_2 => simp; omega
  intro v1 w1 hown1 hb1
  go_wp2_with (at_builtin; refine wpList_push rfl _ _ rfl rfl rfl hown1 ?_ ?_ ?_ ?_)
  case refine_1 => first | rfl | exact ⟨rfl, rfl⟩
  case refine_2 => have := hb1.size; omega
  case refine_3 => simp; omega
  intro v2 w2 hown2 hb2
  go_wp2
  go_ret
  refine ⟨_, rfl, ?_, hb1.trans hb2⟩
  rw [HD.out]
  simpa using hown2
set_option maxHeartbeats 400000 in
theorem appendNumber4 (n : Int) (v : Value) (m base : Nat) (xs : List Value) (w : World) (hb : base ≤ w.heap.size) (hm : m ≤ 100000) (hown : w.ownsRow base 5 1 v m xs) (h0 : 0 ≤ n) (hn : n < 4294967296) :
    Calls Tryd.prog 63 #[v, .int .i64 4, .int .i64 n] w fun e w' => ∃ v', e = .returned v' ∧ w'.ownsRow base 5 1 v' (m + 4) (xs ++ u8s (digs 4 n)) ∧ Below base w w' := by
  have HD : Hid (u8s (digs 4 n) = [.int .u8 (n / 16777216), .int .u8 (n / 65536 % 256), .int .u8 (n / 256 % 256), .int .u8 (n % 256)]) := by simp [Hid, u8s, digs]; omega
  go_enter Tryd.func63, Tryd.ntmps63
  go_wp2_with (at_builtin; refine wpList_push rfl _ _ rfl rfl rfl hown ?_ hb ?_ ?_)
  case refine_1 => first | rfl | exact ⟨rfl, rfl⟩
  case refine_2 => simp; omega
  intro v1 w1 hown1 hb1
  go_wp2_with (at_builtin; refine wpList_push rfl _ _ rfl rfl rfl hown1 ?_ ?_ ?_ ?_)
  case refine_1 => first | rfl | exact ⟨rfl, rfl⟩
  case refine_2 => have := hb1.size; omega
  case refine_3 => simp; omega
  intro v2 w2 hown2 hb2
  go_wp2_with (at_builtin; refine wpList_push rfl _ _ rfl rfl rfl hown2 ?_ ?_ ?_ ?_)
  case refine_1 => first | rfl | exact ⟨rfl, rfl⟩
  case refine_2 => have := hb1.size; have := hb2.size; omega
  case refine_3 => simp; omega
  intro v3 w3 hown3 hb3
  go_wp2
  go_ret
  refine ⟨_, rfl, ?_, hb1.trans (hb2.trans hb3)⟩
  rw [HD.out]
  simpa using hown3

/-- Numbers of a size fit, and 'appendNumber' writes their bytes. -/
theorem appendNumber_any (size n : Int) (v : Value) (m base : Nat) (xs : List Value) (w : World) (hz : sizeB size = true) (hb : base ≤ w.heap.size) (hm : m ≤ 100000) (hown : w.ownsRow base 5 1 v m xs) (hn : okB size n = true) :
    Calls Tryd.prog 63 #[v, .int .i64 size, .int .i64 n] w fun e w' => ∃ v', e = .returned v' ∧ w'.ownsRow base 5 1 v' (m + (digs size n).length) (xs ++ u8s (digs size n)) ∧ Below base w w' := by
  rcases sizeB_cases hz with rfl | rfl | rfl
  all_goals
    simp [okB, top] at hn
  · exact appendNumber1 n v m base xs w hb hm hown hn.1 hn.2
  · exact appendNumber2 n v m base xs w hb hm hown hn.1 hn.2
  · exact appendNumber4 n v m base xs w hb hm hown hn.1 hn.2
end Go.Proofs.YtbgogeojdibmkaaDoor
