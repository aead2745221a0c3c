/- The table of kinds in memory; isKind, Word, partsSize, numbers. · The numbers of a kind: isAddress, numbers. · What is wrong with an option: formed, within, Check. · What is wrong with an option: within, Check. -/
import Derived.Test.YtbfjkhafdkhhmaaDoorM3
namespace Go.Proofs.YtbfjkhafdkhhmaaDoor
open Go.ChangeShapes Go.WideShapes Go.ChangeAt Go.RowKit Go.Deep
set_option linter.unusedVariables false
set_option linter.unusedSimpArgs false

def wrds : List ByteArray := [⟨#[112, 97, 100]⟩, ⟨#[112, 97, 100, 115]⟩, ⟨#[109, 101, 116, 114, 105, 99]⟩, ⟨#[114, 111, 117, 116, 101]⟩, ⟨#[99, 111, 110, 102, 105, 103]⟩, ⟨#[116, 97, 114, 103, 101, 116]⟩, ⟨#[116, 114, 97, 110, 115, 105, 116]⟩, ⟨#[115, 111, 108, 105, 99, 105, 116, 101, 100]⟩, ⟨#[112, 114, 101, 102, 105, 120]⟩, ⟨#[100, 101, 115, 99, 114, 105, 112, 116, 111, 114]⟩]
def prts : List (List (Int × Int)) := [[], [(1, 255)], [], [(1, 128), (1, 255), (4, 4294967295), (16, 0)], [(1, 255), (1, 255), (1, 255), (1, 255), (2, 65535), (2, 65535), (2, 65535), (1, 0), (1, 255), (2, 65535)], [(1, 255), (1, 128), (16, 0)], [(1, 255), (1, 255), (1, 255), (1, 255)], [(1, 255), (1, 255), (16, 0), (1, 255)], [(1, 128), (1, 255), (4, 4294967295), (4, 4294967295), (4, 0), (16, 0)], [(4, 4294967295)]]
/-- A kind's word. -/
def wrd (k : Nat) : ByteArray := wrds.getD k ByteArray.empty
/-- A kind's parts. -/
def prt (k : Nat) : List (Int × Int) := prts.getD k []
def zer (k : Nat) : Bool := k == 1
def txb (k : Nat) : Bool := k == 2
/-- Parts in memory, below a bound. -/
structure PLies (B : Nat) (w : World) (a : Option Addr) (n cap : Nat) (l : List (Int × Int)) : Prop where
  len : l.length = n
  le : n ≤ cap
  max : cap ≤ maxLen
  cell : ∀ i, i < n → ∃ b off, a = some ⟨b, off, none⟩ ∧ b < B ∧ w.cell? ⟨b, off + i * 2, none⟩ = some (.int .i64 (l.getD i (0, 0)).1) ∧ w.cell? ⟨b, off + i * 2 + 1, none⟩ = some (.int .i64 (l.getD i (0, 0)).2)
/-- The table of kinds in memory. -/
structure Vars (B : Nat) (w : World) : Prop where
  pos : 1 < B
  le : B ≤ w.heap.size
  word : ∀ k, k < 10 → w.cell? ⟨1, k * 4, none⟩ = some (.string (wrd k))
  parts : ∀ k, k < 10 → ∃ a n cap, w.cell? ⟨1, k * 4 + 1, none⟩ = some (.slice a n cap) ∧ PLies B w a n cap (prt k)
  zeros : ∀ k, k < 10 → w.cell? ⟨1, k * 4 + 2, none⟩ = some (.bool (zer k))
  text : ∀ k, k < 10 → w.cell? ⟨1, k * 4 + 3, none⟩ = some (.bool (txb k))
theorem PLies.same {B : Nat} {w w' : World} {a : Option Addr} {n cap : Nat} {l : List (Int × Int)} (h : PLies B w a n cap l) (hc : ∀ b o, b < B → w'.cell? ⟨b, o, none⟩ = w.cell? ⟨b, o, none⟩) : PLies B w' a n cap l :=
  ⟨h.len, h.le, h.max, fun i hi => by
    obtain ⟨b, off, h1, h2, h3, h4⟩ := h.cell i hi
    exact ⟨b, off, h1, h2, (hc _ _ h2).trans h3, (hc _ _ h2).trans h4⟩⟩
theorem Vars.same {B : Nat} {w w' : World} (h : Vars B w) (hs : w.heap.size ≤ w'.heap.size) (hc : ∀ b o, b < B → w'.cell? ⟨b, o, none⟩ = w.cell? ⟨b, o, none⟩) : Vars B w' :=
  ⟨h.pos, Nat.le_trans h.le hs, fun k hk => (hc _ _ h.pos).trans (h.word k hk), fun k hk => by
    obtain ⟨a, n, cap, h1, h2⟩ := h.parts k hk
    exact ⟨a, n, cap, (hc _ _ h.pos).trans h1, h2.same hc⟩, fun k hk => (hc _ _ h.pos).trans (h.zeros k hk), fun k hk => (hc _ _ h.pos).trans (h.text k hk)⟩
theorem Vars.below {B : Nat} {w w' : World} (h : Vars B w) (hb : Below w.heap.size w w') : Vars B w' :=
  h.same hb.size (fun b o hlt => hb.cell (p := ⟨b, o, none⟩) (Nat.lt_of_lt_of_le hlt h.le))
theorem Vars.grown {B : Nat} {w w' : World} {c : Nat} (h : Vars B w) (hg : w.grownBy w' (some c)) (hc : B ≤ c) : Vars B w' :=
  h.same hg.size (fun b o hlt => by
    have := hg.block b (Nat.lt_of_lt_of_le hlt h.le) (fun e => by have := Option.some.inj e; omega)
    simp only [World.cell?, this])
theorem Vars.drewN {B : Nat} {w : World} (h : Vars B w) (q : Nat) : Vars B (w.drewN q) := h.same (Nat.le_refl _) (fun _ _ _ => rfl)

/-- Is a number a kind? -/
def kndB (n : Int) : Bool := decide (0 ≤ n ∧ n < 10)
theorem isKind_any (n : Int) (w : World) : Calls Tryd.prog 93 #[.int .i64 n] w fun e w' => e = .returned (.bool (kndB n)) ∧ w' = w := by
  have HV : Hid (kndB n = decide (0 ≤ n ∧ n < 10)) := rfl
  generalize kndB n = b at *
  by_cases h0 : 0 ≤ n
  · have e0 : decide (0 ≤ n) = true := decide_eq_true h0
    by_cases h1 : n < 10
    · have e1 : decide (n < 10) = true := decide_eq_true h1
      go_enter Tryd.func93, Tryd.ntmps93
      go_wp2
      go_ret
      exact ⟨ret_bool (by rw [HV.out]; simp; omega), rfl⟩
    · have e1 : decide (n < 10) = false := decide_eq_false h1
      go_enter Tryd.func93, Tryd.ntmps93
      go_wp2
      go_ret
      exact ⟨ret_bool (by rw [HV.out]; simp; omega), rfl⟩
  · have e0 : decide (0 ≤ n) = false := decide_eq_false h0
    go_enter Tryd.func93, Tryd.ntmps93
    go_wp2
    go_ret
    exact ⟨ret_bool (by rw [HV.out]; simp; omega), rfl⟩
def wordOf (n : Int) : ByteArray := if kndB n = true then wrd n.toNat else ByteArray.empty
theorem ret_str {a b : ByteArray} (h : a = b) : Ending.returned (.string a) = .returned (.string b) := by rw [h]
def sumP (l : List (Int × Int)) : Int := (l.map (·.1)).sum
theorem sumP_succ (l : List (Int × Int)) (i : Nat) (h : i < l.length) : sumP (l.take (i + 1)) = sumP (l.take i) + (l.getD i (0, 0)).1 := by
  unfold sumP
  rw [List.take_succ_eq_append_getElem h, List.map_append, List.sum_append]; simp [h]
theorem prt_small : ∀ k, k < 10 → (prt k).length ≤ 10 ∧ ∀ i, i ≤ 10 → 0 ≤ sumP ((prt k).take i) ∧ sumP ((prt k).take i) ≤ 100 := by decide
theorem prt_size : ∀ k, k < 10 → ∀ i, i < (prt k).length → 0 ≤ ((prt k).getD i (0, 0)).1 ∧ ((prt k).getD i (0, 0)).1 ≤ 16 := by decide
set_option maxHeartbeats 400000 in
theorem partsSize_any {B : Nat} (k : Nat) (hk : k < 10) (w : World) (hV : Vars B w) : Calls Tryd.prog 109 #[.int .i64 k] w fun e w' => e = .returned (.int .i64 (sumP (prt k))) ∧ Below w.heap.size w w' := by
  obtain ⟨a, n, cap, c1, hP⟩ := hV.parts k hk
  have hsm := (prt_small k hk).1
  have HS := hid (prt_small k hk).2
  have HZ := hid (prt_size k hk)
  have hn10 : n ≤ 10 := by rw [← hP.len]; exact hsm
  have HV := hid hV
  have HP := hid hP
  generalize prt k = l at *
  clear hV hP hsm
  go_enter Tryd.func109, Tryd.ntmps109
  go_wp2
  go_loopw [3, 11] (fun v i wr => ∃ j : Nat, j ≤ n ∧ i = .int .i64 j ∧ v = .int .i64 (sumP (l.take j)) ∧ Hid (Below w.heap.size w wr)) (fun _ i _ => n - (intOf i).toNat)
  case atStart => exact ⟨0, Nat.zero_le _, rfl, rfl, Below.refl _ _⟩
  case round =>
    obtain ⟨j, hj, rfl, rfl, hb⟩ := hrel
    by_cases hlt : j < n
    · obtain ⟨b, off, rfl, hbB, hc0, hc1⟩ := (HP.out.same (fun b o hlt => hb.out.cell (p := ⟨b, o, none⟩) (Nat.lt_of_lt_of_le hlt HV.out.le))).cell j hlt
      have hs := HS.out j (by omega)
      have hs2 := HS.out (j + 1) (by omega)
      have HA := hid (sumP_succ l j (by rw [HP.out.len]; exact hlt))
      have hz := HZ.out j (by rw [HP.out.len]; exact hlt)
      rw [HA.out] at hs2
      generalize (l.getD j (0, 0)).1 = x at *
      generalize (l.getD j (0, 0)).2 = y at *
      generalize sumP (l.take j) = s at *
      go_wp2
      go_roundw
      case rel => exact ⟨j + 1, by omega, by go_num, by rw [HA.out], balloc hb.out _⟩
      case measure => simp [intOf]; omega
    · obtain rfl : j = n := by omega
      go_wp2
      go_ret
      exact ⟨ret_int (by rw [List.take_of_length_le (by rw [HP.out.len]; omega)]), hb.out⟩
end Go.Proofs.YtbfjkhafdkhhmaaDoor

namespace Go.Proofs.YtbfjkhafdkhhmaaDoor
open Go.ChangeShapes Go.WideShapes Go.ChangeAt Go.RowKit Go.Deep
set_option linter.unusedVariables false
set_option linter.unusedSimpArgs false

/-- An append of what was just laid down onto a row of the call's own, elements of any size. -/
theorem wpList_pushE {ops : Array Oper} {rest : List Oper} {o : Oper} {a : Act} {Q : Exit → Act → World → Prop} {w : World} {cs : Array Value} {base m : Nat} {v : Value} {xs : List Value} (hgd : o.guard = none) (s x : Operand)
    (t e : TypeId) (z : Value) (size bytes n : Nat) (ho : o.op = .call { callee := .builtin .append, args := #[s, x], argTypes := #[t, t] }) (hs : a.eval s = v) (hx : a.eval x = .slice (some ⟨w.heap.size, 0, none⟩) n n)
    (ht : Tryd.prog.underlying t = some (.slice e)) (hinf : (Tryd.prog.info? e).map (fun i => (i.zero, i.size, i.bytes)) = some (some z, size, bytes)) (hzs : z.cells.size = size) (hsz : 0 < size) (hby : bytes ≤ 100) (hcs : cs.size = n * size)
    (hown : w.ownsRow base e size v m xs) (h1 : ∀ u ∈ cs.toList, u.oneCell' = true) (hb : base ≤ w.heap.size) (hm : m + n ≤ 200000)
    (h : ∀ v' w', w'.ownsRow base e size v' (m + n) (xs ++ cs.toList) → Below base w w' → wpList Tryd.prog ops Q rest (a.put o.dst v') w') :
    wpList Tryd.prog ops Q (o :: rest) a (w.alloc (.cells cs e)) := by
  obtain ⟨i0, hi, hz0, hz1, hz2⟩ := info_parts hinf
  refine wpList_append_own _ hgd s x t ho base e i0 z size bytes ht hi hz0 hz1 hz2 hzs hsz v m xs hs (hown.alloc _) ⟨w.heap.size, 0, none⟩ n n cs.toList hx (by simpa using hcs) ?_ h1 (by unfold maxLen; omega) ?_ (by simp; omega) ?_
  · intro j u hj
    exact World.news_of_block (heap_alloc_new w _) j u hj
  · have : (m + n) * bytes ≤ 200000 * 100 := Nat.mul_le_mul hm hby
    omega
  · intro v' w' h2 h3 _
    refine h v' w' h2 (Below.grown ((Below.refl _ _).alloc hb _) h3 (by simp; omega) ?_)
    intro k hk
    exact (hown.lt k hk).1

theorem isAddress_any (x y : Int) (w : World) : Calls Tryd.prog 102 #[.agg #[.int .i64 x, .int .i64 y]] w fun e w' => e = .returned (.bool (x == 16)) ∧ Below w.heap.size w w' := by
  have B := hid (balloc (Below.refl w.heap.size w) (.cells #[.int .i64 x, .int .i64 y] 160))
  go_enter Tryd.func102, Tryd.ntmps102
  go_wp2
  go_ret
  exact ⟨rfl, B.out⟩

/-- The parts of a kind that are numbers. -/
def nmb (l : List (Int × Int)) : List (Int × Int) := l.filter (fun p => !(p.1 == 16))
def pcs (l : List (Int × Int)) : List Value := l.flatMap (fun p => [.int .i64 p.1, .int .i64 p.2])
theorem pcs_length (l : List (Int × Int)) : (pcs l).length = l.length * 2 := by
  induction l with
  | nil => rfl
  | cons p l ih => simp only [pcs, List.flatMap_cons, List.length_append, List.length_cons] at ih ⊢; rw [ih]; simp; omega
theorem nmb_yes (l : List (Int × Int)) (i : Nat) (h : i < l.length) (hx : ((l.getD i (0, 0)).1 == 16) = false) : nmb (l.take (i + 1)) = nmb (l.take i) ++ [l.getD i (0, 0)] := by
  unfold nmb
  rw [List.take_succ_eq_append_getElem h, List.filter_append]
  simp [h] at hx ⊢
  simp [hx]
theorem nmb_no (l : List (Int × Int)) (i : Nat) (h : i < l.length) (hx : ((l.getD i (0, 0)).1 == 16) = true) : nmb (l.take (i + 1)) = nmb (l.take i) := by
  unfold nmb
  rw [List.take_succ_eq_append_getElem h, List.filter_append]
  simp [h] at hx ⊢
  simp [hx]
theorem nmb_le (l : List (Int × Int)) : (nmb l).length ≤ l.length := List.length_filter_le _ _
theorem info87 : (Tryd.prog.info? 160).map (fun i => (i.zero, i.size, i.bytes)) = some (some (.agg #[.int .i64 0, .int .i64 0]), 2, 16) := by kernel_rfl
theorem pcs_snoc (l : List (Int × Int)) (p : Int × Int) : pcs (l ++ [p]) = pcs l ++ [.int .i64 p.1, .int .i64 p.2] := by simp [pcs]
set_option maxHeartbeats 800000 in
theorem numbers_any {B : Nat} (k : Nat) (hk : k < 10) (w : World) (hV : Vars B w) : Calls Tryd.prog 101 #[.int .i64 k] w fun e w' => ∃ v, e = .returned v ∧ w'.ownsRow w.heap.size 160 2 v (nmb (prt k)).length (pcs (nmb (prt k))) ∧ Below w.heap.size w w' := by
  obtain ⟨a, n, cap, c1, hP⟩ := hV.parts k hk
  have hsm := (prt_small k hk).1
  have hn10 : n ≤ 10 := by rw [← hP.len]; exact hsm
  have HV := hid hV
  have HP := hid hP
  generalize prt k = l at *
  clear hV hP hsm
  go_enter Tryd.func101, Tryd.ntmps101
  go_wp2
  go_loopw [3, 11] (fun v i wr => ∃ j : Nat, j ≤ n ∧ i = .int .i64 j ∧ Hid (wr.ownsRow w.heap.size 160 2 v (nmb (l.take j)).length (pcs (nmb (l.take j)))) ∧ Hid (Below w.heap.size w wr)) (fun _ i _ => n - (intOf i).toNat)
  case atStart => exact ⟨0, Nat.zero_le _, rfl, World.ownsRow_nil _ _ _ _, Below.refl _ _⟩
  case round =>
    obtain ⟨j, hj, rfl, ho, hb⟩ := hrel
    by_cases hlt : j < n
    · obtain ⟨b, off, rfl, hbB, hc0, hc1⟩ := (HP.out.same (fun b o hlt => hb.out.cell (p := ⟨b, o, none⟩) (Nat.lt_of_lt_of_le hlt HV.out.le))).cell j hlt
      have HY := hid (nmb_yes l j (by rw [HP.out.len]; exact hlt))
      have HN := hid (nmb_no l j (by rw [HP.out.len]; exact hlt))
      have HL := hid (nmb_le (l.take j))
      have HE : Hid (pcs (nmb (l.take j) ++ [l.getD j (0, 0)]) = _) := pcs_snoc _ _
      generalize hp : l.getD j (0, 0) = p at *
      generalize hx : p.1 = x at *
      generalize hy : p.2 = y at *
      have hm : (nmb (l.take j)).length ≤ 10 := by have := HL.out; simp at this; omega
      have R0 := hid (Row.new wr 160 #[.int .i64 x, .int .i64 y])
      have B0 := hid (balloc hb.out (.cells #[.int .i64 x, .int .i64 y] 160))
      have O0 := hid (ho.out.alloc (.cells #[.int .i64 x, .int .i64 y] 160))
      cases h16 : (x == 16)
      · go_wp2_with fail
        refine (isAddress_any _ _ _).mono ?_
        rintro e w1 ⟨rfl, hb1⟩
        have hc0 := (R0.out.below hb1).cell 0
        have hc1 := (R0.out.below hb1).cell 1
        simp only [List.getElem?_toArray, List.getElem?_cons_zero, List.getElem?_cons_succ] at hc0 hc1
        have O1 := hid (own_below O0.out hb1)
        have B1 := hid (bthen B0.out hb1)
        clear hb1
        rw [h16]
        go_wp2_with (at_builtin; refine wpList_pushE rfl _ _ 154 160 (.agg #[.int .i64 0, .int .i64 0]) 2 16 1 rfl rfl rfl Tryd.underlying154 info87 rfl (by decide) (by decide) rfl O1.out ?c1 ?c2 ?c3o ?_)
        case c1 => first | rfl | exact ⟨rfl, rfl⟩
        case c2 => exact B1.out.size
        case c3o => omega
        intro v1 w2 ho1 hb2
        have HB := hid (B1.out.trans hb2)
        have HO := hid ho1
        clear ho1 hb2
        go_wp2
        go_roundw
        case rel =>
          refine ⟨j + 1, by omega, by go_num, ?_, HB.out⟩
          rw [Hid, HY.out h16, List.length_append, HE.out]
          exact HO.out
        case measure => simp [intOf]; omega
      · go_wp2_with fail
        refine (isAddress_any _ _ _).mono ?_
        rintro e w1 ⟨rfl, hb1⟩
        have O1 := hid (own_below O0.out hb1)
        have B1 := hid (bthen B0.out hb1)
        clear hb1
        rw [h16]
        go_wp2
        go_roundw
        case rel => exact ⟨j + 1, by omega, by go_num, by rw [Hid, HN.out h16]; exact O1.out, B1.out⟩
        case measure => simp [intOf]; omega
    · obtain rfl : j = n := by omega
      go_wp2
      go_ret
      refine ⟨_, rfl, ?_, hb.out⟩
      have := ho.out
      rwa [List.take_of_length_le (by rw [HP.out.len]; omega)] at this
end Go.Proofs.YtbfjkhafdkhhmaaDoor

namespace Go.Proofs.YtbfjkhafdkhhmaaDoor
open Go.ChangeShapes Go.WideShapes Go.ChangeAt Go.RowKit Go.Deep
set_option linter.unusedVariables false
set_option linter.unusedSimpArgs false

/-! How two addresses are compared. -/
theorem info5o : (Tryd.prog.info? 5).isSome = true := by kernel_rfl
theorem eqItems_u8 (w : World) (l m : List Int) (h : l.length = m.length) : ∀ (is : List Nat), (∀ i ∈ is, i < l.length) →
    (Op.eqItems 9999 5 (Tryd.prog.cellsOf 5) (arr l) (arr m) is).run Tryd.prog w = .ok (is.all fun i => l.getD i 0 == m.getD i 0) w
  | [], _ => by simp [Op.eqItems]
  | i :: is, hi => by
    have h1 : Tryd.prog.cellsOf 5 = 1 := by kernel_rfl
    have hil : i < l.length := hi i (by simp)
    have ih := eqItems_u8 w l m h is (fun j hj => hi j (by simp [hj]))
    have hp : ∀ l' : List Int, i < l'.length → (part 5 (arr l') (i * 1)).run Tryd.prog w = .ok (.int .u8 (l'.getD i 0)) w := by
      intro l' hl'
      have hagg : (isAgg 5).run Tryd.prog w = .ok false w := by unfold isAgg; rw [Sem.run_bind, run_underlying Tryd.underlying5 w]; rfl
      simp only [part, Sem.run_bind, hagg, Result.andThen_ok, Bool.false_eq_true, if_false, Nat.mul_one, arr_at l' i hl', Sem.run_pure]
    simp only [Op.eqItems, Sem.run_bind, h1, hp l hil, hp m (by omega), Result.andThen_ok, run_equalIn_int (P := Tryd.prog) w 9998 5 .u8 .u8 (l.getD i 0) (m.getD i 0) Tryd.underlying5]
    rw [h1] at ih
    cases hb : (l.getD i 0 == m.getD i 0)
    · simp only [List.all_cons, hb, Bool.false_and, Bool.not_false, if_true, Sem.run_pure]
    · simp only [List.all_cons, hb, Bool.true_and, Bool.not_true, Bool.false_eq_true, if_false]; exact ih
theorem all_eq (l m : List Int) (n : Nat) (hl : l.length = n) (hm : m.length = n) : ((List.range n).all fun i => l.getD i 0 == m.getD i 0) = (l == m) := by
  rw [Bool.eq_iff_iff]
  simp only [List.all_eq_true, List.mem_range, beq_iff_eq]
  constructor
  · intro h
    apply List.ext_getElem (by omega)
    intro i h1 h2
    have := h i (by omega)
    simpa [h1, h2] using this
  · rintro rfl i _; rfl
theorem eq41 (l m : List Int) (hl : l.length = 16) (hm : m.length = 16) : ∀ w : World, (Op.equalIn 10000 26 (.agg (arr l)) (.agg (arr m))).run Tryd.prog w = .ok (l == m) w := fun w => by
  obtain ⟨i, hi⟩ := Option.isSome_iff_exists.1 info5o
  rw [run_equalIn_array w 9999 (arr l) (arr m) Tryd.underlying26 hi, eqItems_u8 w l m (by omega) _ (by intro i hi; simp at hi; omega), all_eq l m 16 hl hm]
theorem eq36 (l m : List Int) (hl : l.length = 16) (hm : m.length = 16) : ∀ w : World, (Op.equalIn 10000 22 (.agg (arr l)) (.agg (arr m))).run Tryd.prog w = .ok (l == m) w := fun w => by
  obtain ⟨i, hi⟩ := Option.isSome_iff_exists.1 info5o
  rw [run_equalIn_array w 9999 (arr l) (arr m) Tryd.underlying22 hi, eqItems_u8 w l m (by omega) _ (by intro i hi; simp at hi; omega), all_eq l m 16 hl hm]
theorem size41 : (Tryd.prog.info? 26).map (·.size) = some 16 := by kernel_rfl
theorem size36 : (Tryd.prog.info? 22).map (·.size) = some 16 := by kernel_rfl
theorem built41 : Tryd.prog.built 26 [] = some (arr zeros) := by kernel_rfl
theorem ld41 {ops : Array Oper} {rest : List Oper} {o : Oper} {a : Act} {w : World} {Q : Exit → Act → World → Prop} (x : Operand) (ho : o.op = .load 26 x) (hw : Region.wanted o (yielded ops a.tmps) = true) (g off : Nat) (hx : a.eval x = .pointer (some ⟨g, off, none⟩)) (l : List Int) (hl : Adr l) (hg : Part w g off (arr l))
    (h : wpList Tryd.prog ops Q rest (a.put o.dst (.agg (arr l))) w) : wpList Tryd.prog ops Q (o :: rest) a w :=
  wp_ld 26 x ho hw g off hx (arr l) _ Tryd.underlying26 rfl (by rw [arr_size, hl.1]; exact size41) hg h
theorem ld36 {ops : Array Oper} {rest : List Oper} {o : Oper} {a : Act} {w : World} {Q : Exit → Act → World → Prop} (x : Operand) (ho : o.op = .load 22 x) (hw : Region.wanted o (yielded ops a.tmps) = true) (g off : Nat) (hx : a.eval x = .pointer (some ⟨g, off, none⟩)) (l : List Int) (hl : Adr l) (hg : Part w g off (arr l))
    (h : wpList Tryd.prog ops Q rest (a.put o.dst (.agg (arr l))) w) : wpList Tryd.prog ops Q (o :: rest) a w :=
  wp_ld 22 x ho hw g off hx (arr l) _ Tryd.underlying22 rfl (by rw [arr_size, hl.1]; exact size36) hg h
theorem bd41 {ops : Array Oper} {rest : List Oper} {o : Oper} {a : Act} {w : World} {Q : Exit → Act → World → Prop} (ho : o.op = .build 26 #[]) (hg : o.guard = none)
    (hn : wpList Tryd.prog ops Q rest (a.put o.dst (.agg (arr zeros))) w) : wpList Tryd.prog ops Q (o :: rest) a w :=
  wp_bd 26 _ ho hg (arr zeros) (by simp only [List.map_toArray, List.map_nil]; exact built41) hn

/-- A row of the call's own is a slice. -/
theorem owns_len {w : World} {base : Nat} {e : TypeId} {size : Nat} {v : Value} {n : Nat} {xs : List Value} (h : w.ownsRow base e size v n xs) : ∃ a cap, v = .slice a n cap := by
  rcases h.2 with ⟨rfl, hn⟩ | ⟨g, cap, cur, rfl, _⟩
  · exact ⟨none, 0, by rw [hn]⟩
  · exact ⟨_, cap, rfl⟩

def hasA (k : Nat) : Bool := decide ((nmb (prt k)).length < (prt k).length)
/-- Has an option what its kind has? -/
def frmB (k : Nat) (o : Po) : Bool := (o.n.length == (nmb (prt k)).length) && ((o.ad == zeros || hasA k) && (o.t.length == 0 || txb k))

set_option maxHeartbeats 800000 in
theorem formed_any {B : Nat} (o : Ov) (k : Nat) (hk : k < 10) (hok : o.k = k) (w : World) (ho : o.ok w) (hV : Vars B w) :
    Calls Tryd.prog 94 #[.agg o.cs] w fun e w' => e = .returned (.bool (frmB k o.p)) ∧ Below w.heap.size w w' := by
  have hq := eq41 o.ad zeros ho.ad.1 rfl
  have HR0 := hid (Row.new w 54 o.cs)
  have B0 := hid (balloc (Below.refl w.heap.size w) (.cells o.cs 54))
  have V0 := hid (hV.below B0.out)
  have HF : Hid (frmB k o.p = ((o.n.n == (nmb (prt k)).length) && ((o.ad == zeros || hasA k) && (o.t.n == 0 || txb k)))) := by rw [Hid, frmB, Ov.p, ho.n.1, ho.t.1]
  have hA : hasA k = decide ((nmb (prt k)).length < (prt k).length) := rfl
  have HA := hid ho.ad
  have hnle := (prt_small k hk).1
  have hmle := nmb_le (prt k)
  have hnl : o.n.n ≤ maxLen := Nat.le_trans ho.n.2.1 ho.n.2.2.1
  have htl : o.t.n ≤ maxLen := Nat.le_trans ho.t.2.1 ho.t.2.2.1
  unfold maxLen at hnl htl
  clear hV
  generalize frmB k o.p = fb at *
  generalize (o.ad == zeros) = zb at *
  go_enter Tryd.func94, Tryd.ntmps94
  go_upto_region 1 with fail
  generalize hw1 : w.alloc (.cells o.cs 54) = w1 at *
  have c0 := (HR0.out.cell 0).trans o.at0
  rw [hok] at c0
  clear hw1
  go_wp2_with fail
  refine (numbers_any k hk _ V0.out).mono ?_
  rintro e w2 ⟨v, rfl, hown, hb⟩
  obtain ⟨va, vc, rfl⟩ := owns_len hown
  have V1 := V0.out.below hb
  have R1 := hid (HR0.out.below hb)
  have B1 := hid (bthen B0.out hb)
  obtain ⟨sa, sn, sc, s1, hP⟩ := V1.parts k hk
  have s3 := V1.text k hk
  have hsn := hP.len
  clear hown hb c0 V1 hP HR0 B0 V0
  have c0 := (R1.out.cell 0).trans o.at0
  rw [hok] at c0
  have c1 := (R1.out.cell 1).trans o.at1
  have c18 := (R1.out.cell 18).trans (Ov.at18 HA.out)
  have PA := hid (R1.out.part.ovA HA.out)
  have HO := hid hok
  generalize (nmb (prt k)).length = m at *
  generalize (prt k).length = pn at *
  subst hsn
  clear hok
  generalize hasA k = ha at *
  generalize txb k = tb at *
  generalize o.n.n = nl at *
  generalize o.t.n = tl at *
  by_cases hlen : nl = m
  · have e1 : ((nl : Int) != (m : Int)) = false := by simp [hlen]
    have HL := hid hlen
    by_cases hlt : m < pn
    · have e2 : decide (m < pn) = true := decide_eq_true hlt
      have e2' : decide ((m : Int) < (pn : Int)) = true := decide_eq_true (by omega)
      rw [e2] at hA
      subst hA
      by_cases htl0 : tl = 0
      · have HT := hid htl0
        have e3 : ((tl : Int) == 0) = true := by simp [htl0]
        clear htl0 hlen
        cases zb <;>
        ( go_wp2_with (first | (refine ld41 _ rfl rfl w.heap.size (0 + 2) rfl o.ad HA.out PA.out ?_) | (refine bd41 rfl rfl ?_))
          go_ret
          exact ⟨ret_bool (by rw [HF.out, HL.out, HT.out]; simp), B1.out⟩)
      · have HT := hid htl0
        have e3 : ((tl : Int) == 0) = false := by simp [htl0]
        clear htl0 hlen
        cases zb <;> cases tb <;>
        ( go_wp2_with (first | (refine ld41 _ rfl rfl w.heap.size (0 + 2) rfl o.ad HA.out PA.out ?_) | (refine bd41 rfl rfl ?_))
          go_ret
          exact ⟨ret_bool (by rw [HF.out, HL.out]; simp [HT.out]), B1.out⟩)
    · have e2 : decide (m < pn) = false := decide_eq_false hlt
      have e2' : decide ((m : Int) < (pn : Int)) = false := decide_eq_false (by omega)
      rw [e2] at hA
      subst hA
      cases zb
      · clear hlen
        go_wp2_with (first | (refine ld41 _ rfl rfl w.heap.size (0 + 2) rfl o.ad HA.out PA.out ?_) | (refine bd41 rfl rfl ?_))
        go_ret
        exact ⟨ret_bool (by rw [HF.out]; simp), B1.out⟩
      · by_cases htl0 : tl = 0
        · have HT := hid htl0
          have e3 : ((tl : Int) == 0) = true := by simp [htl0]
          clear htl0 hlen
          go_wp2_with (first | (refine ld41 _ rfl rfl w.heap.size (0 + 2) rfl o.ad HA.out PA.out ?_) | (refine bd41 rfl rfl ?_))
          go_ret
          exact ⟨ret_bool (by rw [HF.out, HL.out, HT.out]; simp), B1.out⟩
        · have HT := hid htl0
          have e3 : ((tl : Int) == 0) = false := by simp [htl0]
          clear htl0 hlen
          cases tb <;>
          ( go_wp2_with (first | (refine ld41 _ rfl rfl w.heap.size (0 + 2) rfl o.ad HA.out PA.out ?_) | (refine bd41 rfl rfl ?_))
            go_ret
            exact ⟨ret_bool (by rw [HF.out, HL.out]; simp [HT.out]), B1.out⟩)
  · have e1 : ((nl : Int) != (m : Int)) = true := by rw [bne_iff_ne]; omega
    have HL := hid hlen
    clear hlen
    by_cases hlt : m < pn
    · have e2' : decide ((m : Int) < (pn : Int)) = true := decide_eq_true (by omega)
      go_wp2_with fail
      go_ret
      exact ⟨ret_bool (by rw [HF.out]; simp [HL.out]), B1.out⟩
    · have e2' : decide ((m : Int) < (pn : Int)) = false := decide_eq_false (by omega)
      go_wp2_with fail
      go_ret
      exact ⟨ret_bool (by rw [HF.out]; simp [HL.out]), B1.out⟩
end Go.Proofs.YtbfjkhafdkhhmaaDoor

namespace Go.Proofs.YtbfjkhafdkhhmaaDoor
open Go.ChangeShapes Go.WideShapes Go.ChangeAt Go.RowKit Go.Deep
set_option linter.unusedVariables false
set_option linter.unusedSimpArgs false

theorem pcs_at (l : List (Int × Int)) (k : Nat) (hk : k < l.length) : (pcs l)[k * 2]? = some (.int .i64 (l.getD k (0, 0)).1) ∧ (pcs l)[k * 2 + 1]? = some (.int .i64 (l.getD k (0, 0)).2) := by
  induction l generalizing k with
  | nil => simp at hk
  | cons p l ih =>
    have e : pcs (p :: l) = .int .i64 p.1 :: .int .i64 p.2 :: pcs l := by simp [pcs]
    rw [e]
    cases k with
    | zero => simp
    | succ k =>
      obtain ⟨h1, h2⟩ := ih k (by simpa using hk)
      rw [show (k + 1) * 2 = k * 2 + 1 + 1 by omega]
      simpa using ⟨h1, h2⟩
/-- A row of parts of the call's own. -/
theorem owns_parts {w : World} {base : Nat} {v : Value} {l : List (Int × Int)} (h : w.ownsRow base 160 2 v l.length (pcs l)) : ∃ a cap, v = .slice a l.length cap ∧ PLies w.heap.size w a l.length cap l := by
  rcases h.2 with ⟨rfl, hn⟩ | ⟨g, cap, cur, rfl, hb, hg, hnc, hcm, hcs, hx⟩
  · exact ⟨none, 0, by rw [hn], rfl, by omega, by decide, fun k hk => by omega⟩
  · refine ⟨_, cap, rfl, rfl, hnc, hcm, fun k hk => ⟨g, 0, rfl, (Array.getElem?_eq_some_iff.1 hg).1, ?_, ?_⟩⟩
    · have h1 : (cur.toList.take (l.length * 2))[k * 2]? = (pcs l)[k * 2]? := by rw [hx]
      rw [(pcs_at l k hk).1, List.getElem?_take, if_pos (by omega)] at h1
      rw [Nat.zero_add, cell_of_row w g _ cur 160 (0, 0) hg]
      simpa using h1
    · have h1 : (cur.toList.take (l.length * 2))[k * 2 + 1]? = (pcs l)[k * 2 + 1]? := by rw [hx]
      rw [(pcs_at l k hk).2, List.getElem?_take, if_pos (by omega)] at h1
      rw [Nat.zero_add, cell_of_row w g _ cur 160 (0, 0) hg]
      simpa using h1
theorem PLies.below {w w' : World} {a : Option Addr} {n cap : Nat} {l : List (Int × Int)} (h : PLies w.heap.size w a n cap l) (hb : Below w.heap.size w w') : PLies w.heap.size w' a n cap l :=
  h.same (fun b o hlt => hb.cell (p := ⟨b, o, none⟩) hlt)

/-- Is each number one that may be there? -/
def inB (p : Int × Int) (n : Int) : Bool := decide (0 ≤ n ∧ n ≤ p.2)
def widB (l : List (Int × Int)) (n : List Int) : Bool := (List.range l.length).all fun i => inB (l.getD i (0, 0)) (n.getD i 0)
def widTo (l : List (Int × Int)) (n : List Int) (j : Nat) : Bool := (List.range j).all fun i => inB (l.getD i (0, 0)) (n.getD i 0)
theorem widTo_succ (l : List (Int × Int)) (n : List Int) (j : Nat) : widTo l n (j + 1) = (widTo l n j && inB (l.getD j (0, 0)) (n.getD j 0)) := by
  unfold widTo; rw [List.range_succ, List.all_append]; simp
theorem widTo_no (l : List (Int × Int)) (n : List Int) (j : Nat) (h : j < l.length) (hn : inB (l.getD j (0, 0)) (n.getD j 0) = false) : widB l n = false := by
  unfold widB; rw [List.all_eq_false]; exact ⟨j, by simpa using h, by simpa using hn⟩

set_option maxHeartbeats 800000 in
theorem oWithin_any {B : Nat} (o : Ov) (k : Nat) (hk : k < 10) (hok : o.k = k) (w : World) (ho : o.ok w) (hV : Vars B w) (hlen : o.n.n = (nmb (prt k)).length) :
    Calls Tryd.prog 95 #[.agg o.cs] w fun e w' => e = .returned (.bool (widB (nmb (prt k)) o.n.l)) ∧ Below w.heap.size w w' := by
  have HR0 := hid (Row.new w 54 o.cs)
  have B0 := hid (balloc (Below.refl w.heap.size w) (.cells o.cs 54))
  have V0 := hid (hV.below B0.out)
  have L0 := hid (ho.n.below B0.out)
  have hm10 : (nmb (prt k)).length ≤ 10 := Nat.le_trans (nmb_le (prt k)) (prt_small k hk).1
  clear hV
  go_enter Tryd.func95, Tryd.ntmps95
  go_upto_region 1 with fail
  generalize hw1 : w.alloc (.cells o.cs 54) = w1 at *
  have c0 := (HR0.out.cell 0).trans o.at0
  rw [hok] at c0
  clear hw1
  go_wp2_with fail
  refine (numbers_any k hk _ V0.out).mono ?_
  rintro e w2 ⟨v, rfl, hown, hb⟩
  obtain ⟨va, vc, rfl, hPL⟩ := owns_parts hown
  have HP := hid hPL
  have R1 := hid (HR0.out.below hb)
  have B1 := hid (bthen B0.out hb)
  have L1 := hid (L0.out.below hb)
  clear hown hb c0 hPL HR0 B0 V0 L0
  generalize hnl : nmb (prt k) = l at *
  have HNL := hid hnl
  clear hnl
  have HL := hid hlen
  generalize hn : l.length = n at *
  have HN := hid hn
  clear hlen hn
  go_wp2_with fail
  go_loopw [9] (fun i wr => ∃ j : Nat, j ≤ n ∧ i = .int .i64 j ∧ Hid (widTo l o.n.l j = true) ∧ Hid (Below w2.heap.size w2 wr)) (fun i _ => n - (intOf i).toNat)
  case atStart => exact ⟨0, Nat.zero_le _, rfl, rfl, Below.refl _ _⟩
  case round =>
    obtain ⟨j, hj, rfl, hw, hb⟩ := hrel
    by_cases hlt : j < n
    · have hlt' : (j : Int) < (n : Int) := by omega
      obtain ⟨b, off, rfl, hbB, hc0, hc1⟩ := (HP.out.below hb.out).cell j hlt
      obtain ⟨b2, off2, hna, hc2⟩ := (L1.out.below hb.out).2.2.2.2 j (by rw [HL.out]; exact hlt)
      have HS := hid (widTo_succ l o.n.l j)
      have HF := hid (widTo_no l o.n.l j (by rw [HN.out]; exact hlt))
      generalize hp : l.getD j (0, 0) = p at *
      have HI : Hid (inB p (o.n.l.getD j 0) = decide (0 ≤ o.n.l.getD j 0 ∧ o.n.l.getD j 0 ≤ p.2)) := rfl
      generalize p.1 = x at *
      generalize p.2 = y at *
      generalize o.n.l.getD j 0 = z at *
      have B3 := hid (balloc (Below.refl wr.heap.size wr) (.cells #[.int .i64 x, .int .i64 y] 160))
      have B4 := hid (bthen hb.out B3.out)
      have R3 := hid (Row.new wr 160 #[.int .i64 x, .int .i64 y])
      go_upto_region 4 with fail
      generalize wr.alloc (.cells #[.int .i64 x, .int .i64 y] 160) = w3 at *
      have d1 := ((R1.out.below B4.out).cell 1).trans o.at1
      rw [hna, HL.out] at d1
      have d2 := (B3.out.cell (p := ⟨b2, off2 + j, none⟩) (World.block_lt_of_cell? wr _ hc2)).trans hc2
      have d3 := R3.out.cell 1
      simp only [List.getElem?_toArray, List.getElem?_cons_zero, List.getElem?_cons_succ] at d3
      clear hc0 hc1 hc2
      generalize wr.heap.size = g3 at *
      by_cases h0 : z < 0
      · have f0 : decide (z < 0) = true := decide_eq_true h0
        go_quiet (fail)
        go_wp2_with fail
        go_ret
        exact ⟨ret_bool (by rw [HNL.out]; exact (HF.out (by rw [HI.out]; simp; omega)).symm), bdrew (bthen B1.out B4.out) _⟩
      · have f0 : decide (z < 0) = false := decide_eq_false h0
        by_cases h1 : y < z
        · have f1 : decide (y < z) = true := decide_eq_true h1
          go_quiet (fail)
          go_wp2_with fail
          go_ret
          exact ⟨ret_bool (by rw [HNL.out]; exact (HF.out (by rw [HI.out]; simp; omega)).symm), bdrew (bthen B1.out B4.out) _⟩
        · have f1 : decide (y < z) = false := decide_eq_false h1
          go_quiet (fail)
          go_wp2_with fail
          go_roundw
          case rel => exact ⟨j + 1, by omega, by go_num, by rw [Hid, HS.out, hw.out, HI.out]; simp; omega, bdrew B4.out _⟩
          case measure => simp [intOf]; omega
    · obtain rfl : j = n := by omega
      go_wp2_with fail
      go_ret
      exact ⟨ret_bool (by rw [HNL.out, widB, HN.out]; exact hw.out.symm), bthen B1.out hb.out⟩

/-- What is wrong with an option. -/
def chkP (o : Po) : Int := if kndB o.k = false then 6 else if frmB o.k.toNat o = false then 3 else if widB (nmb (prt o.k.toNat)) o.n = false then 1 else if 64 < o.t.length then 2 else 0
theorem frm_len {k : Nat} {o : Po} (h : frmB k o = true) : o.n.length = (nmb (prt k)).length := by
  simp [frmB] at h; exact h.1
set_option maxHeartbeats 800000 in
theorem optCheck_any {B : Nat} (o : Ov) (w : World) (ho : o.ok w) (hV : Vars B w) :
    Calls Tryd.prog 80 #[.agg o.cs] w fun e w' => e = .returned (.int .i64 (chkP o.p)) ∧ Below w.heap.size w w' := by
  have HR0 := hid (Row.new w 54 o.cs)
  have B0 := hid (balloc (Below.refl w.heap.size w) (.cells o.cs 54))
  have V0 := hid (hV.below B0.out)
  have O0 := hid (ho.below B0.out)
  have HA := hid ho.ad
  have HT := hid ho.t.1
  have HN := hid ho.n.1
  have htl : o.t.n ≤ maxLen := Nat.le_trans ho.t.2.1 ho.t.2.2.1
  unfold maxLen at htl
  clear hV ho
  cases hkd : kndB o.k
  · have HC : Hid (chkP o.p = 6) := by rw [Hid, chkP, if_pos (by exact hkd)]
    go_enter Tryd.func80, Tryd.ntmps80
    go_upto_region 2 with fail
    generalize hw1 : w.alloc (.cells o.cs 54) = w1 at *
    have c0 := (HR0.out.cell 0).trans o.at0
    clear hw1
    go_wp2_with fail
    refine (isKind_any _ _).mono ?_
    rintro e w1 ⟨rfl, rfl⟩
    rw [hkd]
    go_wp2_with fail
    go_ret
    exact ⟨ret_int HC.out.symm, B0.out⟩
  · have hn : 0 ≤ o.k ∧ o.k < 10 := by simpa [kndB] using hkd
    obtain ⟨k, hok⟩ : ∃ k : Nat, o.k = k := ⟨o.k.toNat, by omega⟩
    have hk : k < 10 := by omega
    have HC : Hid (chkP o.p = if frmB k o.p = false then 3 else if widB (nmb (prt k)) o.n.l = false then 1 else if 64 < o.t.l.length then 2 else 0) := by
      rw [Hid, chkP, if_neg (by rw [show o.p.k = o.k from rfl, hkd]; simp), show o.p.k = o.k from rfl, hok]; rfl
    have HFL : Hid (frmB k o.p = true → o.n.n = (nmb (prt k)).length) := fun h => by rw [← HN.out]; exact frm_len h
    have HK := hid hok
    rw [hok] at hkd
    clear hn hok
    go_enter Tryd.func80, Tryd.ntmps80
    go_upto_region 2 with fail
    generalize hw1 : w.alloc (.cells o.cs 54) = w1 at *
    have c0 := (HR0.out.cell 0).trans o.at0
    rw [HK.out] at c0
    clear hw1
    go_wp2_with fail
    refine (isKind_any _ _).mono ?_
    rintro e w1 ⟨rfl, rfl⟩
    rw [hkd]
    go_wp2_with (refine ldOo o43 _ rfl rfl w.heap.size 0 rfl o HA.out HR0.out.part ?_)
    refine (formed_any o k hk HK.out _ O0.out V0.out).mono ?_
    rintro e w2 ⟨rfl, hb2⟩
    have R2 := hid (HR0.out.below hb2)
    have B2 := hid (bthen B0.out hb2)
    have V2 := hid (V0.out.below hb2)
    have O2 := hid (O0.out.below hb2)
    clear hb2 B0 O0 V0 HR0 c0
    cases hf : frmB k o.p
    · rw [hf] at HC
      go_wp2_with fail
      go_ret
      exact ⟨ret_int (by rw [HC.out]; rfl), B2.out⟩
    · rw [hf] at HC HFL
      have HL := hid (HFL.out rfl)
      go_wp2_with (refine ldOo o43 _ rfl rfl w.heap.size 0 rfl o HA.out R2.out.part ?_)
      refine (oWithin_any o k hk HK.out _ O2.out V2.out HL.out).mono ?_
      rintro e w3 ⟨rfl, hb3⟩
      have R3 := hid (R2.out.below hb3)
      have B3 := hid (bthen B2.out hb3)
      clear hb3 R2 V2 O2
      cases hwd : widB (nmb (prt k)) o.n.l
      · rw [hwd] at HC
        go_wp2_with fail
        go_ret
        exact ⟨ret_int (by rw [HC.out]; rfl), B3.out⟩
      · rw [hwd] at HC
        have c18 := (R3.out.cell 18).trans (Ov.at18 HA.out)
        have HT' : Hid (o.t.l.length = o.t.n) := HT
        generalize o.t.n = tl at *
        by_cases h64 : 64 < tl
        · have h64' : (64 : Int) < (tl : Int) := by omega
          go_wp2_with fail
          go_ret
          exact ⟨ret_int (by rw [HC.out, HT'.out, if_neg (by simp), if_neg (by simp), if_pos h64]), B3.out⟩
        · have h64' : ¬ (64 : Int) < (tl : Int) := by omega
          go_wp2_with fail
          go_ret
          exact ⟨ret_int (by rw [HC.out, HT'.out, if_neg (by simp), if_neg (by simp), if_neg h64]), B3.out⟩
end Go.Proofs.YtbfjkhafdkhhmaaDoor
