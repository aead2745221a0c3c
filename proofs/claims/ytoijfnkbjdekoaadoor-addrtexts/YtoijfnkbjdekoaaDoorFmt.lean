/- What strconv's FormatInt answers to the base 16, for a group. -/
import Derived.Test.YtoijfnkbjdekoaaDoorGroups
import Derived.Lib.ConvBytes
import Derived.Lib.Walk
import Derived.Laws.IdiomStrings
import Derived.Laws.BitsAllLaws
namespace Go.Proofs.YtoijfnkbjdekoaaDoor
open Go.ChangeShapes Go.WideShapes Go.ChangeAt Go.RowKit
set_option linter.unusedVariables false
set_option linter.unusedSimpArgs false

/-- A sign of the base 16. -/
def dg (d : Nat) : UInt8 := if d < 10 then UInt8.ofNat (48 + d) else UInt8.ofNat (87 + d)
/-- A group's text. -/
def hexT (n : Nat) : List UInt8 :=
  if n < 16 then [dg n] else if n < 256 then [dg (n / 16), dg (n % 16)] else if n < 4096 then [dg (n / 256), dg (n / 16 % 16), dg (n % 16)] else [dg (n / 4096), dg (n / 256 % 16), dg (n / 16 % 16), dg (n % 16)]
theorem hexT_small (n : Nat) (h : n < 16) : hexT n = [dg n] := by simp [hexT, h]
theorem hexT_step (n : Nat) (h0 : 16 ≤ n) (h1 : n < 65536) : hexT n = hexT (n / 16) ++ [dg (n % 16)] := by
  rcases Nat.lt_or_ge n 256 with h | h
  · rw [hexT_small (n / 16) (by omega)]; simp [hexT, h, Nat.not_lt.2 h0]
  · rcases Nat.lt_or_ge n 4096 with h' | h'
    · have e : n / 16 / 16 = n / 256 := by omega
      simp [hexT, h', Nat.not_lt.2 h0, Nat.not_lt.2 h, show ¬ n / 16 < 16 by omega, show n / 16 < 256 by omega, e]
    · have e : n / 16 / 16 = n / 256 := by omega
      have e' : n / 16 / 256 = n / 4096 := by omega
      simp [hexT, Nat.not_lt.2 h', Nat.not_lt.2 h0, Nat.not_lt.2 h, show ¬ n / 16 < 16 by omega, show ¬ n / 16 < 256 by omega, show n / 16 < 4096 by omega, e, e']
theorem hexT_len (n : Nat) : 1 ≤ (hexT n).length ∧ (hexT n).length ≤ 4 := by unfold hexT; split <;> (try split) <;> (try split) <;> simp

def z65 : Array Value := u8s (List.replicate 65 0)
theorem z65_ne : ¬ z65 = #[] := by intro h; have := congrArg Array.size h; simp [z65, u8s] at this
theorem zval65 (w : World) : (zeroValue 112).run Tryd.prog w = .ok (.agg z65) w := by kernel_rfl

theorem tzk : IntKind.u64.wrap (Go.bits BinOp.and IntKind.u64 16 (IntKind.u64.wrap (-16)) * 285870213051353865) / 288230376151711744 = 15 := by kernel_rfl
theorem tz_any (w : World) (h5 : w.cell? ⟨5, 15, none⟩ = some (.int .u8 4)) : Calls Tryd.prog 75 #[.int .u64 16] w fun e w' => e = .returned (.int .i64 4) ∧ w' = w := by
  have hk := tzk
  go_enter Tryd.func75, Tryd.ntmps75
  go_wp2
  go_ret
  exact ⟨rfl, rfl⟩

theorem pow_any (w : World) : Calls Tryd.prog 74 #[.int .i64 16] w fun e w' => e = .returned (.bool true) ∧ w' = w := by
  have hk : Go.bits BinOp.and IntKind.i64 16 15 = 0 := by kernel_rfl
  go_enter Tryd.func74, Tryd.ntmps74
  go_wp2
  go_ret
  exact ⟨rfl, rfl⟩

theorem idx_dig0 (w : World) : (Instr.index 9 (.string ⟨#[48, 49, 50, 51, 52, 53, 54, 55, 56, 57, 97, 98, 99, 100, 101, 102, 103, 104, 105, 106, 107, 108, 109, 110, 111, 112, 113, 114, 115, 116, 117, 118, 119, 120, 121, 122]⟩) (.int .u64 ((0 : Nat) : Int))).run Tryd.prog w = .ok (.int .u8 ((dg 0).toNat : Int)) w := by kernel_rfl
theorem idx_dig1 (w : World) : (Instr.index 9 (.string ⟨#[48, 49, 50, 51, 52, 53, 54, 55, 56, 57, 97, 98, 99, 100, 101, 102, 103, 104, 105, 106, 107, 108, 109, 110, 111, 112, 113, 114, 115, 116, 117, 118, 119, 120, 121, 122]⟩) (.int .u64 ((1 : Nat) : Int))).run Tryd.prog w = .ok (.int .u8 ((dg 1).toNat : Int)) w := by kernel_rfl
theorem idx_dig2 (w : World) : (Instr.index 9 (.string ⟨#[48, 49, 50, 51, 52, 53, 54, 55, 56, 57, 97, 98, 99, 100, 101, 102, 103, 104, 105, 106, 107, 108, 109, 110, 111, 112, 113, 114, 115, 116, 117, 118, 119, 120, 121, 122]⟩) (.int .u64 ((2 : Nat) : Int))).run Tryd.prog w = .ok (.int .u8 ((dg 2).toNat : Int)) w := by kernel_rfl
theorem idx_dig3 (w : World) : (Instr.index 9 (.string ⟨#[48, 49, 50, 51, 52, 53, 54, 55, 56, 57, 97, 98, 99, 100, 101, 102, 103, 104, 105, 106, 107, 108, 109, 110, 111, 112, 113, 114, 115, 116, 117, 118, 119, 120, 121, 122]⟩) (.int .u64 ((3 : Nat) : Int))).run Tryd.prog w = .ok (.int .u8 ((dg 3).toNat : Int)) w := by kernel_rfl
theorem idx_dig4 (w : World) : (Instr.index 9 (.string ⟨#[48, 49, 50, 51, 52, 53, 54, 55, 56, 57, 97, 98, 99, 100, 101, 102, 103, 104, 105, 106, 107, 108, 109, 110, 111, 112, 113, 114, 115, 116, 117, 118, 119, 120, 121, 122]⟩) (.int .u64 ((4 : Nat) : Int))).run Tryd.prog w = .ok (.int .u8 ((dg 4).toNat : Int)) w := by kernel_rfl
theorem idx_dig5 (w : World) : (Instr.index 9 (.string ⟨#[48, 49, 50, 51, 52, 53, 54, 55, 56, 57, 97, 98, 99, 100, 101, 102, 103, 104, 105, 106, 107, 108, 109, 110, 111, 112, 113, 114, 115, 116, 117, 118, 119, 120, 121, 122]⟩) (.int .u64 ((5 : Nat) : Int))).run Tryd.prog w = .ok (.int .u8 ((dg 5).toNat : Int)) w := by kernel_rfl
theorem idx_dig6 (w : World) : (Instr.index 9 (.string ⟨#[48, 49, 50, 51, 52, 53, 54, 55, 56, 57, 97, 98, 99, 100, 101, 102, 103, 104, 105, 106, 107, 108, 109, 110, 111, 112, 113, 114, 115, 116, 117, 118, 119, 120, 121, 122]⟩) (.int .u64 ((6 : Nat) : Int))).run Tryd.prog w = .ok (.int .u8 ((dg 6).toNat : Int)) w := by kernel_rfl
theorem idx_dig7 (w : World) : (Instr.index 9 (.string ⟨#[48, 49, 50, 51, 52, 53, 54, 55, 56, 57, 97, 98, 99, 100, 101, 102, 103, 104, 105, 106, 107, 108, 109, 110, 111, 112, 113, 114, 115, 116, 117, 118, 119, 120, 121, 122]⟩) (.int .u64 ((7 : Nat) : Int))).run Tryd.prog w = .ok (.int .u8 ((dg 7).toNat : Int)) w := by kernel_rfl
theorem idx_dig8 (w : World) : (Instr.index 9 (.string ⟨#[48, 49, 50, 51, 52, 53, 54, 55, 56, 57, 97, 98, 99, 100, 101, 102, 103, 104, 105, 106, 107, 108, 109, 110, 111, 112, 113, 114, 115, 116, 117, 118, 119, 120, 121, 122]⟩) (.int .u64 ((8 : Nat) : Int))).run Tryd.prog w = .ok (.int .u8 ((dg 8).toNat : Int)) w := by kernel_rfl
theorem idx_dig9 (w : World) : (Instr.index 9 (.string ⟨#[48, 49, 50, 51, 52, 53, 54, 55, 56, 57, 97, 98, 99, 100, 101, 102, 103, 104, 105, 106, 107, 108, 109, 110, 111, 112, 113, 114, 115, 116, 117, 118, 119, 120, 121, 122]⟩) (.int .u64 ((9 : Nat) : Int))).run Tryd.prog w = .ok (.int .u8 ((dg 9).toNat : Int)) w := by kernel_rfl
theorem idx_dig10 (w : World) : (Instr.index 9 (.string ⟨#[48, 49, 50, 51, 52, 53, 54, 55, 56, 57, 97, 98, 99, 100, 101, 102, 103, 104, 105, 106, 107, 108, 109, 110, 111, 112, 113, 114, 115, 116, 117, 118, 119, 120, 121, 122]⟩) (.int .u64 ((10 : Nat) : Int))).run Tryd.prog w = .ok (.int .u8 ((dg 10).toNat : Int)) w := by kernel_rfl
theorem idx_dig11 (w : World) : (Instr.index 9 (.string ⟨#[48, 49, 50, 51, 52, 53, 54, 55, 56, 57, 97, 98, 99, 100, 101, 102, 103, 104, 105, 106, 107, 108, 109, 110, 111, 112, 113, 114, 115, 116, 117, 118, 119, 120, 121, 122]⟩) (.int .u64 ((11 : Nat) : Int))).run Tryd.prog w = .ok (.int .u8 ((dg 11).toNat : Int)) w := by kernel_rfl
theorem idx_dig12 (w : World) : (Instr.index 9 (.string ⟨#[48, 49, 50, 51, 52, 53, 54, 55, 56, 57, 97, 98, 99, 100, 101, 102, 103, 104, 105, 106, 107, 108, 109, 110, 111, 112, 113, 114, 115, 116, 117, 118, 119, 120, 121, 122]⟩) (.int .u64 ((12 : Nat) : Int))).run Tryd.prog w = .ok (.int .u8 ((dg 12).toNat : Int)) w := by kernel_rfl
theorem idx_dig13 (w : World) : (Instr.index 9 (.string ⟨#[48, 49, 50, 51, 52, 53, 54, 55, 56, 57, 97, 98, 99, 100, 101, 102, 103, 104, 105, 106, 107, 108, 109, 110, 111, 112, 113, 114, 115, 116, 117, 118, 119, 120, 121, 122]⟩) (.int .u64 ((13 : Nat) : Int))).run Tryd.prog w = .ok (.int .u8 ((dg 13).toNat : Int)) w := by kernel_rfl
theorem idx_dig14 (w : World) : (Instr.index 9 (.string ⟨#[48, 49, 50, 51, 52, 53, 54, 55, 56, 57, 97, 98, 99, 100, 101, 102, 103, 104, 105, 106, 107, 108, 109, 110, 111, 112, 113, 114, 115, 116, 117, 118, 119, 120, 121, 122]⟩) (.int .u64 ((14 : Nat) : Int))).run Tryd.prog w = .ok (.int .u8 ((dg 14).toNat : Int)) w := by kernel_rfl
theorem idx_dig15 (w : World) : (Instr.index 9 (.string ⟨#[48, 49, 50, 51, 52, 53, 54, 55, 56, 57, 97, 98, 99, 100, 101, 102, 103, 104, 105, 106, 107, 108, 109, 110, 111, 112, 113, 114, 115, 116, 117, 118, 119, 120, 121, 122]⟩) (.int .u64 ((15 : Nat) : Int))).run Tryd.prog w = .ok (.int .u8 ((dg 15).toNat : Int)) w := by kernel_rfl
theorem idx_dig (d : Nat) (h : d < 16) (w : World) : (Instr.index 9 (.string ⟨#[48, 49, 50, 51, 52, 53, 54, 55, 56, 57, 97, 98, 99, 100, 101, 102, 103, 104, 105, 106, 107, 108, 109, 110, 111, 112, 113, 114, 115, 116, 117, 118, 119, 120, 121, 122]⟩) (.int .u64 (d : Int))).run Tryd.prog w = .ok (.int .u8 ((dg d).toNat : Int)) w := by
  have : d = 0 ∨ d = 1 ∨ d = 2 ∨ d = 3 ∨ d = 4 ∨ d = 5 ∨ d = 6 ∨ d = 7 ∨ d = 8 ∨ d = 9 ∨ d = 10 ∨ d = 11 ∨ d = 12 ∨ d = 13 ∨ d = 14 ∨ d = 15 := by omega
  rcases this with rfl | rfl | rfl | rfl | rfl | rfl | rfl | rfl | rfl | rfl | rfl | rfl | rfl | rfl | rfl | rfl
  · exact idx_dig0 w
  · exact idx_dig1 w
  · exact idx_dig2 w
  · exact idx_dig3 w
  · exact idx_dig4 w
  · exact idx_dig5 w
  · exact idx_dig6 w
  · exact idx_dig7 w
  · exact idx_dig8 w
  · exact idx_dig9 w
  · exact idx_dig10 w
  · exact idx_dig11 w
  · exact idx_dig12 w
  · exact idx_dig13 w
  · exact idx_dig14 w
  · exact idx_dig15 w

def byI (l : List UInt8) : List Int := l.map (fun b => (b.toNat : Int))
theorem byI_len (l : List UInt8) : (byI l).length = l.length := by simp [byI]

theorem tail_set (j : Nat) (T : List Int) (x : Int) (h : j < 65) : (List.replicate (65 - j) 0 ++ T).set (64 - j) x = List.replicate (64 - j) 0 ++ (x :: T) := by
  obtain ⟨m, hm⟩ : ∃ m, 64 - j = m := ⟨_, rfl⟩
  have hm' : 65 - j = m + 1 := by omega
  rw [hm, hm', List.replicate_succ', List.append_assoc, List.set_append_right _ _ (by simp)]
  simp

theorem under112 : Tryd.prog.underlying 112 = some (.array 65 5) := by kernel_rfl
theorem len112 : Tryd.prog.arrayLen 112 = 65 := by kernel_rfl
theorem elem112 : Tryd.prog.elem 112 = 5 := by kernel_rfl
theorem info5s : (Tryd.prog.info? 5).map (·.size) = some 1 := by kernel_rfl
theorem slice112 (w : World) (b i : Nat) (h : i < 65) : (Instr.sliceAt 112 (.pointer (some ⟨b, 0, none⟩)) (some (.int .i64 (i : Int))) none none).run Tryd.prog w = .ok (.slice (some ((⟨b, 0, none⟩ : Addr).add i)) (65 - i) (65 - i)) w := by
  have hs : (sizeOf 5).run Tryd.prog w = .ok 1 w := by
    cases hq : Tryd.prog.info? 5 with
    | none => have := info5s; rw [hq] at this; simp at this
    | some x => have := info5s; rw [hq] at this; simp at this; simp [sizeOf, typeInfo, hq, this]
  have hl : (i : Int) ≤ Tryd.prog.arrayLen 112 := by rw [len112]; omega
  rw [run_sliceAt_array_l w 112 ⟨b, 0, none⟩ (by rw [len112, elem112]; exact under112) .i64 (i : Int) (by omega) hl, elem112, hs, len112]
  simp [slicedAt, show ¬ 65 = i by omega]

set_option maxRecDepth 100000 in
set_option maxHeartbeats 1600000 in
theorem formatBits_any (n : Nat) (w : World) (hn : n < 65536) (h5 : w.cell? ⟨5, 15, none⟩ = some (.int .u8 4)) (hw5 : 5 < w.heap.size) :
    Calls Tryd.prog 55 #[.slice none 0 0, .int .u64 (n : Int), .int .i64 16, .bool false, .bool false] w fun e w' => e = .returned (.tuple #[.slice none 0 0, .string ⟨(hexT n).toArray⟩]) ∧ Below w.heap.size w w' := by
  have hz := zval65
  have hzn := z65_ne
  have h5' : (w.alloc (.cells z65 112)).cell? ⟨5, 15, none⟩ = some (.int .u8 4) := by rw [World.cell?_alloc_lt _ _ _ (by exact hw5)]; exact h5
  go_enter Tryd.func55, Tryd.ntmps55
  go_wp2_with (first
    | (go_at_call 74; refine (pow_any _).mono ?_; rintro e w1 ⟨rfl, rfl⟩)
    | (go_at_call 75; refine (tz_any _ h5').mono ?_; rintro e w1 ⟨rfl, rfl⟩))
  go_loopw [1, 13] (fun vu vi wr => ∃ (u j : Nat) (tl : List UInt8), vu = .int .u64 (u : Int) ∧ vi = .int .i64 ((65 - j : Nat) : Int) ∧ j ≤ 3 ∧ u < 65536 ∧ (j = 1 → u < 4096) ∧ (j = 2 → u < 256) ∧ (j = 3 → u < 16) ∧ Hid (tl.length = j ∧ hexT n = hexT u ++ tl) ∧ Hid (Row wr w.heap.size 112 (u8s (List.replicate (65 - j) 0 ++ byI tl))) ∧ Below w.heap.size w wr)
    (fun vu _ _ => (intOf vu).toNat)
  case atStart =>
    exact ⟨n, 0, [], rfl, rfl, by omega, hn, by omega, by omega, by omega, ⟨rfl, by simp⟩, Row.new w 112 z65, below_new w _⟩
  case round =>
    obtain ⟨u, j, tl, rfl, rfl, hj, hu, hj1, hj2, hj3, HT, HR, hb⟩ := hrel
    have f1 := HR.out.frozen (64 - j)
    have c1 : ∃ z, wr.cell? ⟨w.heap.size, 64 - j, none⟩ = some (.int .u8 z) := ⟨_, by rw [HR.out.cell, u8s_at _ _ (by simp; omega)]⟩
    obtain ⟨z, c1⟩ := c1
    have i1 : ((65 - j : Nat) : Int) - 1 = ((64 - j : Nat) : Int) := by omega
    have i2 : ((64 - j : Nat) : Int) < 65 := by omega
    have HN : Hid (∀ x : UInt8, Row (wr.setCell ⟨w.heap.size, 64 - j, none⟩ (.int .u8 (x.toNat : Int))) w.heap.size 112 (u8s (List.replicate (64 - j) 0 ++ byI (x :: tl)))) := by
      intro x
      have := tail_set j (byI tl) (x.toNat : Int) (by omega)
      show Row _ _ _ (u8s (List.replicate (64 - j) 0 ++ ((x.toNat : Int) :: byI tl)))
      rw [← this, ← u8s_set]; exact HR.out.set _ _
    have hN : 64 - j = 65 - (j + 1) := by omega
    have HM : Hid (64 - j = 65 - (j + 1)) := hN
    clear hN
    generalize hi : 64 - j = i at *
    have HI : Hid (64 - j = i) := hi
    clear hi
    by_cases hlt : 16 ≤ u
    · have hand : Go.bits BinOp.and IntKind.u64 (u : Int) 15 = ((u % 16 : Nat) : Int) := by
        have := u64_and_nat u 15 (by omega) (by omega)
        rw [Nat.and_two_pow_sub_one_eq_mod u 4] at this
        exact this
      have hix := idx_dig (u % 16) (Nat.mod_lt _ (by omega))
      have HS : Hid (hexT u = hexT (u / 16) ++ [dg (u % 16)]) := hexT_step u hlt hu
      have HD : Hid (u / 16 < u ∧ (j + 1 = 1 → u / 16 < 4096) ∧ (j + 1 = 2 → u / 16 < 256) ∧ (j + 1 = 3 → u / 16 < 16)) := ⟨by omega, by omega, by omega, by omega⟩
      generalize hd : u % 16 = d at *
      clear hd
      go_wp2
      go_roundw
      case rel =>
        refine ⟨u / 16, j + 1, dg d :: tl, by go_num, ?_, by omega, by have := HD.out.1; omega, HD.out.2.1, HD.out.2.2.1, HD.out.2.2.2, ⟨by simp [HT.out.1], by rw [HT.out.2, HS.out, List.append_assoc]; rfl⟩, ?_, hb.setCell (Nat.le_refl _) _⟩
        · rw [← HM.out]
        · rw [← HM.out]; exact HN.out _
      case measure => simp [intOf]; have := HD.out.1; omega
    · have hlt' : u < 16 := by omega
      have hix := idx_dig u hlt'
      have HX : Hid (hexT n = dg u :: tl) := by show _ = _; rw [HT.out.2, hexT_small u hlt']; rfl
      obtain ⟨m, hm⟩ : ∃ m, m = j + 1 := ⟨_, rfl⟩
      have hsl : ∀ w', (Instr.sliceAt 112 (.pointer (some ⟨w.heap.size, 0, none⟩)) (some (.int .i64 (i : Int))) none none).run Tryd.prog w' = .ok (.slice (some ⟨w.heap.size, i, none⟩) m m) w' := by
        intro w'
        rw [slice112 w' _ i (by omega)]
        rw [show 65 - i = m by have := HI.out; omega, Addr.add_mid, Nat.zero_add]
      have hcv : (convert 84 9 (.slice (some ⟨w.heap.size, i, none⟩) m m)).run Tryd.prog (wr.setCell ⟨w.heap.size, i, none⟩ (.int .u8 ((dg u).toNat : Int))) = .ok (.string ⟨(hexT n).toArray⟩) (wr.setCell ⟨w.heap.size, i, none⟩ (.int .u8 ((dg u).toNat : Int))) := by
        have hR := HN.out (dg u)
        rw [HX.out]
        have hln : (dg u :: tl).length = m := by simp [HT.out.1, hm]
        rw [← hln]
        refine run_convert_bytes_back _ 84 9 5 ⟨w.heap.size, i, none⟩ _ (dg u :: tl) Tryd.underlying84 Tryd.underlying5 Tryd.underlying9 (fun k hk => ?_)
        have e : (⟨w.heap.size, i, none⟩ : Addr).add k = ⟨w.heap.size, i + k, none⟩ := Addr.add_mid _ _ _
        rw [e, hR.cell, u8s_at _ _ (by simp [byI_len]; simp at hk; omega)]
        rw [List.getD_eq_getElem?_getD, List.getElem?_append_right (by simp)]
        simp only [List.length_replicate, Nat.add_sub_cancel_left, byI, List.getElem?_map, List.getElem?_eq_getElem hk, Option.map_some, Option.getD_some]
      have HR9 : Hid (Below w.heap.size w (wr.setCell ⟨w.heap.size, i, none⟩ (.int .u8 ((dg u).toNat : Int)))) := hb.setCell (Nat.le_refl _) _
      clear hm
      go_wp2
      go_ret2
      exact ⟨rfl, HR9.out⟩

theorem formatInt_in (n : Nat) (w : World) (hn : n < 65536) (h5 : w.cell? ⟨5, 15, none⟩ = some (.int .u8 4)) (hw5 : 5 < w.heap.size) :
    Calls Tryd.prog 44 #[.int .i64 (n : Int), .int .i64 16] w fun e w' => e = .returned (.string ⟨(hexT n).toArray⟩) ∧ Below w.heap.size w w' := by
  have h0 : decide ((n : Int) < 0) = false := decide_eq_false (by omega)
  go_enter Tryd.func44, Tryd.ntmps44
  go_wp2_with (go_at_call 55; refine (formatBits_any n _ hn h5 hw5).mono ?_; rintro e w1 ⟨rfl, hb⟩)
  go_ret
  exact ⟨rfl, hb⟩
theorem formatInt_any (n : Nat) (w : World) (hn : n < 65536) (h5 : w.cell? ⟨5, 15, none⟩ = some (.int .u8 4)) (hw5 : 5 < w.heap.size) :
    Calls Tryd.prog 39 #[.int .i64 (n : Int), .int .i64 16] w fun e w' => e = .returned (.string ⟨(hexT n).toArray⟩) ∧ Below w.heap.size w w' := by
  go_enter Tryd.func39, Tryd.ntmps39
  go_wp2_with (go_at_call 44; refine (formatInt_in n _ hn h5 hw5).mono ?_; rintro e w1 ⟨rfl, hb⟩)
  go_ret
  exact ⟨rfl, hb⟩
end Go.Proofs.YtoijfnkbjdekoaaDoor
