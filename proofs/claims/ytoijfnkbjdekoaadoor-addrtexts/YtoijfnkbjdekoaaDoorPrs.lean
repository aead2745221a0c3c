/- What strconv's ParseUint answers to the base 16 with 16 bits. -/
import Derived.Test.YtoijfnkbjdekoaaDoorFmt
import Derived.Test.YtoijfnkbjdekoaaDoorShelf
import Derived.Lib.Strings
import Derived.Lib.Hide
import Derived.Laws.Strings3
import Derived.Laws.Closers25
import Derived.Laws.Closers25b
import Derived.BigCall
import Derived.BigGuard
namespace Go.Proofs.YtoijfnkbjdekoaaDoor
open Go.ChangeShapes Go.WideShapes Go.ChangeAt Go.RowKit
set_option linter.unusedVariables false
set_option linter.unusedSimpArgs false

/-- What a sign stands for. -/
def hexV (c : UInt8) : Option Nat :=
  if 48 ≤ c.toNat ∧ c.toNat ≤ 57 then some (c.toNat - 48) else if 97 ≤ Go.bits BinOp.or IntKind.u8 (c.toNat : Int) 32 ∧ Go.bits BinOp.or IntKind.u8 (c.toNat : Int) 32 ≤ 102 then some ((Go.bits BinOp.or IntKind.u8 (c.toNat : Int) 32).toNat - 87) else none
/-- How a number's text ends: 0 and the number; 1 and the greatest one, it is too great; 2 and 0, it is none. -/
def hexP : Nat → List UInt8 → Nat × Nat
  | acc, [] => (0, acc)
  | acc, c :: r => match hexV c with
    | none => (2, 0)
    | some d => if 65535 < acc * 16 + d then (1, 65535) else hexP (acc * 16 + d) r
def errV (k : Nat) : Value := if k = 0 then .nilIface else .iface 103 (.int .i64 (k : Int))
def hexS (l : List UInt8) : Nat × Nat := if l = [] then (2, 0) else hexP 0 l

theorem or_95 : Go.bits BinOp.or IntKind.u8 95 32 = 127 := by kernel_rfl
theorem hexV_dig (c : UInt8) (h : 48 ≤ c.toNat ∧ c.toNat ≤ 57) : hexV c = some (c.toNat - 48) := by simp [hexV, h]
theorem hexV_let (c : UInt8) (h : ¬ (48 ≤ c.toNat ∧ c.toNat ≤ 57)) (v : Int) (hv : Go.bits BinOp.or IntKind.u8 (c.toNat : Int) 32 = v) (h1 : 97 ≤ v) (h2 : v ≤ 102) : hexV c = some (v.toNat - 87) := by
  unfold hexV; rw [if_neg h, hv, if_pos ⟨h1, h2⟩]
theorem hexV_no (c : UInt8) (h : ¬ (48 ≤ c.toNat ∧ c.toNat ≤ 57)) (v : Int) (hv : Go.bits BinOp.or IntKind.u8 (c.toNat : Int) 32 = v) (h1 : v < 97 ∨ 102 < v) : hexV c = none := by
  unfold hexV; rw [if_neg h, hv, if_neg (by omega)]

set_option maxHeartbeats 3200000 in
set_option maxRecDepth 100000 in
theorem parse_in (t : ByteArray) (hne : t.size ≠ 0) (hmax : t.size ≤ 9223372036854775806) (w : World) :
    Calls Tryd.prog 50 #[.string t, .int .i64 16, .int .i64 16] w fun e w' => e = .returned (.tuple #[.int .u64 ((hexP 0 t.data.toList).2 : Int), errV (hexP 0 t.data.toList).1]) ∧ w' = Lib.bytesWorld w 5 t := by
  have hemp : t.toList.isEmpty = false := by
    rw [← decide_eq_emptyBytes]
    exact decide_eq_false (fun h => hne (by rw [h]; rfl))
  have hcv := Lib.run_convert_string_bytes (P := Tryd.prog) w 9 84 5 t (u := .string) Tryd.underlying9 Tryd.underlying84 Tryd.underlying5
  have hB : ∀ j, j < t.size → (Lib.bytesWorld w 5 t).cell? ⟨w.heap.size, j, none⟩ = some (.int .u8 (t.data.toList.getD j 0).toNat) := fun j hj => Lib.bytesWorld_cell w 5 t j hj
  obtain ⟨W1, hW1⟩ : ∃ W1, W1 = Lib.bytesWorld w 5 t := ⟨_, rfl⟩
  rw [← hW1] at hcv hB ⊢
  clear hW1
  obtain ⟨bs, hL⟩ : ∃ bs, bs = t.data.toList := ⟨_, rfl⟩
  have hLn : bs.length = t.size := by rw [hL, Lib.size_eq]
  rw [← hL] at hB ⊢
  clear hL
  have HB : Hid _ := hB
  clear hB
  have hmv : IntKind.u64.wrap (IntKind.u64.wrap 65536 - 1) = 65535 := by
    rw [IntKind.wrap_u64, IntKind.wrap_u64]
    decide
  go_enter Tryd.func50, Tryd.ntmps50
  go_wp2
  go_loop [12, 13, 101] (fun vu vn vi => ∃ (k acc : Nat) (a : Int), vu = .bool false ∧ vn = .int .u64 a ∧ vi = .int .i64 k ∧ k ≤ t.size ∧ Hid (a = (acc : Int) ∧ acc ≤ 65535 ∧ hexP 0 bs = hexP acc (bs.drop k)))
    (fun _ _ vi => t.size - (intOf vi).toNat)
  case atStart => exact ⟨0, 0, 0, rfl, rfl, rfl, by omega, rfl, by omega, rfl⟩
  case round =>
    obtain ⟨k, acc, a, rfl, rfl, rfl, hk, hh⟩ := hrel
    obtain ⟨ha, hacc, hdec⟩ := hh.out
    clear hh
    have a0 : 0 ≤ a := by omega
    have a1 : a ≤ 65535 := by omega
    by_cases hkn : k < t.size
    · have hc := HB.out k hkn
      have hdrop : bs.drop k = bs[k]'(by omega) :: bs.drop (k + 1) := List.drop_eq_getElem_cons (by omega)
      have hget : bs.getD k 0 = bs[k]'(by omega) := by simp [List.getD, List.getElem?_eq_getElem (show k < bs.length by omega)]
      rw [hdrop] at hdec
      rw [hget] at hc
      generalize bs[k]'(by omega) = c at hc hdec
      have hc256 : c.toNat < 256 := c.toNat_lt
      clear hdrop hget
      by_cases hdig : 48 ≤ c.toNat ∧ c.toNat ≤ 57
      · have hV := hexV_dig c hdig
        obtain ⟨hd0, hd1⟩ := hdig
        by_cases hov : 65535 < acc * 16 + (c.toNat - 48)
        · have hF : Hid (hexP 0 bs = (1, 65535)) := by show _ = _; rw [hdec, hexP, hV]; simp [hov]
          have iov : 65535 < a * 16 + ((c.toNat : Int) - 48) := by omega
          clear hacc hov ha hdec hV
          go_wp2
          go_ret2
          exact ⟨by rw [hF.out]; rfl, rfl⟩
        · have HN : Hid (a * 16 + ((c.toNat : Int) - 48) = ((acc * 16 + (c.toNat - 48) : Nat) : Int) ∧ acc * 16 + (c.toNat - 48) ≤ 65535 ∧ hexP 0 bs = hexP (acc * 16 + (c.toNat - 48)) (bs.drop (k + 1))) :=
            ⟨by omega, by omega, by rw [hdec, hexP, hV]; simp [hov]⟩
          have iov : a * 16 + ((c.toNat : Int) - 48) ≤ 65535 := by omega
          clear hacc hov ha hdec hV
          go_wp2
          refine ⟨⟨k + 1, acc * 16 + (c.toNat - 48), a * 16 + ((c.toNat : Int) - 48), rfl, (by first | rfl | (congr 1; omega)), (by first | rfl | (congr 1; omega)), by omega, HN⟩, by simp [intOf]; omega⟩
      · have hv0 := bits_lo_u8 .or (c.toNat : Int) 32
        have hv1 := bits_hi_u8 .or (c.toNat : Int) 32
        obtain ⟨v, hv⟩ : ∃ v, Go.bits BinOp.or IntKind.u8 (c.toNat : Int) 32 = v := ⟨_, rfl⟩
        rw [hv] at hv0 hv1
        have h95 : ((c.toNat : Int) == 95) = true → v = 127 := by
          intro h
          have : (c.toNat : Int) = 95 := by simpa using h
          rw [this] at hv
          rw [← hv]; exact or_95
        by_cases hlet : 97 ≤ v ∧ v ≤ 102
        · have hV := hexV_let c hdig v hv hlet.1 hlet.2
          have h95' : ((c.toNat : Int) == 95) = false := by
            cases h : ((c.toNat : Int) == 95) with
            | false => rfl
            | true => have := h95 h; omega
          obtain ⟨hl1, hl2⟩ := hlet
          have HD : Hid (¬ (48 ≤ c.toNat ∧ c.toNat ≤ 57)) := hdig
          have HVV : Hid (Go.bits BinOp.or IntKind.u8 (c.toNat : Int) 32 = v) := hv
          clear h95 hdig hv
          by_cases hov : 65535 < acc * 16 + (v.toNat - 87)
          · have hF : Hid (hexP 0 bs = (1, 65535)) := by show _ = _; rw [hdec, hexP, hV]; simp [hov]
            have iov : 65535 < a * 16 + (v - 97 + 10) := by omega
            clear hacc hov ha hdec hV
            rcases (show (c.toNat : Int) < 48 ∨ 57 < (c.toNat : Int) by have := HD.out; omega) with q | q
            all_goals
              go_wp2_with (go_at_call 65; refine (Tryd.internal_strconv_lower _ _).mono ?_; rintro e w' ⟨rfl, rfl⟩; rw [HVV.out])
              go_ret2
              exact ⟨by rw [hF.out]; rfl, rfl⟩
          · have HN : Hid (a * 16 + (v - 97 + 10) = ((acc * 16 + (v.toNat - 87) : Nat) : Int) ∧ acc * 16 + (v.toNat - 87) ≤ 65535 ∧ hexP 0 bs = hexP (acc * 16 + (v.toNat - 87)) (bs.drop (k + 1))) :=
              ⟨by omega, by omega, by rw [hdec, hexP, hV]; simp [hov]⟩
            have iov : a * 16 + (v - 97 + 10) ≤ 65535 := by omega
            clear hacc hov ha hdec hV
            rcases (show (c.toNat : Int) < 48 ∨ 57 < (c.toNat : Int) by have := HD.out; omega) with q | q
            all_goals
              go_wp2_with (go_at_call 65; refine (Tryd.internal_strconv_lower _ _).mono ?_; rintro e w' ⟨rfl, rfl⟩; rw [HVV.out])
              refine ⟨⟨k + 1, acc * 16 + (v.toNat - 87), a * 16 + (v - 97 + 10), rfl, (by first | rfl | (congr 1; omega)), (by first | rfl | (congr 1; omega)), by omega, HN⟩, by simp [intOf]; omega⟩
        · have hV := hexV_no c hdig v hv (by omega)
          have hF : Hid (hexP 0 bs = (2, 0)) := by show _ = _; rw [hdec, hexP, hV]
          have HVV : Hid (Go.bits BinOp.or IntKind.u8 (c.toNat : Int) 32 = v) := hv
          have HD : Hid (¬ (48 ≤ c.toNat ∧ c.toNat ≤ 57)) := hdig
          have HL : Hid (¬ (97 ≤ v ∧ v ≤ 102)) := hlet
          have HU : Hid (Go.bits BinOp.or IntKind.u8 95 32 = 127) := or_95
          clear hacc ha hdec hV h95 hv hdig hlet
          rcases (show v < 97 ∨ 122 < v ∨ (102 < v ∧ v ≤ 122 ∧ 97 ≤ v) by have := HL.out; omega) with q | q | q
          all_goals
            rcases (show (c.toNat : Int) < 48 ∨ 57 < (c.toNat : Int) by have := HD.out; omega) with q' | q'
            all_goals
              go_wp2_with (go_at_call 65; refine (Tryd.internal_strconv_lower _ _).mono ?_; rintro e w' ⟨rfl, rfl⟩; first | rw [HVV.out] | rw [HU.out])
              all_goals go_ret2
              all_goals exact ⟨by rw [hF.out]; rfl, rfl⟩
    · have hkk : k = t.size := by omega
      subst hkk
      have hF : Hid (hexP 0 bs = (0, acc)) := by show _ = _; rw [hdec, List.drop_eq_nil_of_le (by omega)]; rfl
      subst ha
      clear hacc a0 a1 hdec
      go_wp2
      go_ret2
      exact ⟨by rw [hF.out]; rfl, rfl⟩
end Go.Proofs.YtoijfnkbjdekoaaDoor
