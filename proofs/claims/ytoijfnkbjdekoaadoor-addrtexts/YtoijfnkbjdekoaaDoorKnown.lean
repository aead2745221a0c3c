/- The chapter's examples. -/
import Derived.Test.YtoijfnkbjdekoaaDoorNod2
namespace Go.Proofs.YtoijfnkbjdekoaaDoor
open Go.ChangeShapes Go.WideShapes Go.ChangeAt Go.RowKit
set_option linter.unusedVariables false
set_option linter.unusedSimpArgs false

def ex1 : ByteArray := ⟨#[102, 101, 56, 48, 58, 58, 49, 58, 51]⟩
def ad1 : List Int := [254, 128, 0, 0, 0, 0, 0, 0, 0, 0, 0, 0, 0, 1, 0, 3]
def ex2 : List Int := [1, 0, 0, 2, 0, 0, 0, 3]
def ad2 : List Int := [0, 1, 0, 0, 0, 0, 0, 2, 0, 0, 0, 0, 0, 0, 0, 3]
theorem adr1 : Adr ad1 := ⟨rfl, by intro x hx; simp only [ad1, List.mem_cons, List.not_mem_nil, or_false] at hx; omega⟩
theorem adr2 : Adr ad2 := ⟨rfl, by intro x hx; simp only [ad2, List.mem_cons, List.not_mem_nil, or_false] at hx; omega⟩
theorem adrAll : Adr allL := ⟨rfl, by intro x hx; simp only [allL, List.mem_cons, List.not_mem_nil, or_false] at hx; omega⟩
theorem ex1_ok : (prsA ex1, prsE ex1) = (ad1, 0) := by kernel_rfl
theorem ad1_node : (nodN ad1, nodE ad1) = (2, 0) := by kernel_rfl
theorem ex2_ok : (ofA ex2, ofE ex2) = (ad2, 0) := by kernel_rfl
theorem ad2_txt : txt (grpL ad2) = [49, 58, 48, 58, 48, 58, 50, 58, 58, 51] := by kernel_rfl
theorem zero_txt : txt (grpL zeros) = [58, 58] := by kernel_rfl
theorem all_txt : txt (grpL allL) = [102, 102, 48, 50, 58, 58, 49, 97] := by kernel_rfl

set_option maxRecDepth 100000 in
set_option maxHeartbeats 1600000 in
theorem known_any (w : World) (hV : Vars w) : Calls Tryd.prog 14 #[] w fun e w' => e = .returned (.bool true) ∧ Below w.heap.size w w' := by
  have hz := zadr
  have hp : ∀ w' : World, Vars w' → Calls Tryd.prog 10 #[.string ⟨#[102, 101, 56, 48, 58, 58, 49, 58, 51]⟩] w' fun e w'' => e = .returned (.tuple #[.agg (u8s ad1), .int .i64 0]) ∧ Below w'.heap.size w' w'' := by
    intro w' hV'
    have h := parse_any ex1 w' (by decide) hV'
    have e1 : prsA ex1 = ad1 := congrArg Prod.fst ex1_ok
    have e2 : prsE ex1 = 0 := congrArg Prod.snd ex1_ok
    rw [e1, e2] at h
    exact h
  have hn : ∀ w' : World, Calls Tryd.prog 18 #[.agg (u8s ad1)] w' fun e w'' => e = .returned (.tuple #[.int .i64 2, .int .i64 0]) ∧ Below w'.heap.size w' w'' := by
    intro w'
    have h := node_any ad1 w' adr1
    have e1 : nodN ad1 = 2 := congrArg Prod.fst ad1_node
    have e2 : nodE ad1 = 0 := congrArg Prod.snd ad1_node
    rw [e1, e2] at h
    exact h
  have ho : ∀ w' : World, Calls Tryd.prog 9 #[.slice (some ⟨w'.heap.size, 0, none⟩) 8 8] (w'.alloc (.cells (i64s ex2) 3)) fun e w'' => e = .returned (.tuple #[.agg (u8s ad2), .int .i64 0]) ∧ Below (w'.heap.size + 1) (w'.alloc (.cells (i64s ex2) 3)) w'' := by
    intro w'
    have h := of_any (some ⟨w'.heap.size, 0, none⟩) 8 8 ex2 (w'.alloc (.cells (i64s ex2) 3)) (row_lies (Row.new w' 3 (i64s ex2)) 0 8 ex2 rfl rfl (fun k hk => by rw [Nat.zero_add])) (by omega)
    have e1 : ofA ex2 = ad2 := congrArg Prod.fst ex2_ok
    have e2 : ofE ex2 = 0 := congrArg Prod.snd ex2_ok
    rw [e1, e2, World.size_alloc] at h
    exact h
  have ht : ∀ (w' : World) (l : List Int) (t : List UInt8), Adr l → txt (grpL l) = t → Vars w' → Calls Tryd.prog 11 #[.agg (u8s l)] w' fun e w'' => e = .returned (.string ⟨t.toArray⟩) ∧ Below w'.heap.size w' w'' := by
    intro w' l t hl e hV'
    have h := text_any l w' hl hV'
    rw [e] at h
    exact h
  have HP : Hid (∀ w' : World, Vars w' → Calls Tryd.prog 10 #[.string ⟨#[102, 101, 56, 48, 58, 58, 49, 58, 51]⟩] w' fun e w'' => e = .returned (.tuple #[.agg (u8s ad1), .int .i64 0]) ∧ Below w'.heap.size w' w'') := hp
  have HN : Hid (∀ w' : World, Calls Tryd.prog 18 #[.agg (u8s ad1)] w' fun e w'' => e = .returned (.tuple #[.int .i64 2, .int .i64 0]) ∧ Below w'.heap.size w' w'') := hn
  have HO : Hid (∀ w' : World, Calls Tryd.prog 9 #[.slice (some ⟨w'.heap.size, 0, none⟩) 8 8] (w'.alloc (.cells (i64s ex2) 3)) fun e w'' => e = .returned (.tuple #[.agg (u8s ad2), .int .i64 0]) ∧ Below (w'.heap.size + 1) (w'.alloc (.cells (i64s ex2) 3)) w'') := ho
  have HT : Hid (∀ (w' : World) (l : List Int) (t : List UInt8), Adr l → txt (grpL l) = t → Vars w' → Calls Tryd.prog 11 #[.agg (u8s l)] w' fun e w'' => e = .returned (.string ⟨t.toArray⟩) ∧ Below w'.heap.size w' w'') := ht
  clear hp hn ho ht
  go_enter Tryd.func14, Tryd.ntmps14
  go_wp2_with fail
  refine (HP.out _ hV).mono ?_
  rintro e w1 ⟨rfl, hb1⟩
  have B1 : Hid (Below w.heap.size w w1) := hb1
  clear hb1
  go_wp2_with (first
    | (refine st25 _ _ rfl rfl w1.heap.size ad1 rfl rfl rfl 25 _ (by rfl) (Row.new w1 25 (u8s zeros)) ?_; have A2 : Row ((w1.alloc (.cells (u8s zeros) 25)).setRow w1.heap.size (u8s ad1)) w1.heap.size 25 (u8s ad1) := (Row.new w1 25 _).setRow _; have B2 : Hid (Below w.heap.size w ((w1.alloc (.cells (u8s zeros) 25)).setRow w1.heap.size (u8s ad1))) := below_setRow (B1.out.alloc B1.out.size _) B1.out.size _; generalize ((w1.alloc (.cells (u8s zeros) 25)).setRow w1.heap.size (u8s ad1)) = w2 at *)
    | (refine ld25 _ rfl rfl w1.heap.size 0 rfl ad1 rfl A2.part ?_)
    | (go_at_call 18; refine (HN.out _).mono ?_; rintro e w3 ⟨rfl, hb3⟩; have B3 : Hid (Below w.heap.size w w3) := B2.out.trans (hb3.mono B2.out.size); clear hb3))
  refine (HO.out w3).mono ?_
  rintro e w4 ⟨rfl, hb4⟩
  have B4 : Hid (Below w.heap.size w w4) := (B3.out.alloc B3.out.size _).trans (hb4.mono (Nat.le_succ_of_le B3.out.size))
  clear hb4
  go_wp2_with (first
    | (refine st25 _ _ rfl rfl w4.heap.size ad2 rfl rfl rfl 25 _ (by rfl) (Row.new w4 25 (u8s zeros)) ?_; have A5 : Row ((w4.alloc (.cells (u8s zeros) 25)).setRow w4.heap.size (u8s ad2)) w4.heap.size 25 (u8s ad2) := (Row.new w4 25 _).setRow _; have B5 : Hid (Below w.heap.size w ((w4.alloc (.cells (u8s zeros) 25)).setRow w4.heap.size (u8s ad2))) := below_setRow (B4.out.alloc B4.out.size _) B4.out.size _; generalize ((w4.alloc (.cells (u8s zeros) 25)).setRow w4.heap.size (u8s ad2)) = w5 at *)
    | (refine ld25 _ rfl rfl w4.heap.size 0 rfl ad2 rfl A5.part ?_))
  refine (HT.out _ ad2 _ adr2 ad2_txt (hV.grow B5.out)).mono ?_
  rintro e w6 ⟨rfl, hb6⟩
  have B6 : Hid (Below w.heap.size w w6) := B5.out.trans (hb6.mono B5.out.size)
  clear hb6
  go_wp2_with fail
  refine (HT.out _ zeros _ adr_zeros zero_txt (hV.grow B6.out)).mono ?_
  rintro e w7 ⟨rfl, hb7⟩
  have B7 : Hid (Below w.heap.size w w7) := B6.out.trans (hb7.mono B6.out.size)
  clear hb7
  go_wp2_with (go_at_call 33; refine (all_any _).mono ?_; rintro e w8 ⟨rfl, hb8⟩; have B8 : Hid (Below w.heap.size w w8) := B7.out.trans (hb8.mono B7.out.size); clear hb8)
  refine (HT.out _ allL _ adrAll all_txt (hV.grow B8.out)).mono ?_
  rintro e w9 ⟨rfl, hb9⟩
  have B9 : Hid (Below w.heap.size w w9) := B8.out.trans (hb9.mono B8.out.size)
  clear hb9
  go_wp2_with fail
  go_ret
  exact ⟨rfl, B9.out⟩
end Go.Proofs.YtoijfnkbjdekoaaDoor
