/- AddrTexts: its walk, with the contracts put in. -/
import Derived.Test.YtoijfnkbjdekoaaDoorTextsWalk
import Derived.Test.YtoijfnkbjdekoaaDoorTxq
import Derived.Test.YtoijfnkbjdekoaaDoorRtx
import Derived.Test.YtoijfnkbjdekoaaDoorKnown
import Derived.Test.YtoijfnkbjdekoaaDoorDoor
namespace Go.Proofs.YtoijfnkbjdekoaaDoor
open Go.ChangeShapes Go.WideShapes Go.ChangeAt Go.RowKit
set_option linter.unusedVariables false

theorem of_toList (x : ByteArray) : (⟨x.data.toList.toArray⟩ : ByteArray) = x := by apply ByteArray.ext; simp
theorem prs_ok {x : ByteArray} (h : prsB x = true) : prsE x = 0 ∧ txt (grpL (prsA x)) = x.data.toList := by
  have h2 : txt (grpL (ofA (gofL x))) = x.data.toList := by
    simp only [prsB, Bool.and_eq_true, beq_iff_eq] at h
    exact h.2.2
  exact ⟨by rw [prsE, if_pos h], by rw [prsA, if_pos h]; exact h2⟩
theorem prs_no {x : ByteArray} (h : prsB x = false) : prsE x = 3 ∧ prsA x = zeros := by
  constructor
  · rw [prsE, h]; rfl
  · rw [prsA, h]; rfl

theorem texts_walk (l : List Int) (s : ByteArray) (w : World) (ha : Adr l) (hs : s.size ≤ maxLen) (hV : Vars w) :
    Calls Tryd.prog 3 #[.agg (u8s l), .string s] w fun e w' => e = .returned (.bool true) ∧ Below w.heap.size w w' := by
  obtain ⟨x, hx⟩ : ∃ x, s.extract 0 (min (s.size : Int) 60).toNat = x := ⟨_, rfl⟩
  have hxs : x.size ≤ 100 := by rw [← hx, ByteArray.size_extract]; omega
  have ht := prs_txt l ha
  have hte := (prs_ok ht.1).1
  refine texts_core l (grpL l) (prsA x) s ⟨(txt (grpL l)).toArray⟩ x (prsE x) w ha (adr_prsA x) (grpL_len l) hs hx hV
    (fun w' => groups_any l w' ha) ?_ (fun w' h => text_any l w' ha h) ?_ (fun w' h => parse_any x w' hxs h) (fun w' => refGroups_any l w' ha) (fun w' => refText_any l w' ha) ?_ (fun w' h => known_any w' h) ?_
  · intro w' b hr
    have h := of_any (some ⟨b, 0, none⟩) 8 8 (grpL l) w' (row_lies hr 0 8 (grpL l) rfl (grpL_len l) (fun k hk => by rw [Nat.zero_add])) (by omega)
    rw [ofA_grp l ha, ofE_grp l ha] at h
    exact h
  · intro w' h
    have h39 := txt_len (grpL l) (grpL_len l)
    have hp := parse_any ⟨(txt (grpL l)).toArray⟩ w' (by show (txt (grpL l)).toArray.size ≤ 100; simp; omega) h
    rw [ht.2, hte] at hp
    exact hp
  · intro he w'
    have hb : prsB x = true := by
      cases h : prsB x
      · rw [(prs_no h).1] at he; omega
      · rfl
    have h := refText_any (prsA x) w' (adr_prsA x)
    rw [(prs_ok hb).2, of_toList] at h
    exact h
  · cases h : prsB x
    · refine Or.inr ⟨(prs_no h).1, (prs_no h).2, ?_⟩
      rw [ByteArray.toList_eq, ByteArray.toList_eq, beq_eq_false_iff_ne]
      intro e
      have e2 : x = ⟨(txt (grpL l)).toArray⟩ := by rw [← of_toList x, e]
      rw [e2, ht.1] at h
      cases h
    · exact Or.inl (prs_ok h).1
end Go.Proofs.YtoijfnkbjdekoaaDoor
