/- What addr's Parse answers. -/
import Derived.Test.YtoijfnkbjdekoaaDoorText
namespace Go.Proofs.YtoijfnkbjdekoaaDoor
open Go.ChangeShapes Go.WideShapes Go.ChangeAt Go.RowKit
set_option linter.unusedVariables false
set_option linter.unusedSimpArgs false

/-- Is it a text? -/
def prsB (s : ByteArray) : Bool := decide (s.size ≤ 39) && (ofB (gofL s) && txt (grpL (ofA (gofL s))) == s.data.toList)
def prsA (s : ByteArray) : List Int := if prsB s then ofA (gofL s) else zeros
def prsE (s : ByteArray) : Int := if prsB s then 0 else 3
theorem adr_prsA (s : ByteArray) : Adr (prsA s) := by unfold prsA; split; exact adr_ofA _; exact adr_zeros

set_option maxRecDepth 100000 in
set_option maxHeartbeats 1600000 in
theorem parse_any (s : ByteArray) (w : World) (hs : s.size ≤ 100) (hV : Vars w) :
    Calls Tryd.prog 10 #[.string s] w fun e w' => e = .returned (.tuple #[.agg (u8s (prsA s)), .int .i64 (prsE s)]) ∧ Below w.heap.size w w' := by
  have hR : Row (w.alloc (.cells (u8s zeros) 25)) w.heap.size 25 (u8s zeros) := Row.new w 25 _
  have hz := zadr
  have hV1 : Vars (w.alloc (.cells (u8s zeros) 25)) := hV.grow (below_new w _)
  by_cases h39 : s.size ≤ 39
  · have hgo := groupsOf_any s (w.alloc (.cells (u8s zeros) 25)) hs hV1
    have HP : Hid (prsB s = (ofB (gofL s) && txt (grpL (ofA (gofL s))) == s.data.toList)) := by show _ = _; simp [prsB, h39]
    have HA : Hid (prsA s = if prsB s then ofA (gofL s) else zeros) := rfl
    have HE : Hid (prsE s = if prsB s then 0 else 3) := rfl
    generalize prsA s = A at *
    generalize prsE s = E at *
    generalize prsB s = b at *
    have i39 : decide (39 < (s.size : Int)) = false := decide_eq_false (by omega)
    have i39' : decide (39 < s.size) = false := decide_eq_false (by omega)
    have HB : Hid (ofE (gofL s) = if ofB (gofL s) then 0 else 1) := rfl
    have HAd : Hid (Adr (ofA (gofL s))) := adr_ofA _
    have hglen : (gofL s).length ≤ 300 := by
      have h1 := nums_len (cutF s)
      have h2 := nums_len (cutB s)
      have h3 := cut_sizes s
      unfold gofL; split
      · simp; omega
      · simp; omega
    generalize gofL s = g at *
    cases hb : ofB g
    · have he : ofE g = 1 := by rw [HB.out, hb]; rfl
      have hbf : b = false := by rw [HP.out, hb]; rfl
      have HAE : Hid (A = zeros ∧ E = 3) := by rw [Hid, HA.out, HE.out, hbf]; exact ⟨rfl, rfl⟩
      go_enter Tryd.func10, Tryd.ntmps10
      go_wp2_with fail
      refine hgo.mono ?_
      rintro e w1 ⟨v, rfl, hO, hb1⟩
      obtain ⟨a1, c1, rfl, hL1⟩ := own_lies hO
      have R1 : Hid (Row w1 w.heap.size 25 (u8s zeros)) := hR.below hb1 (by simp)
      have B1 : Hid (Below w.heap.size w w1) := (below_new w _).trans (hb1.mono (by simp))
      clear hO hb1 hgo
      have hofc := of_any a1 g.length c1 g w1 hL1 (by omega)
      rw [he] at hofc
      go_wp2_with fail
      refine hofc.mono ?_
      rintro e w2 ⟨rfl, hb2⟩
      have R2 : Hid (Row w2 w.heap.size 25 (u8s zeros)) := R1.out.below hb2 R1.out.lt
      have B2 : Hid (Below w.heap.size w w2) := B1.out.trans (hb2.mono B1.out.size)
      have N2 : Hid (Row (w2.alloc (.cells (u8s zeros) 25)) w2.heap.size 25 (u8s zeros)) := Row.new w2 25 _
      clear hb2 hofc
      go_wp2_with (first
        | (refine st25 _ _ rfl rfl w2.heap.size (ofA g) HAd.out.1 rfl rfl 25 _ (by rfl) N2.out ?_; have R3 : Hid (Row ((w2.alloc (.cells (u8s zeros) 25)).setRow w2.heap.size (u8s (ofA g))) w.heap.size 25 (u8s zeros)) := (R2.out.alloc _).rowOther _ _ (by have := R2.out.lt; omega); have B3 : Hid (Below w.heap.size w ((w2.alloc (.cells (u8s zeros) 25)).setRow w2.heap.size (u8s (ofA g)))) := below_setRow (B2.out.alloc B2.out.size _) B2.out.size _; generalize ((w2.alloc (.cells (u8s zeros) 25)).setRow w2.heap.size (u8s (ofA g))) = w3 at *)
        | (refine st25 _ _ rfl rfl w.heap.size zeros zeros_len rfl rfl 25 _ (by rfl) R3.out ?_))
      obtain ⟨e1, e2⟩ := HAE.out
      refine bodyPost_ret (res25e rfl _ _ _ 25 zeros zeros_len (.int .i64 3) rfl rfl (R3.out.setRow _)) rfl ⟨by rw [e1, e2], ?_⟩
      exact below_setRow B3.out (Nat.le_refl _) _
    · have he : ofE g = 0 := by rw [HB.out, hb]; rfl
      have hbt : b = (txt (grpL (ofA g)) == s.data.toList) := by rw [HP.out, hb]; rfl
      have hTxt := fun w' => text_any (ofA g) w' HAd.out
      generalize txt (grpL (ofA g)) = T at *
      have HAE : Hid (A = (if b then ofA g else zeros) ∧ E = if b then 0 else 3) := ⟨HA.out, HE.out⟩
      have HT : Hid (∀ w' : World, Vars w' → Calls Tryd.prog 11 #[.agg (u8s (ofA g))] w' fun e w'' => e = .returned (.string ⟨T.toArray⟩) ∧ Below w'.heap.size w' w'') := hTxt
      clear hTxt
      have hbt2 : b = (T == s.toList) := by rw [hbt, ByteArray.toList_eq]
      clear hbt
      cases hb : b
      · have q : (T == s.toList) = false := by rw [← hbt2, hb]
        clear hbt2
        subst hb
        go_enter Tryd.func10, Tryd.ntmps10
        go_wp2_with fail
        refine hgo.mono ?_
        rintro e w1 ⟨v, rfl, hO, hb1⟩
        obtain ⟨a1, c1, rfl, hL1⟩ := own_lies hO
        have R1 : Hid (Row w1 w.heap.size 25 (u8s zeros)) := hR.below hb1 (by simp)
        have B1 : Hid (Below w.heap.size w w1) := (below_new w _).trans (hb1.mono (by simp))
        clear hO hb1 hgo
        have hofc := of_any a1 g.length c1 g w1 hL1 (by omega)
        rw [he] at hofc
        go_wp2_with fail
        refine hofc.mono ?_
        rintro e w2 ⟨rfl, hb2⟩
        have R2 : Hid (Row w2 w.heap.size 25 (u8s zeros)) := R1.out.below hb2 R1.out.lt
        have B2 : Hid (Below w.heap.size w w2) := B1.out.trans (hb2.mono B1.out.size)
        have N2 : Hid (Row (w2.alloc (.cells (u8s zeros) 25)) w2.heap.size 25 (u8s zeros)) := Row.new w2 25 _
        clear hb2 hofc
        go_wp2_with (first
          | (refine st25 _ _ rfl rfl w2.heap.size (ofA g) HAd.out.1 rfl rfl 25 _ (by rfl) N2.out ?_; have R3 : Hid (Row ((w2.alloc (.cells (u8s zeros) 25)).setRow w2.heap.size (u8s (ofA g))) w.heap.size 25 (u8s zeros)) := (R2.out.alloc _).rowOther _ _ (by have := R2.out.lt; omega); have N3 : Hid (Row ((w2.alloc (.cells (u8s zeros) 25)).setRow w2.heap.size (u8s (ofA g))) w2.heap.size 25 (u8s (ofA g))) := N2.out.setRow _; have B3 : Hid (Below w.heap.size w ((w2.alloc (.cells (u8s zeros) 25)).setRow w2.heap.size (u8s (ofA g)))) := below_setRow (B2.out.alloc B2.out.size _) B2.out.size _; generalize ((w2.alloc (.cells (u8s zeros) 25)).setRow w2.heap.size (u8s (ofA g))) = w3 at *)
          | (refine ld25 _ rfl rfl w2.heap.size 0 rfl (ofA g) HAd.out.1 N3.out.part ?_)
          | (go_at_call 11; refine (HT.out _ (hV.grow B3.out)).mono ?_; rintro e w4 ⟨rfl, hb4⟩; have R4 : Hid (Row w4 w.heap.size 25 (u8s zeros)) := R3.out.below hb4 R3.out.lt; have N4 : Hid (Row w4 w2.heap.size 25 (u8s (ofA g))) := N3.out.below hb4 N3.out.lt; have B4 : Hid (Below w.heap.size w w4) := B3.out.trans (hb4.mono B3.out.size); clear hb4)
          | (refine st25 _ _ rfl rfl w.heap.size zeros zeros_len rfl rfl 25 _ (by rfl) R4.out ?_))
        obtain ⟨e1, e2⟩ := HAE.out
        refine bodyPost_ret (res25e rfl _ _ _ 25 zeros zeros_len (.int .i64 3) rfl rfl (R4.out.setRow _)) rfl ⟨by rw [e1, e2]; rfl, ?_⟩
        exact below_setRow B4.out (Nat.le_refl _) _
      · have q : (T == s.toList) = true := by rw [← hbt2, hb]
        clear hbt2
        subst hb
        go_enter Tryd.func10, Tryd.ntmps10
        go_wp2_with fail
        refine hgo.mono ?_
        rintro e w1 ⟨v, rfl, hO, hb1⟩
        obtain ⟨a1, c1, rfl, hL1⟩ := own_lies hO
        have R1 : Hid (Row w1 w.heap.size 25 (u8s zeros)) := hR.below hb1 (by simp)
        have B1 : Hid (Below w.heap.size w w1) := (below_new w _).trans (hb1.mono (by simp))
        clear hO hb1 hgo
        have hofc := of_any a1 g.length c1 g w1 hL1 (by omega)
        rw [he] at hofc
        go_wp2_with fail
        refine hofc.mono ?_
        rintro e w2 ⟨rfl, hb2⟩
        have R2 : Hid (Row w2 w.heap.size 25 (u8s zeros)) := R1.out.below hb2 R1.out.lt
        have B2 : Hid (Below w.heap.size w w2) := B1.out.trans (hb2.mono B1.out.size)
        have N2 : Hid (Row (w2.alloc (.cells (u8s zeros) 25)) w2.heap.size 25 (u8s zeros)) := Row.new w2 25 _
        clear hb2 hofc
        go_wp2_with (first
          | (refine st25 _ _ rfl rfl w2.heap.size (ofA g) HAd.out.1 rfl rfl 25 _ (by rfl) N2.out ?_; have R3 : Hid (Row ((w2.alloc (.cells (u8s zeros) 25)).setRow w2.heap.size (u8s (ofA g))) w.heap.size 25 (u8s zeros)) := (R2.out.alloc _).rowOther _ _ (by have := R2.out.lt; omega); have N3 : Hid (Row ((w2.alloc (.cells (u8s zeros) 25)).setRow w2.heap.size (u8s (ofA g))) w2.heap.size 25 (u8s (ofA g))) := N2.out.setRow _; have B3 : Hid (Below w.heap.size w ((w2.alloc (.cells (u8s zeros) 25)).setRow w2.heap.size (u8s (ofA g)))) := below_setRow (B2.out.alloc B2.out.size _) B2.out.size _; generalize ((w2.alloc (.cells (u8s zeros) 25)).setRow w2.heap.size (u8s (ofA g))) = w3 at *)
          | (refine ld25 _ rfl rfl w2.heap.size 0 rfl (ofA g) HAd.out.1 N3.out.part ?_)
          | (go_at_call 11; refine (HT.out _ (hV.grow B3.out)).mono ?_; rintro e w4 ⟨rfl, hb4⟩; have R4 : Hid (Row w4 w.heap.size 25 (u8s zeros)) := R3.out.below hb4 R3.out.lt; have N4 : Hid (Row w4 w2.heap.size 25 (u8s (ofA g))) := N3.out.below hb4 N3.out.lt; have B4 : Hid (Below w.heap.size w w4) := B3.out.trans (hb4.mono B3.out.size); clear hb4)
          | (refine ld25 _ rfl rfl w2.heap.size 0 rfl (ofA g) HAd.out.1 N4.out.part ?_)
          | (refine st25 _ _ rfl rfl w.heap.size (ofA g) HAd.out.1 rfl rfl 25 _ (by rfl) R4.out ?_))
        obtain ⟨e1, e2⟩ := HAE.out
        refine bodyPost_ret (res25e rfl _ _ _ 25 (ofA g) HAd.out.1 (.int .i64 0) rfl rfl (R4.out.setRow _)) rfl ⟨by rw [e1, e2]; rfl, ?_⟩
        exact below_setRow B4.out (Nat.le_refl _) _
  · have HAE : Hid (prsA s = zeros ∧ prsE s = 3) := by
      have : prsB s = false := by simp [prsB, h39]
      simp [Hid, prsA, prsE, this]
    have i39 : (39 < (s.size : Int)) := by omega
    go_enter Tryd.func10, Tryd.ntmps10
    go_wp2_with (refine st25 _ _ rfl rfl w.heap.size zeros zeros_len rfl rfl 25 _ (by rfl) hR ?_)
    obtain ⟨e1, e2⟩ := HAE.out
    refine bodyPost_ret (res25e rfl _ _ _ 25 zeros zeros_len (.int .i64 3) rfl rfl (hR.setRow _)) rfl ⟨by rw [e1, e2], ?_⟩
    exact below_setRow (below_new w _) (Nat.le_refl _) _
end Go.Proofs.YtoijfnkbjdekoaaDoor
