/- Reading: skipZeros. -/
import Derived.Test.YtbgogeojdibmkaaDoorSkz
namespace Go.Proofs.YtbgogeojdibmkaaDoor
open Go.ChangeShapes Go.WideShapes Go.ChangeAt Go.RowKit Go.Deep
set_option linter.unusedVariables false
set_option linter.unusedSimpArgs false

/-- What is wrong with a cursor behind Spoil. -/
def spE (er e : Int) : Int := if er = 0 then e else er
theorem spoil_any (w : World) (c : Nat) (a : Option Addr) (len cap at_ : Nat) (l : List Int) (er e : Int) (h : CurAt w c a len cap l at_ er) :
    Calls Tryd.prog 50 #[.pointer (some ⟨c, 0, none⟩), .int .i64 e] w fun e' w' => e' = .returned (.tuple #[]) ∧ CurAt w' c a len cap l at_ (spE er e) ∧ w.grownBy w' (some c) ∧ w'.heap.size = w.heap.size := by
  by_cases her : er = 0
  · subst her
    have : spE 0 e = e := by simp [spE]
    rw [this]
    exact spoil_now w c a len cap at_ l e h
  · have : spE er e = er := by simp [spE, her]
    rw [this]
    refine (spoil_was w c er e h.cell2 her).mono ?_
    rintro e' w' ⟨rfl, rfl⟩
    exact ⟨rfl, h, grownBy_drewN w' 0 _, rfl⟩
theorem rd_all (len at_ : Nat) (h : at_ ≤ len) : rdE 1 ((len : Int) - at_) (len - at_) 0 = 0 ∧ rdN 1 ((len : Int) - at_) (len - at_) 0 = len - at_ := by
  have h1 : rdE 1 ((len : Int) - at_) (len - at_) 0 = 0 := by
    unfold rdE
    have hz : sizeB 1 = true := by decide
    rw [if_pos rfl, if_neg (by rw [hz]; simp; omega), if_neg (by omega)]
  refine ⟨h1, ?_⟩
  rw [rdN, if_pos h1]; omega
/-- bytes(left) with nothing wrong. -/
theorem bytes_left (w : World) (c : Nat) (a : Option Addr) (len cap at_ : Nat) (l : List Int) (h : CurAt w c a len cap l at_ 0) :
    Calls Tryd.prog 67 #[.pointer (some ⟨c, 0, none⟩), .int .i64 ((len : Int) - at_)] w fun e w' => ∃ b cp, e = .returned (.slice b (len - at_) cp) ∧ w'.ownsRow w.heap.size 5 1 (.slice b (len - at_) cp) (len - at_) (u8s (l.drop at_)) ∧
      Lies .u8 w' b (len - at_) cp (l.drop at_) ∧ CurAt w' c a len cap l len 0 ∧ w.grownBy w' (some c) := by
  have hle := h.le
  obtain ⟨hE, hN⟩ := rd_all len at_ h.le
  have hll := h.lies.1
  have hd : (l.drop at_).take (len - at_) = l.drop at_ := List.take_of_length_le (by rw [List.length_drop]; omega)
  have hdl : (l.drop at_).length = len - at_ := by rw [List.length_drop]; omega
  have := bytes_any w c a len cap at_ l 0 ((len : Int) - at_) h
  rw [hE, hN, hd] at this
  refine this.mono ?_
  rintro e w' ⟨v, rfl, hown, hc, hg⟩
  have hown' := ownsRow_u8 hown hdl.symm rfl
  obtain ⟨b, cp, rfl, hl, _⟩ := owns_lies hown'
  rw [hdl] at hl ⊢
  rw [show at_ + (len - at_) = len by omega] at hc
  rw [hdl] at hown
  exact ⟨b, cp, rfl, hown, hl, hc, hg⟩
def zerE (l : List Int) : Int := if anyN l = true then 3 else 0
theorem skipZeros_any (w : World) (p c : Nat) (a : Option Addr) (len cap at_ : Nat) (l : List Int) (gv : Value) (hr : Row w p 72 #[.pointer (some ⟨c, 0, none⟩), gv]) (h : CurAt w c a len cap l at_ 0) :
    Calls Tryd.prog 66 #[.pointer (some ⟨p, 0, none⟩)] w fun e w' => e = .returned (.tuple #[]) ∧ CurAt w' c a len cap l len (zerE (l.drop at_)) ∧ w.grownBy w' (some c) := by
  have hpc : p ≠ c := by
    intro e
    subst e
    have := h.block
    rw [hr] at this
    simp at this
  have R0 := hid hr
  have C0 := hid h
  clear hr h
  go_enter Tryd.func66, Tryd.ntmps66
  go_wp2_with fail
  refine wp_region_held_drew (S := fun w' => w'.cell? ⟨p, 0, none⟩ = some (.pointer (some ⟨c, 0, none⟩))) (by kernel_rfl) ?_ (fun hHeld => ?_)
  · exact R0.out.cell 0
  refine wpAnyH_take (i := 0) (oi := _) (v := ?va0) rfl (by kernel_rfl) (by kernel_rfl) (by kernel_rfl) (fun _ _ _ h => h) (Or.inl ⟨by rfl, ?hya0⟩) (by assumption) ?resta0
  case hya0 => (intro w hSw; (try dsimp only at hSw); go_split_ands; go_simp; try (with_reducible rfl))
  try simp only [List.getElem_toArray, List.getElem_cons_zero, List.getElem_cons_succ, Act.put, List.setIfInBounds_toArray, List.set_cons_zero, List.set_cons_succ]
  refine wpAnyH_take (i := 1) (oi := _) (v := ?va1) rfl (by kernel_rfl) (by kernel_rfl) (by kernel_rfl) (fun _ _ _ h => h) (Or.inl ⟨by rfl, ?hya1⟩) (by assumption) ?resta1
  case hya1 => (intro w hSw; (try dsimp only at hSw); go_split_ands; go_simp; try (with_reducible rfl))
  try simp only [List.getElem_toArray, List.getElem_cons_zero, List.getElem_cons_succ, Act.put, List.setIfInBounds_toArray, List.set_cons_zero, List.set_cons_succ]
  refine wpAnyH_take (i := 2) (oi := _) (v := ?va2) rfl (by kernel_rfl) (by kernel_rfl) (by kernel_rfl) (fun _ _ _ h => h) (Or.inl ⟨by rfl, ?hya2⟩) (by assumption) ?resta2
  case hya2 => (intro w hSw; (try dsimp only at hSw); go_split_ands; go_simp; try (with_reducible rfl))
  try simp only [List.getElem_toArray, List.getElem_cons_zero, List.getElem_cons_succ, Act.put, List.setIfInBounds_toArray, List.set_cons_zero, List.set_cons_succ]
  refine wpAnyH_take (i := 3) (oi := _) (v := ?va3) rfl (by kernel_rfl) (by kernel_rfl) (by kernel_rfl) (fun _ _ _ h => h) (Or.inl ⟨by rfl, ?hya3⟩) (by assumption) ?resta3
  case hya3 => (intro w hSw; (try dsimp only at hSw); go_split_ands; go_simp; try (with_reducible rfl))
  try simp only [List.getElem_toArray, List.getElem_cons_zero, List.getElem_cons_succ, Act.put, List.setIfInBounds_toArray, List.set_cons_zero, List.set_cons_succ]
  refine wpAnyH_take (i := 4) (oi := _) (v := ?va4) rfl (by kernel_rfl) (by kernel_rfl) (by kernel_rfl) (fun _ _ _ h => h) (Or.inl ⟨by rfl, ?hya4⟩) (by assumption) ?resta4
  case hya4 => (intro w hSw; (try dsimp only at hSw); go_split_ands; go_simp; try (with_reducible rfl))
  try simp only [List.getElem_toArray, List.getElem_cons_zero, List.getElem_cons_succ, Act.put, List.setIfInBounds_toArray, List.set_cons_zero, List.set_cons_succ]
  refine wpAnyH_take (i := 5) (oi := _) (v := ?va5) rfl (by kernel_rfl) (by kernel_rfl) (by kernel_rfl) (fun _ _ _ h => h) (Or.inl ⟨by rfl, ?hya5⟩) (by assumption) ?resta5
  case hya5 => (intro w hSw; (try dsimp only at hSw); go_split_ands; go_simp; try (with_reducible rfl))
  try simp only [List.getElem_toArray, List.getElem_cons_zero, List.getElem_cons_succ, Act.put, List.setIfInBounds_toArray, List.set_cons_zero, List.set_cons_succ]
  refine wpAnyH_take (i := 6) (oi := _) (v := ?va6) rfl (by kernel_rfl) (by kernel_rfl) (by kernel_rfl) (fun _ _ _ h => h) (Or.inl ⟨by rfl, ?hya6⟩) (by assumption) ?resta6
  case hya6 => (intro w hSw; (try dsimp only at hSw); go_split_ands; go_simp; try (with_reducible rfl))
  try simp only [List.getElem_toArray, List.getElem_cons_zero, List.getElem_cons_succ, Act.put, List.setIfInBounds_toArray, List.set_cons_zero, List.set_cons_succ]
  refine wpAnyH_take (i := 7) (oi := _) (v := ?va7) rfl (by kernel_rfl) (by kernel_rfl) (by kernel_rfl) (fun _ _ _ h => h) (Or.inl ⟨by rfl, ?hya7⟩) (by assumption) ?resta7
  case hya7 => (intro w hSw; (try dsimp only at hSw); go_split_ands; go_simp; try (with_reducible rfl))
  try simp only [List.getElem_toArray, List.getElem_cons_zero, List.getElem_cons_succ, Act.put, List.setIfInBounds_toArray, List.set_cons_zero, List.set_cons_succ]
  refine wpAnyH_take (i := 10) (oi := _) (v := ?va10) rfl (by kernel_rfl) (by kernel_rfl) (by kernel_rfl) (fun _ _ _ h => h) (Or.inl ⟨by rfl, ?hya10⟩) (by assumption) ?resta10
  case hya10 => (intro w hSw; (try dsimp only at hSw); go_split_ands; go_simp; try (with_reducible rfl))
  try simp only [List.getElem_toArray, List.getElem_cons_zero, List.getElem_cons_succ, Act.put, List.setIfInBounds_toArray, List.set_cons_zero, List.set_cons_succ]
  refine wpAnyH_ready (rs := [8]) (by kernel_rfl) (by simp) ?_
  refine AllReadyH.cons (o := _) rfl (fun K hK => ?_) AllReadyH.nil
  go_simp
  refine (left_any _ c a len cap at_ l 0 (C0.out.drewN _)).mono ?_
  rintro e w1 ⟨rfl, q, rfl⟩
  go_wp2_with fail
  refine hK.out _ _ (R0.out.cell 0) (fun hHeld => ?_)
  clear hK K
  try simp only [List.getElem_toArray, List.getElem_cons_zero, List.getElem_cons_succ, Act.put, List.setIfInBounds_toArray, List.set_cons_zero, List.set_cons_succ]
  refine wpAnyH_ready (rs := [9]) (by kernel_rfl) (by simp) ?_
  refine AllReadyH.cons (o := _) rfl (fun K hK => ?_) AllReadyH.nil
  go_simp
  refine (bytes_left _ c a len cap at_ l (C0.out.drewN _)).mono ?_
  rintro e w2 ⟨b, cp, rfl, hown, hl, hc, hg⟩
  have R2 := hid ((R0.out.drewN _).kept hg (by simp [hpc]))
  have L2 := hid hl
  have C2 := hid hc
  have G2 := hid ((grownBy_drewN w _ (some c)).trans hg)
  clear hown hl hc hg
  go_wp2_with fail
  refine hK.out _ _ (R2.out.cell 0) (fun hHeld => ?_)
  clear hK K
  try simp only [List.getElem_toArray, List.getElem_cons_zero, List.getElem_cons_succ, Act.put, List.setIfInBounds_toArray, List.set_cons_zero, List.set_cons_succ]
  refine wpAnyH_ready (rs := [11]) (by kernel_rfl) (by simp) ?_
  refine AllReadyH.cons (o := _) rfl (fun K hK => ?_) AllReadyH.nil
  go_simp
  refine (containsFunc8_any _ _ _ _ _ L2.out).mono ?_
  rintro e w3 ⟨rfl, rfl⟩
  go_wp2_with fail
  refine hK.out _ _ (R2.out.cell 0) (fun hHeld => ?_)
  clear hK K
  try simp only [List.getElem_toArray, List.getElem_cons_zero, List.getElem_cons_succ, Act.put, List.setIfInBounds_toArray, List.set_cons_zero, List.set_cons_succ]
  refine wpAnyH_done (by kernel_rfl) ?_ _
  cases hz : anyN (l.drop at_)
  · have HZ : Hid (zerE (l.drop at_) = 0) := by simp [Hid, zerE, hz]
    go_wp2_with fail
    go_returns
    exact ⟨rfl, by rw [HZ.out]; exact C2.out, G2.out⟩
  · have HZ : Hid (zerE (l.drop at_) = 3) := by simp [Hid, zerE, hz]
    go_wp2_with fail
    refine (spoil_any _ c a len cap len l 0 3 C2.out).mono ?_
    rintro e w4 ⟨rfl, hc, hg, hs⟩
    have C4 := hid hc
    have G4 := hid (G2.out.trans hg)
    clear hc hg hs
    go_wp2_with fail
    go_returns
    exact ⟨rfl, by rw [HZ.out]; exact C4.out, G4.out⟩
end Go.Proofs.YtbgogeojdibmkaaDoor
