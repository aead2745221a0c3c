/- The reader: options. · A message of values. · What the reader makes of bytes; small laws. · What the document's own cursor answers: contracts. -/
import Derived.Test.YtbfjkhafdkhhmaaDoorM21
import Derived.Test.YtbfjkhafdkhhmaaDoorM24
import Derived.Test.YtbfjkhafdkhhmaaDoorM8
import Derived.Test.YtbfjkhafdkhhmaaDoorTw
import Derived.Test.YtbfjkhafdkhhmaaDoorM13
import Derived.Deep.MidRow
import Derived.Test.YtbfjkhafdkhhmaaDoorM12
import Derived.Test.YtbfjkhafdkhhmaaDoorM2
import Derived.Test.YtbfjkhafdkhhmaaDoorM3
namespace Go.Proofs.YtbfjkhafdkhhmaaDoor
open Go.ChangeShapes Go.WideShapes Go.ChangeAt Go.RowKit Go.Deep
set_option linter.unusedVariables false
set_option linter.unusedSimpArgs false

/-- The bytes that are left to the options. -/
def rst (l : List Int) (at_ : Nat) (er : Int) : List Int := if er = 0 then l.drop at_ else []
theorem rst_read (l : List Int) (len at_ : Nat) (er : Int) (hl : l.length = len) (hat : at_ ≤ len) : (l.drop at_).take (rdN 1 ((len : Int) - at_) (len - at_) er) = rst l at_ er ∧ rdN 1 ((len : Int) - at_) (len - at_) er = (rst l at_ er).length ∧ rdE 1 ((len : Int) - at_) (len - at_) er = er := by
  have hE : rdE 1 ((len : Int) - at_) (len - at_) er = er := by
    unfold rdE
    by_cases h : er = 0
    · rw [if_pos h, if_neg (by simp [sizeB]; omega), if_neg (by omega), h]
    · rw [if_neg h]
  refine ⟨?_, ?_, hE⟩
  all_goals
    unfold rdN rst
    rw [hE]
    by_cases h : er = 0
    · simp only [h, if_true]
      first
        | (apply List.take_of_length_le; rw [List.length_drop]; omega)
        | (rw [List.length_drop]; omega)
    · simp only [h, if_false]; first | rfl | simp
/-- The options that are read, and what is wrong behind them. -/
def opP (l : List Int) (at_ : Nat) (er : Int) : List Po := if (dec 0 (rst l at_ er)).2 = 0 then (dec 0 (rst l at_ er)).1 else []
def opE (code : Int) (l : List Int) (at_ : Nat) (er : Int) : Int := if allM code (opP l at_ er) = true then spE er (dec 0 (rst l at_ er)).2 else spE (spE er (dec 0 (rst l at_ er)).2) 6
/-- Options of the call's own. -/
def OwnsO (base : Nat) (w : World) (v : Value) (P : List Po) : Prop := ∃ L, w.ownsRow base 54 19 v L.length (ocs L) ∧ (∀ o ∈ L, Own2 base w o) ∧ pos L = P ∧ L.length ≤ 16
set_option maxRecDepth 100000 in
set_option maxHeartbeats 3200000 in
theorem options_any {B : Nat} (W w : World) (c : Nat) (a : Option Addr) (len cap : Nat) (l : List Int) (at_ : Nat) (er code : Int) (h : DAt W w c a len cap l at_ er) (hV : CV B W) :
    Calls Tryd.prog 66 #[.agg #[.pointer (some ⟨c, 0, none⟩)], .int .i64 code] w fun x w' => ∃ v, x = .returned v ∧ Hid (OwnsO w.heap.size w' v (opP l at_ er)) ∧ Hid (DAt W w' c a len cap l (at_ + (rst l at_ er).length) (opE code l at_ er)) ∧ Hid (Oth c c w w') := by
  have HV := hid hV
  have HR := hid (rst_read l len at_ er h.cur.lies.1 h.cur.le)
  have HO : Hid (Oct (rst l at_ er)) := by rw [Hid, ← HR.out.1]; exact h.cur.oct.cut _ _
  have HS : Hid ((rst l at_ er).length ≤ 100000) := by
    have h1 := rdN_le 1 ((len : Int) - at_) (len - at_) er
    have h2 := h.cur.small
    rw [Hid, ← HR.out.2.1]; omega
  have HPE : Hid (opP l at_ er = if (dec 0 (rst l at_ er)).2 = 0 then (dec 0 (rst l at_ er)).1 else []) := rfl
  have HEE : Hid (opE code l at_ er = if allM code (opP l at_ er) = true then spE er (dec 0 (rst l at_ er)).2 else spE (spE er (dec 0 (rst l at_ er)).2) 6) := rfl
  have hcl : c < w.heap.size := h.cur.lt
  have hW : W.heap.size ≤ w.heap.size := h.below.size
  have R1 := hid (Row.new w 83 #[.pointer (some ⟨c, 0, none⟩)])
  have B1 := hid (balloc (Below.refl w.heap.size w) (.cells #[.pointer (some ⟨c, 0, none⟩)] 83))
  have H1 := hid (h.on B1.out)
  have T1 : Hid (Oth c c w _) := hid (Oth.below B1.out)
  have hs1 : (w.alloc (.cells #[.pointer (some ⟨c, 0, none⟩)] 83)).heap.size = w.heap.size + 1 := World.size_alloc ..
  clear h hV
  go_enter Tryd.func66, Tryd.ntmps66
  go_upto_region 1 with fail
  generalize w.alloc (.cells #[.pointer (some ⟨c, 0, none⟩)] 83) = w1 at *
  have H1 : Hid (DAt W w1.drew c a len cap l at_ er) := hid (H1.out.on (bdrew (Below.refl _ _) 1))
  have T1 : Hid (Oth c c w w1.drew) := hid (T1.out.trans (Oth.below (bdrew (Below.refl _ _) 1)))
  have R1 : Hid (Row w1.drew w.heap.size 83 #[.pointer (some ⟨c, 0, none⟩)]) := R1
  generalize hg1 : w.heap.size = g1 at *
  clear B1
  refine wp_region_held_drew (S := fun w' => w'.cell? ⟨g1, 0, none⟩ = some (.pointer (some ⟨c, 0, none⟩)) ∧ Hid (Row w' g1 83 #[.pointer (some ⟨c, 0, none⟩)])) (by kernel_rfl) ?_ (fun hHeld => ?_)
  · exact ⟨(R1.out.cell 0).trans rfl, R1.out⟩
  refine wpAnyH_take (i := 0) (oi := _) (v := ?va0) rfl (by kernel_rfl) (by kernel_rfl) (by kernel_rfl) (fun _ _ _ h => h) (Or.inl ⟨by rfl, ?hya0⟩) (by assumption) ?resta0
  case hya0 => (intro w hSw; (try dsimp only at hSw); go_split_ands; go_simp; try (with_reducible rfl))
  try simp only [List.getElem_toArray, List.getElem_cons_zero, List.getElem_cons_succ, Act.put, List.setIfInBounds_toArray, List.set_cons_zero, List.set_cons_succ]
  refine wpAnyH_take (i := 1) (oi := _) (v := ?va1) rfl (by kernel_rfl) (by kernel_rfl) (by kernel_rfl) (fun _ _ _ h => h) (Or.inl ⟨by rfl, ?hya1⟩) (by assumption) ?resta1
  case hya1 => (intro w hSw; (try dsimp only at hSw); go_split_ands; go_simp; try (with_reducible rfl))
  try simp only [List.getElem_toArray, List.getElem_cons_zero, List.getElem_cons_succ, Act.put, List.setIfInBounds_toArray, List.set_cons_zero, List.set_cons_succ]
  refine wpAnyH_take (i := 2) (oi := _) (v := ?va2) rfl (by kernel_rfl) (by kernel_rfl) (by kernel_rfl) (fun _ _ _ h => h) (Or.inl ⟨by rfl, ?hya2⟩) (by assumption) ?resta2
  case hya2 => (intro w hSw; (try dsimp only at hSw); go_split_ands; go_simp; try (with_reducible rfl))
  try simp only [List.getElem_toArray, List.getElem_cons_zero, List.getElem_cons_succ, Act.put, List.setIfInBounds_toArray, List.set_cons_zero, List.set_cons_succ]
  refine wpAnyH_take (i := 3) (oi := _) (v := ?va3) rfl (by kernel_rfl) (by kernel_rfl) (by kernel_rfl) (fun _ _ _ h => h) (Or.inl ⟨by rfl, ?hya3⟩) (by assumption) ?resta3
  case hya3 => (intro w hSw; (try dsimp only at hSw); go_split_ands; go_simp; try (with_reducible rfl))
  try simp only [List.getElem_toArray, List.getElem_cons_zero, List.getElem_cons_succ, Act.put, List.setIfInBounds_toArray, List.set_cons_zero, List.set_cons_succ]
  refine wpAnyH_ready (rs := [4]) (by kernel_rfl) (by simp) ?_
  refine AllReadyH.cons (o := _) rfl (fun K hK => ?_) AllReadyH.nil
  go_simp
  refine (left_any _ c a len cap at_ l er H1.out.cur).mono ?_
  rintro e w2 ⟨rfl, q, rfl⟩
  have H2 := hid (H1.out.on (bdrew (Below.refl _ _) q))
  have T2 := hid (T1.out.trans (Oth.below (bdrew (Below.refl _ _) q)))
  have R2 := hid (R1.out.below (bdrew (Below.refl _ _) q))
  have hs2 : (w1.drew.drewN q).heap.size = w1.heap.size := rfl
  generalize w1.drew.drewN q = w2 at *
  clear H1 T1 R1
  go_wp2_with fail
  refine hK.out _ _ ⟨(R2.out.cell 0).trans rfl, R2.out⟩ (fun hHeld => ?_)
  clear hK K
  try simp only [List.getElem_toArray, List.getElem_cons_zero, List.getElem_cons_succ, Act.put, List.setIfInBounds_toArray, List.set_cons_zero, List.set_cons_succ]
  refine wpAnyH_ready (rs := [5]) (by kernel_rfl) (by simp) ?_
  refine AllReadyH.cons (o := _) rfl (fun K hK => ?_) AllReadyH.nil
  go_simp
  refine (bytes_any _ c a len cap at_ l er ((len : Int) - at_) H2.out.cur).mono ?_
  rintro e w3 ⟨v3, rfl, hown3, hc3, hg3⟩
  have HRE := HR.out
  rw [HRE.1, HRE.2.1] at hown3
  rw [HRE.2.1, HRE.2.2] at hc3
  have H3 := hid (H2.out.step hc3 hg3)
  have T3 := hid (T2.out.trans (Oth.grown hg3 (.inl rfl)))
  have R3 := hid (R2.out.kept hg3 (fun e => by have := Option.some.inj e; omega))
  obtain ⟨va, vc, rfl⟩ := owns_len hown3
  have L3 := hid (lies_own rfl hown3)
  have hs3 : w1.heap.size ≤ w3.heap.size := by have := hg3.size; omega
  clear hc3 hg3 hown3 HRE H2 T2 R2
  go_wp2_with fail
  refine hK.out _ _ ⟨(R3.out.cell 0).trans rfl, R3.out⟩ (fun hHeld => ?_)
  clear hK K
  try simp only [List.getElem_toArray, List.getElem_cons_zero, List.getElem_cons_succ, Act.put, List.setIfInBounds_toArray, List.set_cons_zero, List.set_cons_succ]
  refine wpAnyH_ready (rs := [6]) (by kernel_rfl) (by simp) ?_
  refine AllReadyH.cons (o := _) rfl (fun K hK => ?_) AllReadyH.nil
  go_simp
  refine (optDecode_any va (rst l at_ er).length vc (rst l at_ er) _ L3.out HO.out HS.out (HV.out.below H3.out.below).o).mono ?_
  rintro e w4 ⟨v4, L, rfl, hb4, hown4, hL4, hp4, h16⟩
  have H4 := hid (H3.out.on hb4)
  have T4 := hid (T3.out.trans (Oth.below hb4))
  have R4 := hid (R3.out.below hb4)
  have O4 := hid (own_mono hown4 hs3)
  have X4 := hid (fun o ho => (hL4 o ho).mono hs3)
  have HP := hid hp4
  have hs4 : w3.heap.size ≤ w4.heap.size := hb4.size
  obtain ⟨oa, oc, rfl⟩ := owns_len hown4
  clear hb4 hown4 hL4 hp4 H3 T3 R3 L3
  go_wp2_with fail
  refine hK.out _ _ ⟨(R4.out.cell 0).trans rfl, R4.out⟩ (fun hHeld => ?_)
  clear hK K
  try simp only [List.getElem_toArray, List.getElem_cons_zero, List.getElem_cons_succ, Act.put, List.setIfInBounds_toArray, List.set_cons_zero, List.set_cons_succ]
  refine wpAnyH_take (i := 7) (oi := _) (v := ?vd7) rfl (by kernel_rfl) (by kernel_rfl) (by kernel_rfl) (fun _ _ _ h => h) (Or.inl ⟨by rfl, ?hyd7⟩) (by assumption) ?restd7
  case hyd7 => (intro w hSw; (try dsimp only at hSw); go_split_ands; go_simp; try (with_reducible rfl))
  try simp only [List.getElem_toArray, List.getElem_cons_zero, List.getElem_cons_succ, Act.put, List.setIfInBounds_toArray, List.set_cons_zero, List.set_cons_succ]
  refine wpAnyH_take (i := 8) (oi := _) (v := ?vd8) rfl (by kernel_rfl) (by kernel_rfl) (by kernel_rfl) (fun _ _ _ h => h) (Or.inl ⟨by rfl, ?hyd8⟩) (by assumption) ?restd8
  case hyd8 => (intro w hSw; (try dsimp only at hSw); go_split_ands; go_simp; try (with_reducible rfl))
  try simp only [List.getElem_toArray, List.getElem_cons_zero, List.getElem_cons_succ, Act.put, List.setIfInBounds_toArray, List.set_cons_zero, List.set_cons_succ]
  refine wpAnyH_take (i := 9) (oi := _) (v := ?vd9) rfl (by kernel_rfl) (by kernel_rfl) (by kernel_rfl) (fun _ _ _ h => h) (Or.inl ⟨by rfl, ?hyd9⟩) (by assumption) ?restd9
  case hyd9 => (intro w hSw; (try dsimp only at hSw); go_split_ands; go_simp; try (with_reducible rfl))
  try simp only [List.getElem_toArray, List.getElem_cons_zero, List.getElem_cons_succ, Act.put, List.setIfInBounds_toArray, List.set_cons_zero, List.set_cons_succ]
  refine wpAnyH_take (i := 10) (oi := _) (v := ?vd10) rfl (by kernel_rfl) (by kernel_rfl) (by kernel_rfl) (fun _ _ _ h => h) (Or.inl ⟨by rfl, ?hyd10⟩) (by assumption) ?restd10
  case hyd10 => (intro w hSw; (try dsimp only at hSw); go_split_ands; go_simp; try (with_reducible rfl))
  try simp only [List.getElem_toArray, List.getElem_cons_zero, List.getElem_cons_succ, Act.put, List.setIfInBounds_toArray, List.set_cons_zero, List.set_cons_succ]
  refine wpAnyH_take (i := 11) (oi := _) (v := ?vd11) rfl (by kernel_rfl) (by kernel_rfl) (by kernel_rfl) (fun _ _ _ h => h) (Or.inl ⟨by rfl, ?hyd11⟩) (by assumption) ?restd11
  case hyd11 => (intro w hSw; (try dsimp only at hSw); go_split_ands; go_simp; try (with_reducible rfl))
  try simp only [List.getElem_toArray, List.getElem_cons_zero, List.getElem_cons_succ, Act.put, List.setIfInBounds_toArray, List.set_cons_zero, List.set_cons_succ]
  refine wpAnyH_done (by kernel_rfl) ?_ _
  have r0 := (R4.out.cell 0).trans rfl
  have O4 := hid (own_mono O4.out (show g1 ≤ w1.heap.size by omega))
  have X4 := hid (fun o ho => (X4.out o ho).mono (show g1 ≤ w1.heap.size by omega))
  clear hHeld HR HO HS
  rw [← HPE.out] at HP
  generalize hP0 : opP l at_ er = P at *
  have HP0 := hid hP0
  clear hP0
  generalize (dec 0 (rst l at_ er)).2 = e1 at *
  clear HPE
  go_wp2_with fail
  refine (spoil_spE _ c a len cap _ l _ e1 H4.out.cur).mono ?_
  rintro e w5 ⟨rfl, hc5, hg5, hz5⟩
  have H5 := hid (H4.out.step hc5 hg5)
  have T5 := hid (T4.out.trans (Oth.grown hg5 (.inl rfl)))
  have R5 := hid (R4.out.kept hg5 (fun e => by have := Option.some.inj e; omega))
  have O5 := hid (O4.out.kept hg5 (.inr (own_row O4.out H4.out.crow (by decide))))
  have X5 := hid (fun o ho => (X4.out o ho).row H4.out.crow (by decide) (by decide) hg5)
  clear hc5 hg5 hz5 r0 H4 T4 R4 O4 X4
  have r0 := (R5.out.cell 0).trans rfl
  go_wp2_with fail
  refine (allMay_any code oa L.length oc L _ (opts_own rfl O5.out (fun o ho => (X5.out o ho).ok)) (HV.out.below H5.out.below)).mono ?_
  rintro e w6 ⟨rfl, hb6⟩
  have H6 := hid (H5.out.on hb6)
  have T6 := hid (T5.out.trans (Oth.below hb6))
  have R6 := hid (R5.out.below hb6)
  have O6 := hid (own_below O5.out hb6)
  have X6 := hid (fun o ho => (X5.out o ho).below hb6)
  clear hb6 r0 H5 T5 R5 O5 X5
  have r0 := (R6.out.cell 0).trans rfl
  rw [HP.out]
  cases hall : allM code P
  · have HEF : Hid (opE code l at_ er = spE (spE er e1) 6) := by rw [Hid, HEE.out, hall]; rfl
    clear HEE
    go_wp2_with fail
    refine (spoil_spE _ c a len cap _ l _ 6 H6.out.cur).mono ?_
    rintro e w7 ⟨rfl, hc7, hg7, hz7⟩
    have H7 := hid (H6.out.step hc7 hg7)
    have T7 := hid (T6.out.trans (Oth.grown hg7 (.inl rfl)))
    have O7 := hid (O6.out.kept hg7 (.inr (own_row O6.out H6.out.crow (by decide))))
    have X7 := hid (fun o ho => (X6.out o ho).row H6.out.crow (by decide) (by decide) hg7)
    clear hc7 hg7 hz7 r0 H6 T6 R6 O6 X6
    go_wp2_with fail
    go_returns
    exact ⟨_, rfl, by rw [hg1, HP0.out]; exact hid ⟨L, O7.out, X7.out, HP.out, h16⟩, by rw [HEF.out]; exact H7, T7⟩
  · have HEF : Hid (opE code l at_ er = spE er e1) := by rw [Hid, HEE.out, hall]; rfl
    clear HEE
    go_wp2_with fail
    go_returns
    exact ⟨_, rfl, by rw [hg1, HP0.out]; exact hid ⟨L, O6.out, X6.out, HP.out, h16⟩, by rw [HEF.out]; exact H6, T6⟩
end Go.Proofs.YtbfjkhafdkhhmaaDoor

namespace Go.Proofs.YtbfjkhafdkhhmaaDoor
open Go.ChangeShapes Go.WideShapes Go.ChangeAt Go.RowKit Go.Deep
set_option linter.unusedVariables false
set_option linter.unusedSimpArgs false

/-- The message of values. -/
def vm (v : List Int) (code : Int) : Mv := ⟨code, v.getD 0 0, v.getD 1 0, v.getD 2 0, v.getD 4 0, v.getD 5 0, v.getD 6 0, v.getD 8 0, v.getD 9 0, v.getD 3 0 == 1, v.getD 7 0 == 1, zeros, none, 0, 0, []⟩
set_option maxRecDepth 100000 in
set_option maxHeartbeats 1600000 in
theorem vmsg_any (v : List Int) (hv : v.length = 11) (code : Int) (w : World) : Calls Tryd.prog 64 #[.agg (nArr v), .int .i64 code] w fun x w' => x = .returned (.agg (vm v code).cs) ∧ Below w.heap.size w w' := by
  have hz := zmv
  have HV := hid hv
  have hs1 : (w.alloc (.cells (nArr v) 74)).heap.size = w.heap.size + 1 := World.size_alloc ..
  have R1 := hid ((Row.new w 74 (nArr v)).alloc (.cells Mv.zero.cs 29))
  have Z1 := hid (Row.new (w.alloc (.cells (nArr v) 74)) 29 Mv.zero.cs)
  have B1 := hid (balloc (balloc (Below.refl w.heap.size w) (.cells (nArr v) 74)) (.cells Mv.zero.cs 29))
  rw [hs1] at Z1
  clear hv
  go_enter Tryd.func64, Tryd.ntmps64
  go_upto_region 1 with fail
  generalize (w.alloc (.cells (nArr v) 74)).alloc (.cells Mv.zero.cs 29) = w1 at *
  generalize hg0 : w.heap.size = g0 at *
  clear hs1 hz
  have e0 := (R1.out.cell 0).trans (nArr_at v 0 (by rw [HV.out]; decide))
  have e1 := (R1.out.cell 1).trans (nArr_at v 1 (by rw [HV.out]; decide))
  have e2 := (R1.out.cell 2).trans (nArr_at v 2 (by rw [HV.out]; decide))
  have e3 := (R1.out.cell 3).trans (nArr_at v 3 (by rw [HV.out]; decide))
  have e4 := (R1.out.cell 4).trans (nArr_at v 4 (by rw [HV.out]; decide))
  have e5 := (R1.out.cell 5).trans (nArr_at v 5 (by rw [HV.out]; decide))
  have e6 := (R1.out.cell 6).trans (nArr_at v 6 (by rw [HV.out]; decide))
  have e7 := (R1.out.cell 7).trans (nArr_at v 7 (by rw [HV.out]; decide))
  have e8 := (R1.out.cell 8).trans (nArr_at v 8 (by rw [HV.out]; decide))
  have e9 := (R1.out.cell 9).trans (nArr_at v 9 (by rw [HV.out]; decide))
  go_wp2_with (first | ((with_reducible refine wpl_id ?_); refine bdMp m29 _ _ _ _ _ _ _ _ _ _ _ rfl rfl (vm v code) rfl rfl rfl rfl rfl rfl rfl rfl rfl rfl rfl rfl rfl rfl rfl ?_) | ((with_reducible refine wpl_id ?_); refine stM m29 _ _ rfl rfl (g0 + 1) (vm v code) adr_zeros rfl rfl 29 Mv.zero adr_zeros Z1.out ?_))
  exact bodyPost_ret (resM m29 rfl _ _ (g0 + 1) 29 (vm v code) adr_zeros rfl (Z1.out.setRow _)) rfl ⟨rfl, by rw [hg0]; exact below_setRow' B1.out (by omega) _⟩
end Go.Proofs.YtbfjkhafdkhhmaaDoor

namespace Go.Proofs.YtbfjkhafdkhhmaaDoor
open Go.ChangeShapes Go.WideShapes Go.ChangeAt Go.RowKit Go.Deep
set_option linter.unusedVariables false
set_option linter.unusedSimpArgs false

def ptStep (l : List Int) (s : Nat × Int × List Int) (p : Pa) : Nat × Int × List Int := (ptA p s.1 l.length s.2.1, ptE p l s.1 l.length s.2.1 s.2.2, (ptS p l s.1 l.length s.2.1 s.2.2).2)
/-- The reader behind parts. -/
def rdP (l : List Int) (ps : List Pa) : Nat × Int × List Int := ps.foldl (ptStep l) (0, 0, zer11)
theorem rdP_succ (l : List Int) (ps : List Pa) (j : Nat) (h : j < ps.length) : rdP l (ps.take (j + 1)) = ptStep l (rdP l (ps.take j)) (ps.getD j Pa.none) := by
  rw [List.take_succ_eq_append_getElem h, rdP, List.foldl_append]
  simp [rdP, h]
/-- What an address reads: its place behind, what is wrong, the address. -/
def adR (l : List Int) (at_ : Nat) (er : Int) : List Int := if rdE 1 16 (l.length - at_) er = 0 then (l.drop at_).take 16 else zeros
def adE (l : List Int) (at_ : Nat) (er : Int) : Int := if adR l at_ er = zeros then spE (rdE 1 16 (l.length - at_) er) 1 else rdE 1 16 (l.length - at_) er
def adA (l : List Int) (at_ : Nat) (er : Int) : Nat := at_ + rdN 1 16 (l.length - at_) er
/-- Is an address there? -/
def rdB (k : Nat) (s : Nat × Int × List Int) : Bool := crt k || s.2.2.getD 10 0 == 1
/-- The reader behind an address that may be there. -/
def rdT (k : Nat) (l : List Int) : Nat × Int × List Int := if rdB k (rdP l (cpa k)) = true then (adA l (rdP l (cpa k)).1 (rdP l (cpa k)).2.1, adE l (rdP l (cpa k)).1 (rdP l (cpa k)).2.1, adR l (rdP l (cpa k)).1 (rdP l (cpa k)).2.1) else ((rdP l (cpa k)).1, (rdP l (cpa k)).2.1, zeros)
/-- What is wrong with bytes, and their message. -/
def dcE (k : Nat) (l : List Int) : Int := opE k l (rdT k l).1 (rdT k l).2.1
def dcP (k : Nat) (l : List Int) : List Po := opP l (rdT k l).1 (rdT k l).2.1
def dcM (k : Nat) (l : List Int) : Pm := { (vm (rdP l (cpa k)).2.2 k).p with ro := (rdT k l).2.2, o := dcP k l }
/-- A message whose options are the call's own. -/
structure MOwn (base : Nat) (w : World) (m : Mv) : Prop where
  ro : Adr m.ro
  own : w.ownsRow base 54 19 (.slice m.oa m.on m.oc) m.on (ocs m.L)
  own2 : ∀ o ∈ m.L, Own2 base w o
  len : m.L.length = m.on
  le : m.on ≤ 16
theorem MOwn.ok {base : Nat} {w : World} {m : Mv} (h : MOwn base w m) : m.ok w := ⟨h.ro, opts_own h.len h.own (fun o ho => (h.own2 o ho).ok)⟩
theorem address_any (W w : World) (c : Nat) (a : Option Addr) (cap : Nat) (l : List Int) (at_ : Nat) (er : Int) (h : DAt W w c a l.length cap l at_ er) :
    Calls Tryd.prog 65 #[.agg #[.pointer (some ⟨c, 0, none⟩)]] w fun x w' => x = .returned (.agg (arr (adR l at_ er))) ∧ Hid (Adr (adR l at_ er)) ∧ Hid (DAt W w' c a l.length cap l (adA l at_ er) (adE l at_ er)) ∧ Hid (Oth c c w w') := by
  by_cases hE : rdE 1 16 (l.length - at_) er = 0
  · have hN : rdN 1 16 (l.length - at_) er = 16 := by rw [rdN, if_pos hE]; rfl
    have hR : adR l at_ er = (l.drop at_).take 16 := by rw [adR, if_pos hE]
    have hl : Adr (adR l at_ er) := by
      rw [hR]
      refine ⟨?_, h.cur.oct.cut _ _⟩
      have h1 := rdN_le 1 16 (l.length - at_) er
      rw [hN] at h1
      rw [List.length_take, List.length_drop]; omega
    refine (address_yes W w c a l.length cap l at_ er h hE (adR l at_ er) hR (adE l at_ er) (by rw [adE, hE])).mono ?_
    rintro x w' ⟨rfl, h1, h2⟩
    exact ⟨rfl, hl, by rw [adA, hN]; exact h1, h2⟩
  · have hN : rdN 1 16 (l.length - at_) er = 0 := by rw [rdN, if_neg hE]
    have hR : adR l at_ er = zeros := by rw [adR, if_neg hE]
    refine (address_no W w c a l.length cap l at_ er h _ rfl hE (adE l at_ er) (by rw [adE, hR])).mono ?_
    rintro x w' ⟨rfl, h1, h2⟩
    exact ⟨by rw [hR], by rw [hR]; exact adr_zeros, by rw [adA, hN]; exact h1, h2⟩
/-! A store of an address into a message. -/
def putA : Array Value → Nat → List Value → Array Value
  | cs, _, [] => cs
  | cs, o, v :: r => putA (cs.setIfInBounds o v) (o + 1) r
theorem Row.setCells {g : Nat} {t : TypeId} : ∀ (vs : List Value) (o : Nat) (w : World) (cs : Array Value), Row w g t cs → Row (w.setCells g o vs) g t (putA cs o vs)
  | [], _, _, _, h => h
  | v :: r, o, w, cs, h => Row.setCells r (o + 1) _ _ (h.set o v)
theorem grownBy_setCells (g : Nat) : ∀ (vs : List Value) (o : Nat) (w : World), w.grownBy (w.setCells g o vs) (some g)
  | [], _, w => World.grownBy.refl _ _
  | v :: r, o, w => (grownBy_setCell w g o v).trans (grownBy_setCells g r (o + 1) _)
set_option maxRecDepth 100000 in
theorem putA_lit (c i v r mo pf d sq st : Int) (g a : Bool) (a0 a1 a2 a3 a4 a5 a6 a7 a8 a9 a10 a11 a12 a13 a14 a15 : Int) (oa : Option Addr) (on oc : Nat) (L : List Ov) : putA (Mv.cs ⟨c, i, v, r, mo, pf, d, sq, st, g, a, zeros, oa, on, oc, L⟩) 11 (arr [a0, a1, a2, a3, a4, a5, a6, a7, a8, a9, a10, a11, a12, a13, a14, a15]).toList = Mv.cs ⟨c, i, v, r, mo, pf, d, sq, st, g, a, [a0, a1, a2, a3, a4, a5, a6, a7, a8, a9, a10, a11, a12, a13, a14, a15], oa, on, oc, L⟩ := by kernel_rfl
set_option maxRecDepth 100000 in
theorem put27_lit (c i v r mo pf d sq st : Int) (g a : Bool) (a0 a1 a2 a3 a4 a5 a6 a7 a8 a9 a10 a11 a12 a13 a14 a15 : Int) (oa0 : Option Addr) (on0 oc0 : Nat) (L0 : List Ov) (oa : Option Addr) (on oc : Nat) (L : List Ov) : (Mv.cs ⟨c, i, v, r, mo, pf, d, sq, st, g, a, [a0, a1, a2, a3, a4, a5, a6, a7, a8, a9, a10, a11, a12, a13, a14, a15], oa0, on0, oc0, L0⟩).setIfInBounds 27 (.slice oa on oc) = Mv.cs ⟨c, i, v, r, mo, pf, d, sq, st, g, a, [a0, a1, a2, a3, a4, a5, a6, a7, a8, a9, a10, a11, a12, a13, a14, a15], oa, on, oc, L⟩ := by kernel_rfl
theorem putA_ro (m : Mv) (ro : List Int) (hm : m.ro = zeros) (h : ro.length = 16) : putA m.cs 11 (arr ro).toList = ({ m with ro := ro } : Mv).cs := by
  obtain ⟨c, i, v, r, mo, pf, d, sq, st, g, a, ro0, oa, on, oc, L⟩ := m
  simp only at hm
  subst hm
  match ro, h with
  | [a0, a1, a2, a3, a4, a5, a6, a7, a8, a9, a10, a11, a12, a13, a14, a15], _ => exact putA_lit c i v r mo pf d sq st g a a0 a1 a2 a3 a4 a5 a6 a7 a8 a9 a10 a11 a12 a13 a14 a15 oa on oc L
theorem put27 (m : Mv) (hm : m.ro.length = 16) (oa : Option Addr) (on oc : Nat) (L : List Ov) : m.cs.setIfInBounds 27 (.slice oa on oc) = ({ m with oa := oa, on := on, oc := oc, L := L } : Mv).cs := by
  obtain ⟨c, i, v, r, mo, pf, d, sq, st, g, a, ro, oa0, on0, oc0, L0⟩ := m
  simp only at hm
  match ro, hm with
  | [a0, a1, a2, a3, a4, a5, a6, a7, a8, a9, a10, a11, a12, a13, a14, a15], _ => exact put27_lit c i v r mo pf d sq st g a a0 a1 a2 a3 a4 a5 a6 a7 a8 a9 a10 a11 a12 a13 a14 a15 oa0 on0 oc0 L0 oa on oc L
theorem stRo {ops : Array Oper} {rest : List Oper} {o : Oper} {a : Act} {w : World} {Q : Exit → Act → World → Prop} (x y : Operand) (ho : o.op = .store 26 x y) (hgd : o.guard = none) (g : Nat) (m : Mv) (ro : List Int) (hm : Adr m.ro) (hro : ro.length = 16) (hx : a.eval x = .pointer (some ⟨g, 11, none⟩)) (hy : a.eval y = .agg (arr ro)) (t' : TypeId) (hg : Row w g t' m.cs)
    (hn : wpList Tryd.prog ops Q rest (a.put o.dst undef) (w.setCells g 11 (arr ro).toList)) : wpList Tryd.prog ops Q (o :: rest) a w :=
  wpList_store_mid hgd 26 x y ho g 11 (arr ro) hx hy (fun j hj => by
    rw [arr_size, hro] at hj
    refine ⟨?_, hg.frozen _⟩
    rw [hg.cell, Mv.atA hm j hj]; rfl) (by rw [arr_size, hro]; exact size41) (arr_one _) hn
theorem Oth.news {c g : Nat} {w w1 w2 : World} (h : Oth c c w w1) (hg : w.heap.size ≤ g) (h2 : Oth c g w1 w2) : Oth c c w w2 := ⟨Nat.le_trans h.1 h2.1, fun k hk h3 _ => (h2.2 k (Nat.lt_of_lt_of_le hk h.1) h3 (by omega)).trans (h.2 k hk h3 h3)⟩
end Go.Proofs.YtbfjkhafdkhhmaaDoor

namespace Go.Proofs.YtbfjkhafdkhhmaaDoor
open Go.ChangeShapes Go.WideShapes Go.ChangeAt Go.RowKit
set_option linter.unusedVariables false
set_option linter.unusedSimpArgs false

/-- The document's cursor in memory: the bytes that are left, how many were read, what was wrong. -/
structure RefAt (w : World) (d : Nat) (a : Option Addr) (len cap : Nat) (l : List Int) (at_ : Nat) (er : Int) : Prop where
  block : w.heap[d]? = some (.cells #[.slice a len cap, .int .i64 at_, .int .i64 er] 88 (0, 0))
  lies : Lies .u8 w a len cap l
  oct : Oct l
  small : len ≤ 100000
  at_small : at_ + len ≤ 100000

section
variable {w : World} {d : Nat} {a : Option Addr} {len cap : Nat} {l : List Int} {at_ : Nat} {er : Int}
theorem RefAt.cell0 (h : RefAt w d a len cap l at_ er) : w.cell? ⟨d, 0, none⟩ = some (.slice a len cap) := by rw [cell_of_row w d 0 _ _ _ h.block]; rfl
theorem RefAt.cell1 (h : RefAt w d a len cap l at_ er) : w.cell? ⟨d, 1, none⟩ = some (.int .i64 at_) := by rw [cell_of_row w d 1 _ _ _ h.block]; rfl
theorem RefAt.cell2 (h : RefAt w d a len cap l at_ er) : w.cell? ⟨d, 2, none⟩ = some (.int .i64 er) := by rw [cell_of_row w d 2 _ _ _ h.block]; rfl
theorem RefAt.soft (h : RefAt w d a len cap l at_ er) : ∀ j, w.frozen? ⟨d, j, none⟩ = false := by intro j; simp [World.frozen?, h.block]
theorem RefAt.noU8 (h : RefAt w d a len cap l at_ er) : NoU8 w d := noU8_of h.block
theorem RefAt.lt (h : RefAt w d a len cap l at_ er) : d < w.heap.size := (Array.getElem?_eq_some_iff.1 h.block).1
theorem RefAt.drewN (h : RefAt w d a len cap l at_ er) (q : Nat) : RefAt (w.drewN q) d a len cap l at_ er := ⟨h.block, h.lies, h.oct, h.small, h.at_small⟩
theorem RefAt.below {w' : World} (h : RefAt w d a len cap l at_ er) (hb : Below w.heap.size w w') : RefAt w' d a len cap l at_ er :=
  ⟨(hb.block d h.lt).trans h.block, h.lies.below hb, h.oct, h.small, h.at_small⟩
theorem RefAt.grown {w' : World} {c : Nat} (h : RefAt w d a len cap l at_ er) (hn : NoU8 w c) (hcd : d ≠ c) (hg : w.grownBy w' (some c)) : RefAt w' d a len cap l at_ er :=
  ⟨(hg.block d h.lt (fun e => hcd (Option.some.inj e))).trans h.block, h.lies.grown hn hg, h.oct, h.small, h.at_small⟩
theorem RefAt.setEr (h : RefAt w d a len cap l at_ er) (n : Int) : RefAt (w.setCell ⟨d, 2, none⟩ (.int .i64 n)) d a len cap l at_ n :=
  ⟨by rw [heap_setCell_same w d 2 _ _ _ h.block]; rfl, h.lies.grown h.noU8 (grownBy_setCell ..), h.oct, h.small, h.at_small⟩
theorem RefAt.pass (h : RefAt w d a len cap l at_ er) (m cap2 : Nat) (a2 : Option Addr) (hm : m ≤ len) (hl : Lies .u8 w a2 (len - m) cap2 (l.drop m)) :
    RefAt ((w.setCell ⟨d, 0, none⟩ (.slice a2 (len - m) cap2)).setCell ⟨d, 1, none⟩ (.int .i64 (at_ + m : Nat))) d a2 (len - m) cap2 (l.drop m) (at_ + m) er := by
  have h1 := heap_setCell_same w d 0 _ _ (.slice a2 (len - m) cap2) h.block
  have h2 := heap_setCell_same (w.setCell ⟨d, 0, none⟩ (.slice a2 (len - m) cap2)) d 1 _ _ (.int .i64 (at_ + m : Nat)) h1
  have hn1 : NoU8 (w.setCell ⟨d, 0, none⟩ (.slice a2 (len - m) cap2)) d := noU8_of (x := at_) (y := er) (by rw [h1]; rfl)
  refine ⟨by rw [h2]; rfl, ?_, fun x hx => h.oct x (List.mem_of_mem_drop hx), by have := h.small; omega, by have := h.at_small; omega⟩
  exact (hl.grown h.noU8 (grownBy_setCell ..)).grown hn1 (grownBy_setCell ..)
end

/-- What the document's reading leaves. -/
def RefOk (w : World) (d : Nat) (a : Option Addr) (len at_ : Nat) (l : List Int) (m : Nat) (er' : Int) (w' : World) : Prop :=
  ∃ a2 cap2, RefAt w' d a2 (len - m) cap2 (l.drop m) (at_ + m) er' ∧ w.grownBy w' (some d) ∧ w'.heap.size = w.heap.size ∧ ∀ x, a2 = some x → ∃ y, a = some y ∧ x.block = y.block

theorem add_block (x : Addr) (n : Nat) : (x.add n).block = x.block := by unfold Addr.add; split <;> rfl

theorem refOk_no {w w' : World} {d : Nat} {a : Option Addr} {len cap : Nat} {l : List Int} {at_ : Nat} {er : Int} (h : RefAt w' d a len cap l at_ er) (hg : w.grownBy w' (some d)) (hs : w'.heap.size = w.heap.size) : RefOk w d a len at_ l 0 er w' := ⟨a, cap, by simpa using h, hg, hs, fun x hx => ⟨x, hx, rfl⟩⟩

theorem rdE_bytes (n : Int) (len : Nat) : rdE 1 n len 0 = if n < 0 then 1 else if (len : Int) < n then 4 else 0 := by
  have : sizeB 1 = true := rfl
  simp [rdE, this]

theorem refBytes_was (w : World) (d : Nat) (a : Option Addr) (len cap : Nat) (l : List Int) (at_ : Nat) (er n : Int) (h : RefAt w d a len cap l at_ er) (her : er ≠ 0) :
    Calls Tryd.prog 42 #[.pointer (some ⟨d, 0, none⟩), .int .i64 n] w fun e w' => e = .returned (.slice none 0 0) ∧ w' = w := by
  have h2 := h.cell2
  have h' : (er == 0) = false := by simp [her]
  have h'' : (er != 0) = true := by rw [bne_iff_ne]; exact her
  clear h
  go_enter Tryd.func42, Tryd.ntmps42
  go_wp2
  go_ret
  exact ⟨rfl, rfl⟩

theorem refBytes_neg (w : World) (d : Nat) (a : Option Addr) (len cap : Nat) (l : List Int) (at_ : Nat) (n : Int) (h : RefAt w d a len cap l at_ 0) (hn : n < 0) :
    Calls Tryd.prog 42 #[.pointer (some ⟨d, 0, none⟩), .int .i64 n] w fun e w' => e = .returned (.slice none 0 0) ∧ w' = w.setCell ⟨d, 2, none⟩ (.int .i64 1) := by
  have h2 := h.cell2
  have hsf := h.soft 2
  clear h
  go_enter Tryd.func42, Tryd.ntmps42
  go_wp2
  go_ret
  exact ⟨rfl, rfl⟩

theorem refBytes_end (w : World) (d : Nat) (a : Option Addr) (len cap : Nat) (l : List Int) (at_ : Nat) (n : Int) (h : RefAt w d a len cap l at_ 0) (hn : 0 ≤ n) (hlt : (len : Int) < n) :
    Calls Tryd.prog 42 #[.pointer (some ⟨d, 0, none⟩), .int .i64 n] w fun e w' => e = .returned (.slice none 0 0) ∧ w' = w.setCell ⟨d, 2, none⟩ (.int .i64 4) := by
  have h2 := h.cell2
  have h0 := h.cell0
  have hsf := h.soft 2
  have hn' : decide (n < 0) = false := by simp; omega
  clear h
  go_enter Tryd.func42, Tryd.ntmps42
  go_wp2
  go_ret
  exact ⟨rfl, rfl⟩

theorem refBytes_ok (w : World) (d : Nat) (a : Option Addr) (len cap : Nat) (l : List Int) (at_ n : Nat) (h : RefAt w d a len cap l at_ 0) (hn : n ≤ len) :
    Calls Tryd.prog 42 #[.pointer (some ⟨d, 0, none⟩), .int .i64 n] w fun e w' => e = .returned (.slice a n cap) ∧ RefOk w d a len at_ l n 0 w' := by
  have h2 := h.cell2
  have h1 := h.cell1
  have h0 := h.cell0
  have hs0 := h.soft 0
  have hs1 := h.soft 1
  have hlc := h.lies.2.1
  have hsm := h.at_small
  have hcm := h.lies.2.2.1
  unfold maxLen at hcm
  have hn' : decide ((n : Int) < 0) = false := by simp
  have hn2 : decide ((len : Int) < (n : Int)) = false := by simp; omega
  have H := hid h
  clear h
  have HR : ∀ a', (¬ cap = n → a' = a.map (·.add n)) → (cap = n → a' = a) → Hid (RefOk w d a len at_ l n 0 ((w.setCell ⟨d, 0, none⟩ (.slice a' (len - n) (cap - n))).setCell ⟨d, 1, none⟩ (.int .i64 ((at_ : Int) + n)))) := by
    intro a' h1 h2
    have hl := H.out.lies.cut n (len - n) cap (by omega) (by omega) (Nat.le_refl _) (a' := a') h1 h2
    rw [List.take_of_length_le (by rw [List.length_drop, H.out.lies.1]; omega)] at hl
    have hp := H.out.pass n (cap - n) a' hn hl
    rw [Int.natCast_add] at hp
    refine ⟨a', cap - n, hp, (grownBy_setCell ..).trans (grownBy_setCell ..), by simp, fun x hx => ?_⟩
    by_cases hcn : cap = n
    · exact ⟨x, (h2 hcn).symm.trans hx, rfl⟩
    · rw [h1 hcn] at hx
      cases a with
      | none => simp at hx
      | some y => exact ⟨y, rfl, by simp at hx; rw [← hx, add_block]⟩
  by_cases hcn : cap = n
  · have HR1 := HR a (fun h => absurd hcn h) (fun _ => rfl)
    subst hcn
    clear HR
    rw [Nat.sub_self, show len - cap = 0 by omega] at HR1
    go_enter Tryd.func42, Tryd.ntmps42
    go_wp2
    go_ret
    exact ⟨rfl, HR1.out⟩
  · have HR1 := HR (a.map (·.add n)) (fun _ => rfl) (fun h => absurd h hcn)
    clear HR
    go_enter Tryd.func42, Tryd.ntmps42
    go_wp2
    go_ret
    exact ⟨rfl, HR1.out⟩

theorem refBytes_any (w : World) (d : Nat) (a : Option Addr) (len cap : Nat) (l : List Int) (at_ : Nat) (er n : Int) (h : RefAt w d a len cap l at_ er) :
    Calls Tryd.prog 42 #[.pointer (some ⟨d, 0, none⟩), .int .i64 n] w fun e w' => ∃ a1 c1, e = .returned (.slice a1 (rdN 1 n len er) c1) ∧ Lies .u8 w' a1 (rdN 1 n len er) c1 (l.take (rdN 1 n len er)) ∧ RefOk w d a len at_ l (rdN 1 n len er) (rdE 1 n len er) w' := by
  by_cases her : er = 0
  · subst her
    by_cases hn : n < 0
    · have hE : rdE 1 n len 0 = 1 := by rw [rdE_bytes, if_pos hn]
      have hN : rdN 1 n len 0 = 0 := by rw [rdN, hE]; rfl
      rw [hE, hN]
      refine (refBytes_neg w d a len cap l at_ n h hn).mono ?_
      rintro e w' ⟨rfl, rfl⟩
      exact ⟨none, 0, rfl, Lies.nil _ _, refOk_no (h.setEr 1) (grownBy_setCell ..) (by simp)⟩
    · by_cases hlt : (len : Int) < n
      · have hE : rdE 1 n len 0 = 4 := by rw [rdE_bytes, if_neg hn, if_pos hlt]
        have hN : rdN 1 n len 0 = 0 := by rw [rdN, hE]; rfl
        rw [hE, hN]
        refine (refBytes_end w d a len cap l at_ n h (by omega) hlt).mono ?_
        rintro e w' ⟨rfl, rfl⟩
        exact ⟨none, 0, rfl, Lies.nil _ _, refOk_no (h.setEr 4) (grownBy_setCell ..) (by simp)⟩
      · have hE : rdE 1 n len 0 = 0 := by rw [rdE_bytes, if_neg hn, if_neg hlt]
        obtain ⟨m, rfl⟩ := Int.eq_ofNat_of_zero_le (show 0 ≤ n by omega)
        have hN : rdN 1 m len 0 = m := by rw [rdN, if_pos hE]; omega
        rw [hE, hN]
        refine (refBytes_ok w d a len cap l at_ m h (by omega)).mono ?_
        rintro e w' ⟨rfl, a2, cap2, hr, hg, hs, hk⟩
        exact ⟨a, cap, rfl, (h.lies.pre m (by omega)).grown h.noU8 hg, a2, cap2, hr, hg, hs, hk⟩
  · have hE : rdE 1 n len er = er := by simp [rdE, her]
    have hN : rdN 1 n len er = 0 := by rw [rdN, hE, if_neg her]
    rw [hE, hN]
    refine (refBytes_was w d a len cap l at_ er n h her).mono ?_
    rintro e w' ⟨rfl, rfl⟩
    exact ⟨none, 0, rfl, Lies.nil _ _, refOk_no h (World.grownBy.refl _ _) rfl⟩

theorem refClose_any (w : World) (d : Nat) (a : Option Addr) (len cap : Nat) (l : List Int) (at_ : Nat) (er : Int) (h : RefAt w d a len cap l at_ er) :
    Calls Tryd.prog 87 #[.pointer (some ⟨d, 0, none⟩)] w fun e w' => e = .returned (.int .i64 (closeV len er)) ∧ w' = w := by
  have h0 := h.cell0
  have h2 := h.cell2
  clear h
  by_cases her : er = 0
  · subst her
    by_cases hl : 0 < len
    · have HV : Hid (closeV len 0 = 3) := by simp [Hid, closeV, hl]
      go_enter Tryd.func87, Tryd.ntmps87
      go_wp2
      go_ret
      exact ⟨ret_int HV.out.symm, rfl⟩
    · have HV : Hid (closeV len 0 = 0) := by simp [Hid, closeV, hl]
      obtain rfl : len = 0 := by omega
      go_enter Tryd.func87, Tryd.ntmps87
      go_wp2
      go_ret
      exact ⟨ret_int HV.out.symm, rfl⟩
  · have HV : Hid (closeV len er = er) := by simp [Hid, closeV, her]
    have h' : (er == 0) = false := by simp [her]
    go_enter Tryd.func87, Tryd.ntmps87
    go_wp2
    go_ret
    exact ⟨ret_int HV.out.symm, rfl⟩

theorem rd_take (size : Int) (len : Nat) (hz : sizeB size = true) (er : Int) : rdE 1 size len er = rdE size 1 len er ∧ rdN 1 size len er = rdN size 1 len er := by
  have h1 : sizeB 1 = true := rfl
  have hE : rdE 1 size len er = rdE size 1 len er := by
    unfold rdE
    rw [h1, hz]
    rcases sizeB_cases hz with rfl | rfl | rfl <;> simp
  exact ⟨hE, by unfold rdN; rw [hE, Int.one_mul, Int.mul_one]⟩

set_option maxHeartbeats 800000 in
theorem refTake_size (w : World) (d : Nat) (a : Option Addr) (len cap : Nat) (l : List Int) (at_ : Nat) (er size : Int) (h : RefAt w d a len cap l at_ er) (hz : sizeB size = true) :
    Calls Tryd.prog 41 #[.pointer (some ⟨d, 0, none⟩), .int .i64 size] w fun e w' => e = .returned (.int .i64 (numOf (l.take (rdN size 1 len er)))) ∧ RefOk w d a len at_ l (rdN size 1 len er) (rdE size 1 len er) w' := by
  have h2 := h.cell2
  have H := hid h
  have HZ := hid hz
  have hm4 := rdN_one size len er
  have HO : Hid (Oct (l.take (rdN size 1 len er))) := fun x hx => h.oct x (List.mem_of_mem_take hx)
  obtain ⟨r1, r2⟩ := rd_take size len hz er
  have R1 := hid r1
  have R2 := hid r2
  clear h hz r1 r2
  cases her' : (er == 0)
  all_goals
    go_enter Tryd.func41, Tryd.ntmps41
    go_wp2_with (go_at_call 68; refine (refSize_any _ _).mono ?_; rintro e w ⟨rfl, rfl⟩; rw [HZ.out])
    refine (refBytes_any _ d a len cap l at_ er size H.out).mono ?_
    rintro e w1 ⟨a1, c1, rfl, hl1, hr1⟩
    rw [R2.out] at hl1 hr1 ⊢
    rw [R1.out] at hr1
    have L1 := hid hl1
    have RF := hid hr1
    have hlc := hl1.2.1
    have hcm := hl1.2.2.1
    have hln := hid hl1.1
    unfold maxLen at hcm
    generalize hX : l.take (rdN size 1 len er) = X at *
    have HX := hid hX
    generalize hM : rdN size 1 len er = m at *
    have HM := hid hM
    clear hl1 hr1 hX hM
    go_wp2
    go_loop [6, 7] (fun v i => ∃ k : Nat, k ≤ m ∧ i = .int .i64 k ∧ v = .int .i64 (numOf (X.take k))) (fun _ i => m - (intOf i).toNat)
    case atStart => exact ⟨0, Nat.zero_le _, rfl, rfl⟩
    case round =>
      obtain ⟨k, hk, rfl, rfl⟩ := hrel
      by_cases hlt : k < m
      · obtain ⟨b, off, rfl, hcell⟩ := L1.out.2.2.2.2 k hlt
        have hx := HO.out.at k (by rw [hln.out]; exact hlt)
        have hn := numOf_bd X HO.out k (by rw [hln.out]; omega)
        have hp := pow_le3 k (by omega)
        have HS := hid (numOf_snoc X k (by rw [hln.out]; exact hlt))
        generalize (256 : Int) ^ k = P at *
        generalize numOf (X.take k) = n at *
        generalize X.getD k 0 = x at *
        have hn' : n < 16777216 := by omega
        clear hp
        go_wp2
        go_round
        case rel => exact ⟨k + 1, by omega, by go_num, by rw [HS.out]⟩
        case measure => simp [intOf]; omega
      · obtain rfl : k = m := by omega
        go_wp2
        go_ret
        rw [HM.out, HX.out]
        exact ⟨ret_int (by rw [List.take_of_length_le (by rw [hln.out]; omega)]), RF.out⟩

end Go.Proofs.YtbfjkhafdkhhmaaDoor
