/- The document's answer: the bytes of a message. -/
import Derived.Test.YtbfjkhafdkhhmaaDoorRc
import Derived.Test.YtbfjkhafdkhhmaaDoorM11
import Derived.Test.YtbfjkhafdkhhmaaDoorM24
import Derived.Deep.CutBlock
namespace Go.Proofs.YtbfjkhafdkhhmaaDoor
open Go.ChangeShapes Go.WideShapes Go.ChangeAt Go.RowKit Go.Deep
set_option linter.unusedVariables false
set_option linter.unusedSimpArgs false

/-- The bytes ahead of the address, in the document's words. -/
def rhd (m : Pm) : List Int :=
  if m.c = 0 then [0, 0]
  else if m.c = 1 then [m.i, m.v, m.r / 256, m.r % 256, (if m.g = true then 128 else 0) + 8 * m.mo + m.pf, m.d, 0, 0]
  else if m.c = 2 then [m.i, (if m.a = true then 128 else 0) + (if (m.ro == zeros) = true then 0 else 64), 0, m.sq]
  else [m.i, if (m.ro == zeros) = true then 0 else 128, m.sq, m.st]
theorem thr_eq (ro : List Int) : thr ro = if (ro == zeros) = true then 0 else 1 := by unfold thr bitI; cases (ro == zeros) <;> rfl
theorem u8w {x : Int} (h : 0 ≤ x ∧ x < 256) : IntKind.u8.wrap x = x := by rw [IntKind.wrap_u8]; omega
theorem chk_0 {m : Pm} (h : chkM m = 0) : codB m.c = true ∧ witV m.c.toNat m.vs = true := by
  unfold chkM chk0M at h
  by_cases h1 : codB m.c = true
  · by_cases h2 : frmV m.c.toNat m.vs = true
    · by_cases h3 : witV m.c.toNat m.vs = true
      · exact ⟨h1, h3⟩
      · simp [h1, h2, h3] at h
    · simp [h1, h2] at h
  · simp [h1] at h
theorem hd_ref (m : Pm) (h : chkM m = 0) : hdM m = rhd m ++ (if (m.ro == zeros) = true then [] else m.ro) ∧ Oct (rhd m) ∧ (m.c = 1 → 0 ≤ m.r ∧ m.r ≤ 65535 ∧ 0 ≤ m.mo ∧ m.mo ≤ 7 ∧ 0 ≤ m.pf ∧ m.pf ≤ 7) := by
  obtain ⟨hc, hw⟩ := chk_0 h
  obtain ⟨k, e, hk⟩ := cod_nat hc
  have ht := thr_eq m.ro
  have h10 : m.vs.getD 10 0 = thr m.ro := rfl
  have he : (if m.vs.getD 10 0 = 1 then m.ro else []) = if (m.ro == zeros) = true then [] else m.ro := by
    rw [h10, ht]; cases (m.ro == zeros) <;> simp
  rw [hdM, he]
  rw [e, Int.toNat_natCast] at hw ⊢
  have hkey : hdV m.vs (cpa k) = rhd m ∧ Oct (rhd m) ∧ ((k : Int) = 1 → 0 ≤ m.r ∧ m.r ≤ 65535 ∧ 0 ≤ m.mo ∧ m.mo ≤ 7 ∧ 0 ≤ m.pf ∧ m.pf ≤ 7) := by
    have hk' : k = 0 ∨ k = 1 ∨ k = 2 ∨ k = 3 := by omega
    have hg : bitI m.g * 2 ^ 7 = if m.g = true then 128 else 0 := by cases m.g <;> rfl
    have hg2 : (0 : Int) ≤ (if m.g = true then 128 else 0) ∧ (if m.g = true then (128 : Int) else 0) ≤ 128 := by cases m.g <;> decide
    have ha : bitI m.a * 2 ^ 7 = if m.a = true then 128 else 0 := by cases m.a <;> rfl
    have ha2 : (0 : Int) ≤ (if m.a = true then 128 else 0) ∧ (if m.a = true then (128 : Int) else 0) ≤ 128 := by cases m.a <;> decide
    have ht6 : thr m.ro * 2 ^ 6 = if (m.ro == zeros) = true then 0 else 64 := by rw [ht]; cases (m.ro == zeros) <;> rfl
    have ht7 : thr m.ro * 2 ^ 7 = if (m.ro == zeros) = true then 0 else 128 := by rw [ht]; cases (m.ro == zeros) <;> rfl
    have hz6 : (0 : Int) ≤ (if (m.ro == zeros) = true then 0 else 64) ∧ (if (m.ro == zeros) = true then (0 : Int) else 64) ≤ 64 := by cases (m.ro == zeros) <;> decide
    have hz7 : (0 : Int) ≤ (if (m.ro == zeros) = true then 0 else 128) ∧ (if (m.ro == zeros) = true then (0 : Int) else 128) ≤ 128 := by cases (m.ro == zeros) <;> decide
    rcases hk' with rfl | rfl | rfl | rfl
    · have hr : rhd m = [0, 0] := by rw [rhd, if_pos (by rw [e]; rfl)]
      rw [hr]
      exact ⟨by simp [hdV, hdP, cpa, cpas, orF, bytesOf, digs], by intro x hx; simp at hx; omega, fun h => absurd h (by decide)⟩
    · have hr : rhd m = [m.i, m.v, m.r / 256, m.r % 256, (if m.g = true then 128 else 0) + 8 * m.mo + m.pf, m.d, 0, 0] := by rw [rhd, if_neg (by rw [e]; decide), if_pos (by rw [e]; rfl)]
      rw [hr]
      simp [witV, cpa, cpas, inP, inF, Pm.vs, crt] at hw
      refine ⟨?_, ?_, fun _ => by omega⟩
      · simp only [hdV, hdP, cpa, cpas, List.getD_cons_zero, List.getD_cons_succ, List.flatMap_cons, List.flatMap_nil, orF, List.foldl_cons, List.foldl_nil, Pm.vs, bytesOf, digs, hg]
        generalize (if m.g = true then (128 : Int) else 0) = gg at *
        simp [digs]
        omega
      · intro x hx
        simp only [List.mem_cons, List.not_mem_nil, or_false] at hx
        generalize (if m.g = true then (128 : Int) else 0) = gg at *
        rcases hx with rfl | rfl | rfl | rfl | rfl | rfl | rfl | rfl <;> omega
    · have hr : rhd m = [m.i, (if m.a = true then 128 else 0) + (if (m.ro == zeros) = true then 0 else 64), 0, m.sq] := by rw [rhd, if_neg (by rw [e]; decide), if_neg (by rw [e]; decide), if_pos (by rw [e]; rfl)]
      rw [hr]
      simp [witV, cpa, cpas, inP, inF, Pm.vs, crt] at hw
      refine ⟨?_, ?_, fun h => absurd h (by decide)⟩
      · simp only [hdV, hdP, cpa, cpas, List.getD_cons_zero, List.getD_cons_succ, List.flatMap_cons, List.flatMap_nil, orF, List.foldl_cons, List.foldl_nil, Pm.vs, bytesOf, digs, ha, ht6]
        generalize (if m.a = true then (128 : Int) else 0) = gg at *
        generalize (if (m.ro == zeros) = true then (0 : Int) else 64) = zz at *
        simp [digs]
        omega
      · intro x hx
        simp only [List.mem_cons, List.not_mem_nil, or_false] at hx
        generalize (if m.a = true then (128 : Int) else 0) = gg at *
        generalize (if (m.ro == zeros) = true then (0 : Int) else 64) = zz at *
        rcases hx with rfl | rfl | rfl | rfl <;> omega
    · have hr : rhd m = [m.i, if (m.ro == zeros) = true then 0 else 128, m.sq, m.st] := by rw [rhd, if_neg (by rw [e]; decide), if_neg (by rw [e]; decide), if_neg (by rw [e]; decide)]
      rw [hr]
      simp [witV, cpa, cpas, inP, inF, Pm.vs, crt] at hw
      refine ⟨?_, ?_, fun h => absurd h (by decide)⟩
      · simp only [hdV, hdP, cpa, cpas, List.getD_cons_zero, List.getD_cons_succ, List.flatMap_cons, List.flatMap_nil, orF, List.foldl_cons, List.foldl_nil, Pm.vs, bytesOf, digs, ht7]
        generalize (if (m.ro == zeros) = true then (0 : Int) else 128) = zz at *
        simp [digs]
        omega
      · intro x hx
        simp only [List.mem_cons, List.not_mem_nil, or_false] at hx
        generalize (if (m.ro == zeros) = true then (0 : Int) else 128) = zz at *
        rcases hx with rfl | rfl | rfl | rfl <;> omega
  rw [hkey.1]
  exact ⟨rfl, hkey.2⟩
theorem rhd_len (m : Pm) : (rhd m).length ≤ 8 := by unfold rhd; split; · decide
                                                    split; · simp
                                                    split <;> simp
theorem eE_ref {m : Pm} (h : chkM m = 0) : eE m = if 1280 < (hdM m).length + (encsL m.o).length then 2 else 0 := by rw [eE, h]; rfl
set_option maxRecDepth 100000 in
set_option maxHeartbeats 6400000 in
theorem refEncodeM_any (m : Mv) (w : World) (hm : m.ok w) (hwf : Wfo m.L) (hn : m.on ≤ 1000) (hck : chkM m.p = 0) : Calls Tryd.prog 14 #[.agg m.cs] w fun e w' => (∃ v, e = .returned (.tuple #[v, .int .i64 (eE m.p)]) ∧ Hid (w'.ownsRow w.heap.size 5 1 v (eL m.p).length (u8s (eL m.p)))) ∧ Below w.heap.size w w' := by
  have hz := zarr
  have HM := hid hm
  have HWf := hid hwf
  have HA := hid hm.ro
  obtain ⟨hh1, hh2, hh3⟩ := hd_ref m.p hck
  have HH := hid hh1
  have HOc := hid hh2
  have HEE := hid (eE_ref hck)
  have HEL : Hid (eL m.p = if eE m.p = 0 then hdM m.p ++ encsL m.p.o else []) := rfl
  have HLn := hid (rhd_len m.p)
  have hcod := (chk_0 hck).1
  obtain ⟨k, hk, hk4⟩ := cod_nat hcod
  have hk : m.c = k := hk
  have hB1 : k = 1 → IntKind.i64.wrap (m.r.tdiv 256) = m.r / 256 ∧ m.r.tmod 256 = m.r % 256 ∧ (IntKind.i64.wrap (8 * m.mo) = 8 * m.mo ∧ IntKind.i64.wrap ((if m.g = true then (128 : Int) else 0) + 8 * m.mo) = (if m.g = true then (128 : Int) else 0) + 8 * m.mo) ∧ IntKind.i64.wrap ((if m.g = true then (128 : Int) else 0) + 8 * m.mo + m.pf) = (if m.g = true then (128 : Int) else 0) + 8 * m.mo + m.pf := by
    intro e
    obtain ⟨b1, b2, b3, b4, b5, b6⟩ := hh3 (by rw [show m.p.c = m.c from rfl, hk, e]; rfl)
    have b1 : 0 ≤ m.r := b1
    have b2 : m.r ≤ 65535 := b2
    have b3 : 0 ≤ m.mo := b3
    have b4 : m.mo ≤ 7 := b4
    have b5 : 0 ≤ m.pf := b5
    have b6 : m.pf ≤ 7 := b6
    have hg2 : (0 : Int) ≤ (if m.g = true then 128 else 0) ∧ (if m.g = true then (128 : Int) else 0) ≤ 128 := by cases m.g <;> decide
    generalize (if m.g = true then (128 : Int) else 0) = gg at *
    refine ⟨?_, Int.tmod_eq_emod_of_nonneg b1, ⟨wraps_i64 _ (by omega) (by omega), wraps_i64 _ (by omega) (by omega)⟩, wraps_i64 _ (by omega) (by omega)⟩
    rw [Int.tdiv_eq_ediv_of_nonneg b1]
    exact wraps_i64 _ (by omega) (by omega)
  have HB1 := hid hB1
  have hr0 : k = 0 → rhd m.p = [0, 0] := fun e => by rw [rhd, if_pos (by rw [show m.p.c = m.c from rfl, hk, e]; rfl)]
  have hr1 : k = 1 → rhd m.p = [m.i, m.v, m.r / 256, m.r % 256, (if m.g = true then 128 else 0) + 8 * m.mo + m.pf, m.d, 0, 0] := fun e => by rw [rhd, if_neg (by rw [show m.p.c = m.c from rfl, hk, e]; decide), if_pos (by rw [show m.p.c = m.c from rfl, hk, e]; rfl)]; rfl
  have hr2 : k = 2 → rhd m.p = [m.i, (if m.a = true then 128 else 0) + (if (m.ro == zeros) = true then 0 else 64), 0, m.sq] := fun e => by rw [rhd, if_neg (by rw [show m.p.c = m.c from rfl, hk, e]; decide), if_neg (by rw [show m.p.c = m.c from rfl, hk, e]; decide), if_pos (by rw [show m.p.c = m.c from rfl, hk, e]; rfl)]; rfl
  have hr3 : k = 3 → rhd m.p = [m.i, if (m.ro == zeros) = true then 0 else 128, m.sq, m.st] := fun e => by rw [rhd, if_neg (by rw [show m.p.c = m.c from rfl, hk, e]; decide), if_neg (by rw [show m.p.c = m.c from rfl, hk, e]; decide), if_neg (by rw [show m.p.c = m.c from rfl, hk, e]; decide)]; rfl
  have HR0 := hid hr0
  have HR1 := hid hr1
  have HR2 := hid hr2
  have HR3 := hid hr3
  have hq := eq36 m.ro zeros hm.ro.1 adr_zeros.1
  have HHr : Hid (hdM m.p = rhd m.p ++ (if (m.ro == zeros) = true then [] else m.ro)) := HH
  have R0 := hid ((Row.new w 25 m.cs).alloc (.cells (arr zeros) 22))
  have Z0 := hid (Row.new (w.alloc (.cells m.cs 25)) 22 (arr zeros))
  have B0 := hid (balloc (balloc (Below.refl w.heap.size w) (.cells m.cs 25)) (.cells (arr zeros) 22))
  have hs1 : (w.alloc (.cells m.cs 25)).heap.size = w.heap.size + 1 := World.size_alloc ..
  rw [hs1] at Z0
  clear hm hwf hck hh1 hh2 hh3 hB1 hr0 hr1 hr2 hr3 HH hcod
  go_enter Tryd.func14, Tryd.ntmps14
  go_upto_region 2 with fail
  generalize (w.alloc (.cells m.cs 25)).alloc (.cells (arr zeros) 22) = w1 at *
  generalize hg1 : w.heap.size = g1 at *
  have R1 := R0
  have B1 := B0
  have Z1 := Z0
  clear hz hs1 R0 B0 Z0
  have PA := hid (R1.out.part.mvA HA.out)
  have PZ := hid Z1.out.part
  generalize (m.ro == zeros) = rb at *
  have c0 := (R1.out.cell 0).trans m.at0
  rw [hk] at c0
  go_upto_block 0 with (with_reducible refine wpl_id ?_; first | (refine ld36 _ rfl rfl _ _ rfl m.ro HA.out PA.out ?_) | (refine ld36 _ rfl rfl _ _ rfl zeros adr_zeros PZ.out ?_))
  go_cut [6] from 13 (fun v wx => ∃ a6 c6, v = .slice a6 (rhd m.p).length c6 ∧ Hid (wx.ownsRow g1 5 1 (.slice a6 (rhd m.p).length c6) (rhd m.p).length (u8s (rhd m.p))) ∧ Hid (Row wx g1 25 m.cs) ∧ Hid (Below g1 w wx))
  case first =>
    clear PA PZ hq Z1
    have hk' : k = 0 ∨ k = 1 ∨ k = 2 ∨ k = 3 := by omega
    rcases hk' with rfl | rfl | rfl | rfl
    · have HR := hid (HR0.out rfl)
      go_wp2_with fail
      have BA := hid (balloc (Below.refl w1.heap.size w1) (.cells #[.int .u8 0, .int .u8 0] 5))
      have hgw : g1 ≤ w1.heap.size := by rw [← hg1]; exact B1.out.size
      go_meet
      case rel => exact ⟨some ⟨w1.heap.size, 0, none⟩, 2, by rw [HR.out]; rfl, hid (by rw [HR.out]; exact own_mono (lit_own w1 #[.int .u8 0, .int .u8 0] 5 2 rfl (by decide)) hgw), hid (R1.out.below BA.out), hid (B1.out.trans (BA.out.mono hgw))⟩
    · have HR := hid (HR1.out rfl)
      have f0 : IntKind.u8.wrap m.i = m.i := u8w (HOc.out m.i (by rw [HR.out]; simp))
      have f1 : IntKind.u8.wrap m.v = m.v := u8w (HOc.out m.v (by rw [HR.out]; simp))
      have f2 : IntKind.u8.wrap (m.r / 256) = m.r / 256 := u8w (HOc.out (m.r / 256) (by rw [HR.out]; simp))
      have f3 : IntKind.u8.wrap (m.r % 256) = m.r % 256 := u8w (HOc.out (m.r % 256) (by rw [HR.out]; simp))
      have f5 : IntKind.u8.wrap m.d = m.d := u8w (HOc.out m.d (by rw [HR.out]; simp))
      have f4 := u8w (HOc.out ((if m.g = true then 128 else 0) + 8 * m.mo + m.pf) (by rw [HR.out]; simp))
      obtain ⟨n1, n2, n3, n4⟩ := HB1.out rfl
      generalize hgg : (if m.g = true then (128 : Int) else 0) = gg at *
      have HGG := hid hgg
      clear hgg
      generalize hr1 : m.r / 256 = q1 at *
      generalize hr2 : m.r % 256 = q2 at *
      clear hr1 hr2
      have n5 : IntKind.i64.wrap (8 * m.mo) = 8 * m.mo := n3.1
      have n6 : IntKind.i64.wrap (gg + 8 * m.mo) = gg + 8 * m.mo := n3.2
      have n7 : IntKind.i64.wrap (gg + 8 * m.mo + m.pf) = gg + 8 * m.mo + m.pf := n4
      clear n3 n4
      have R2 := R1
      go_wp2_with fail
      refine wp_region_held_drew (S := fun w' => w'.cell? ⟨g1, 1, none⟩ = some (.int .i64 m.i) ∧ (w'.cell? ⟨g1, 2, none⟩ = some (.int .i64 m.v) ∧ (w'.cell? ⟨g1, 3, none⟩ = some (.int .i64 m.r) ∧ (w'.cell? ⟨g1, 4, none⟩ = some (.int .i64 m.mo) ∧ (w'.cell? ⟨g1, 5, none⟩ = some (.int .i64 m.pf) ∧ (w'.cell? ⟨g1, 6, none⟩ = some (.int .i64 m.d) ∧ (w'.cell? ⟨g1, 9, none⟩ = some (.bool m.g) ∧ (Hid (Row w' g1 25 m.cs))))))))) (by kernel_rfl) ?_ (fun hHeld => ?_)
      · exact ⟨(R1.out.cell 1).trans m.at1, (R1.out.cell 2).trans m.at2, (R1.out.cell 3).trans m.at3, (R1.out.cell 4).trans m.at4, (R1.out.cell 5).trans m.at5, (R1.out.cell 6).trans m.at6, (R1.out.cell 9).trans m.at9, R1.out⟩
      refine wpAnyH_take (i := 0) (oi := _) (v := ?vaq0x0) rfl (by kernel_rfl) (by kernel_rfl) (by kernel_rfl) (fun _ _ _ h => h) (Or.inl ⟨by rfl, ?hyaq0x0⟩) (by assumption) ?restaq0x0
      case hyaq0x0 => (intro w hSw; (try dsimp only at hSw); go_split_ands; go_simp; try (with_reducible rfl))
      try simp only [List.getElem_toArray, List.getElem_cons_zero, List.getElem_cons_succ, Act.put, List.setIfInBounds_toArray, List.set_cons_zero, List.set_cons_succ]
      refine wpAnyH_take (i := 1) (oi := _) (v := ?vaq0x1) rfl (by kernel_rfl) (by kernel_rfl) (by kernel_rfl) (fun _ _ _ h => h) (Or.inl ⟨by rfl, ?hyaq0x1⟩) (by assumption) ?restaq0x1
      case hyaq0x1 => (intro w hSw; (try dsimp only at hSw); go_split_ands; go_simp; try (with_reducible rfl))
      try simp only [List.getElem_toArray, List.getElem_cons_zero, List.getElem_cons_succ, Act.put, List.setIfInBounds_toArray, List.set_cons_zero, List.set_cons_succ]
      refine wpAnyH_take (i := 2) (oi := _) (v := ?vaq0x2) rfl (by kernel_rfl) (by kernel_rfl) (by kernel_rfl) (fun _ _ _ h => h) (Or.inl ⟨by rfl, ?hyaq0x2⟩) (by assumption) ?restaq0x2
      case hyaq0x2 => (intro w hSw; (try dsimp only at hSw); go_split_ands; go_simp; try (with_reducible rfl))
      try simp only [List.getElem_toArray, List.getElem_cons_zero, List.getElem_cons_succ, Act.put, List.setIfInBounds_toArray, List.set_cons_zero, List.set_cons_succ]
      refine wpAnyH_take (i := 3) (oi := _) (v := ?vaq0x3) rfl (by kernel_rfl) (by kernel_rfl) (by kernel_rfl) (fun _ _ _ h => h) (Or.inl ⟨by rfl, ?hyaq0x3⟩) (by assumption) ?restaq0x3
      case hyaq0x3 => (intro w hSw; (try dsimp only at hSw); go_split_ands; go_simp; try (with_reducible rfl))
      try simp only [List.getElem_toArray, List.getElem_cons_zero, List.getElem_cons_succ, Act.put, List.setIfInBounds_toArray, List.set_cons_zero, List.set_cons_succ]
      refine wpAnyH_take (i := 4) (oi := _) (v := ?vaq0x4) rfl (by kernel_rfl) (by kernel_rfl) (by kernel_rfl) (fun _ _ _ h => h) (Or.inl ⟨by rfl, ?hyaq0x4⟩) (by assumption) ?restaq0x4
      case hyaq0x4 => (intro w hSw; (try dsimp only at hSw); go_split_ands; go_simp; try (with_reducible rfl))
      try simp only [List.getElem_toArray, List.getElem_cons_zero, List.getElem_cons_succ, Act.put, List.setIfInBounds_toArray, List.set_cons_zero, List.set_cons_succ]
      refine wpAnyH_take (i := 5) (oi := _) (v := ?vaq0x5) rfl (by kernel_rfl) (by kernel_rfl) (by kernel_rfl) (fun _ _ _ h => h) (Or.inl ⟨by rfl, ?hyaq0x5⟩) (by assumption) ?restaq0x5
      case hyaq0x5 => (intro w hSw; (try dsimp only at hSw); go_split_ands; go_simp; try (with_reducible rfl))
      try simp only [List.getElem_toArray, List.getElem_cons_zero, List.getElem_cons_succ, Act.put, List.setIfInBounds_toArray, List.set_cons_zero, List.set_cons_succ]
      refine wpAnyH_take (i := 6) (oi := _) (v := ?vaq0x6) rfl (by kernel_rfl) (by kernel_rfl) (by kernel_rfl) (fun _ _ _ h => h) (Or.inl ⟨by rfl, ?hyaq0x6⟩) (by assumption) ?restaq0x6
      case hyaq0x6 => (intro w hSw; (try dsimp only at hSw); go_split_ands; go_simp; try (with_reducible rfl))
      try simp only [List.getElem_toArray, List.getElem_cons_zero, List.getElem_cons_succ, Act.put, List.setIfInBounds_toArray, List.set_cons_zero, List.set_cons_succ]
      refine wpAnyH_take (i := 7) (oi := _) (v := ?vaq0x7) rfl (by kernel_rfl) (by kernel_rfl) (by kernel_rfl) (fun _ _ _ h => h) (Or.inl ⟨by rfl, ?hyaq0x7⟩) (by assumption) ?restaq0x7
      case hyaq0x7 => (intro w hSw; (try dsimp only at hSw); go_split_ands; go_simp; try (with_reducible rfl))
      try simp only [List.getElem_toArray, List.getElem_cons_zero, List.getElem_cons_succ, Act.put, List.setIfInBounds_toArray, List.set_cons_zero, List.set_cons_succ]
      refine wpAnyH_take (i := 8) (oi := _) (v := ?vaq0x8) rfl (by kernel_rfl) (by kernel_rfl) (by kernel_rfl) (fun _ _ _ h => h) (Or.inl ⟨by rfl, ?hyaq0x8⟩) (by assumption) ?restaq0x8
      case hyaq0x8 => (intro w hSw; (try dsimp only at hSw); go_split_ands; go_simp; try (with_reducible rfl))
      try simp only [List.getElem_toArray, List.getElem_cons_zero, List.getElem_cons_succ, Act.put, List.setIfInBounds_toArray, List.set_cons_zero, List.set_cons_succ]
      refine wpAnyH_take (i := 9) (oi := _) (v := ?vaq0x9) rfl (by kernel_rfl) (by kernel_rfl) (by kernel_rfl) (fun _ _ _ h => h) (Or.inl ⟨by rfl, ?hyaq0x9⟩) (by assumption) ?restaq0x9
      case hyaq0x9 => (intro w hSw; (try dsimp only at hSw); go_split_ands; go_simp; try (with_reducible rfl))
      try simp only [List.getElem_toArray, List.getElem_cons_zero, List.getElem_cons_succ, Act.put, List.setIfInBounds_toArray, List.set_cons_zero, List.set_cons_succ]
      refine wpAnyH_take (i := 10) (oi := _) (v := ?vaq0x10) rfl (by kernel_rfl) (by kernel_rfl) (by kernel_rfl) (fun _ _ _ h => h) (Or.inl ⟨by rfl, ?hyaq0x10⟩) (by assumption) ?restaq0x10
      case hyaq0x10 => (intro w hSw; (try dsimp only at hSw); go_split_ands; go_simp; try (with_reducible rfl))
      try simp only [List.getElem_toArray, List.getElem_cons_zero, List.getElem_cons_succ, Act.put, List.setIfInBounds_toArray, List.set_cons_zero, List.set_cons_succ]
      refine wpAnyH_take (i := 11) (oi := _) (v := ?vaq0x11) rfl (by kernel_rfl) (by kernel_rfl) (by kernel_rfl) (fun _ _ _ h => h) (Or.inl ⟨by rfl, ?hyaq0x11⟩) (by assumption) ?restaq0x11
      case hyaq0x11 => (intro w hSw; (try dsimp only at hSw); go_split_ands; go_simp; try (with_reducible rfl))
      try simp only [List.getElem_toArray, List.getElem_cons_zero, List.getElem_cons_succ, Act.put, List.setIfInBounds_toArray, List.set_cons_zero, List.set_cons_succ]
      refine wpAnyH_take (i := 12) (oi := _) (v := ?vaq0x12) rfl (by kernel_rfl) (by kernel_rfl) (by kernel_rfl) (fun _ _ _ h => h) (Or.inl ⟨by rfl, ?hyaq0x12⟩) (by assumption) ?restaq0x12
      case hyaq0x12 => (intro w hSw; (try dsimp only at hSw); go_split_ands; go_simp; try (with_reducible rfl))
      try simp only [List.getElem_toArray, List.getElem_cons_zero, List.getElem_cons_succ, Act.put, List.setIfInBounds_toArray, List.set_cons_zero, List.set_cons_succ]
      refine wpAnyH_take (i := 13) (oi := _) (v := ?vaq0x13) rfl (by kernel_rfl) (by kernel_rfl) (by kernel_rfl) (fun _ _ _ h => h) (Or.inl ⟨by rfl, ?hyaq0x13⟩) (by assumption) ?restaq0x13
      case hyaq0x13 => (intro w hSw; (try dsimp only at hSw); go_split_ands; go_simp; try (with_reducible rfl))
      try simp only [List.getElem_toArray, List.getElem_cons_zero, List.getElem_cons_succ, Act.put, List.setIfInBounds_toArray, List.set_cons_zero, List.set_cons_succ]
      refine wpAnyH_take (i := 14) (oi := _) (v := ?vaq0x14) rfl (by kernel_rfl) (by kernel_rfl) (by kernel_rfl) (fun _ _ _ h => h) (Or.inl ⟨by rfl, ?hyaq0x14⟩) (by assumption) ?restaq0x14
      case hyaq0x14 => (intro w hSw; (try dsimp only at hSw); go_split_ands; go_simp; try (with_reducible rfl))
      try simp only [List.getElem_toArray, List.getElem_cons_zero, List.getElem_cons_succ, Act.put, List.setIfInBounds_toArray, List.set_cons_zero, List.set_cons_succ]
      refine wpAnyH_take (i := 15) (oi := _) (v := ?vaq0x15) rfl (by kernel_rfl) (by kernel_rfl) (by kernel_rfl) (fun _ _ _ h => h) (Or.inl ⟨by rfl, ?hyaq0x15⟩) (by assumption) ?restaq0x15
      case hyaq0x15 => (intro w hSw; (try dsimp only at hSw); go_split_ands; go_simp; try (with_reducible rfl))
      try simp only [List.getElem_toArray, List.getElem_cons_zero, List.getElem_cons_succ, Act.put, List.setIfInBounds_toArray, List.set_cons_zero, List.set_cons_succ]
      refine wpAnyH_take (i := 17) (oi := _) (v := ?vaq0x17) rfl (by kernel_rfl) (by kernel_rfl) (by kernel_rfl) (fun _ _ _ h => h) (Or.inl ⟨by rfl, ?hyaq0x17⟩) (by assumption) ?restaq0x17
      case hyaq0x17 => (intro w hSw; (try dsimp only at hSw); go_split_ands; go_simp; try (with_reducible rfl))
      try simp only [List.getElem_toArray, List.getElem_cons_zero, List.getElem_cons_succ, Act.put, List.setIfInBounds_toArray, List.set_cons_zero, List.set_cons_succ]
      refine wpAnyH_take (i := 18) (oi := _) (v := ?vaq0x18) rfl (by kernel_rfl) (by kernel_rfl) (by kernel_rfl) (fun _ _ _ h => h) (Or.inl ⟨by rfl, ?hyaq0x18⟩) (by assumption) ?restaq0x18
      case hyaq0x18 => (intro w hSw; (try dsimp only at hSw); go_split_ands; go_simp; try (with_reducible rfl))
      try simp only [List.getElem_toArray, List.getElem_cons_zero, List.getElem_cons_succ, Act.put, List.setIfInBounds_toArray, List.set_cons_zero, List.set_cons_succ]
      refine wpAnyH_take (i := 19) (oi := _) (v := ?vaq0x19) rfl (by kernel_rfl) (by kernel_rfl) (by kernel_rfl) (fun _ _ _ h => h) (Or.inl ⟨by rfl, ?hyaq0x19⟩) (by assumption) ?restaq0x19
      case hyaq0x19 => (intro w hSw; (try dsimp only at hSw); go_split_ands; go_simp; try (with_reducible rfl))
      try simp only [List.getElem_toArray, List.getElem_cons_zero, List.getElem_cons_succ, Act.put, List.setIfInBounds_toArray, List.set_cons_zero, List.set_cons_succ]
      refine wpAnyH_take (i := 21) (oi := _) (v := ?vaq0x21) rfl (by kernel_rfl) (by kernel_rfl) (by kernel_rfl) (fun _ _ _ h => h) (Or.inl ⟨by rfl, ?hyaq0x21⟩) (by assumption) ?restaq0x21
      case hyaq0x21 => (intro w hSw; (try dsimp only at hSw); go_split_ands; go_simp; try (with_reducible rfl))
      try simp only [List.getElem_toArray, List.getElem_cons_zero, List.getElem_cons_succ, Act.put, List.setIfInBounds_toArray, List.set_cons_zero, List.set_cons_succ]
      refine wpAnyH_take (i := 22) (oi := _) (v := ?vaq0x22) rfl (by kernel_rfl) (by kernel_rfl) (by kernel_rfl) (fun _ _ _ h => h) (Or.inl ⟨by rfl, ?hyaq0x22⟩) (by assumption) ?restaq0x22
      case hyaq0x22 => (intro w hSw; (try dsimp only at hSw); go_split_ands; go_simp; try (with_reducible rfl))
      try simp only [List.getElem_toArray, List.getElem_cons_zero, List.getElem_cons_succ, Act.put, List.setIfInBounds_toArray, List.set_cons_zero, List.set_cons_succ]
      refine wpAnyH_take (i := 25) (oi := _) (v := ?vaq0x25) rfl (by kernel_rfl) (by kernel_rfl) (by kernel_rfl) (fun _ _ _ h => h) (Or.inl ⟨by rfl, ?hyaq0x25⟩) (by assumption) ?restaq0x25
      case hyaq0x25 => (intro w hSw; (try dsimp only at hSw); go_split_ands; go_simp; try (with_reducible rfl))
      try simp only [List.getElem_toArray, List.getElem_cons_zero, List.getElem_cons_succ, Act.put, List.setIfInBounds_toArray, List.set_cons_zero, List.set_cons_succ]
      refine wpAnyH_take (i := 26) (oi := _) (v := ?vaq0x26) rfl (by kernel_rfl) (by kernel_rfl) (by kernel_rfl) (fun _ _ _ h => h) (Or.inl ⟨by rfl, ?hyaq0x26⟩) (by assumption) ?restaq0x26
      case hyaq0x26 => (intro w hSw; (try dsimp only at hSw); go_split_ands; go_simp; try (with_reducible rfl))
      try simp only [List.getElem_toArray, List.getElem_cons_zero, List.getElem_cons_succ, Act.put, List.setIfInBounds_toArray, List.set_cons_zero, List.set_cons_succ]
      refine wpAnyH_take (i := 27) (oi := _) (v := ?vaq0x27) rfl (by kernel_rfl) (by kernel_rfl) (by kernel_rfl) (fun _ _ _ h => h) (Or.inl ⟨by rfl, ?hyaq0x27⟩) (by assumption) ?restaq0x27
      case hyaq0x27 => (intro w hSw; (try dsimp only at hSw); go_split_ands; go_simp; try (with_reducible rfl))
      try simp only [List.getElem_toArray, List.getElem_cons_zero, List.getElem_cons_succ, Act.put, List.setIfInBounds_toArray, List.set_cons_zero, List.set_cons_succ]
      refine wpAnyH_ready (rs := [16]) (by kernel_rfl) (by simp) ?_
      refine AllReadyH.cons (o := _) rfl (fun K hK => ?_) AllReadyH.nil
      go_simp
      have RD : Hid (Row w1.drew g1 25 m.cs) := R1
      have BD : Hid (Below g1 w w1.drew) := hid (B1.out.trans ⟨rfl, rfl, rfl, Nat.le_refl _, fun _ _ => rfl⟩)
      generalize w1.drew = w2 at *
      clear R1 B1
      refine (bit_any _ _ _).mono ?_
      rintro e w2 ⟨rfl, rfl⟩
      rw [HGG.out]
      go_wp2_with fail
      refine hK.out _ _ ⟨(RD.out.cell 1).trans m.at1, (RD.out.cell 2).trans m.at2, (RD.out.cell 3).trans m.at3, (RD.out.cell 4).trans m.at4, (RD.out.cell 5).trans m.at5, (RD.out.cell 6).trans m.at6, (RD.out.cell 9).trans m.at9, RD.out⟩ (fun hHeld => ?_)
      clear hK K
      try simp only [List.getElem_toArray, List.getElem_cons_zero, List.getElem_cons_succ, Act.put, List.setIfInBounds_toArray, List.set_cons_zero, List.set_cons_succ]
      refine wpAnyH_take (i := 20) (oi := _) (v := ?vbq0x20) rfl (by kernel_rfl) (by kernel_rfl) (by kernel_rfl) (fun _ _ _ h => h) (Or.inl ⟨by rfl, ?hybq0x20⟩) (by assumption) ?restbq0x20
      case hybq0x20 => (intro w hSw; (try dsimp only at hSw); go_split_ands; go_simp; try (with_reducible rfl))
      try simp only [List.getElem_toArray, List.getElem_cons_zero, List.getElem_cons_succ, Act.put, List.setIfInBounds_toArray, List.set_cons_zero, List.set_cons_succ]
      refine wpAnyH_take (i := 23) (oi := _) (v := ?vbq0x23) rfl (by kernel_rfl) (by kernel_rfl) (by kernel_rfl) (fun _ _ _ h => h) (Or.inl ⟨by rfl, ?hybq0x23⟩) (by assumption) ?restbq0x23
      case hybq0x23 => (intro w hSw; (try dsimp only at hSw); go_split_ands; go_simp; try (with_reducible rfl))
      try simp only [List.getElem_toArray, List.getElem_cons_zero, List.getElem_cons_succ, Act.put, List.setIfInBounds_toArray, List.set_cons_zero, List.set_cons_succ]
      refine wpAnyH_take (i := 24) (oi := _) (v := ?vbq0x24) rfl (by kernel_rfl) (by kernel_rfl) (by kernel_rfl) (fun _ _ _ h => h) (Or.inl ⟨by rfl, ?hybq0x24⟩) (by assumption) ?restbq0x24
      case hybq0x24 => (intro w hSw; (try dsimp only at hSw); go_split_ands; go_simp; try (with_reducible rfl))
      try simp only [List.getElem_toArray, List.getElem_cons_zero, List.getElem_cons_succ, Act.put, List.setIfInBounds_toArray, List.set_cons_zero, List.set_cons_succ]
      refine wpAnyH_ready (rs := [28]) (by kernel_rfl) (by simp) ?_
      refine AllReadyH.cons (o := _) rfl (fun K hK => ?_) AllReadyH.nil
      go_simp
      have BA := hid (balloc (Below.refl w2.heap.size w2) (.cells #[.int .u8 m.i, .int .u8 m.v, .int .u8 q1, .int .u8 q2, .int .u8 (gg + 8 * m.mo + m.pf), .int .u8 m.d, .int .u8 0, .int .u8 0] 5))
      have R3 := hid (RD.out.below BA.out)
      have B3 : Hid (Below g1 w (w2.alloc (.cells #[.int .u8 m.i, .int .u8 m.v, .int .u8 q1, .int .u8 q2, .int .u8 (gg + 8 * m.mo + m.pf), .int .u8 m.d, .int .u8 0, .int .u8 0] 5))) := hid (BD.out.trans (BA.out.mono (by rw [← hg1]; exact BD.out.size)))
      have W3 : Hid ((w2.alloc (.cells #[.int .u8 m.i, .int .u8 m.v, .int .u8 q1, .int .u8 q2, .int .u8 (gg + 8 * m.mo + m.pf), .int .u8 m.d, .int .u8 0, .int .u8 0] 5)).ownsRow g1 5 1 (.slice (some ⟨w2.heap.size, 0, none⟩) 8 8) 8 (u8s [m.i, m.v, q1, q2, (gg + 8 * m.mo + m.pf), m.d, 0, 0])) := hid (own_mono (lit_own w2 #[.int .u8 m.i, .int .u8 m.v, .int .u8 q1, .int .u8 q2, .int .u8 (gg + 8 * m.mo + m.pf), .int .u8 m.d, .int .u8 0, .int .u8 0] 5 8 rfl (by decide)) (by have := BD.out.size; omega))
      generalize w2.alloc (.cells #[.int .u8 m.i, .int .u8 m.v, .int .u8 q1, .int .u8 q2, .int .u8 (gg + 8 * m.mo + m.pf), .int .u8 m.d, .int .u8 0, .int .u8 0] 5) = w3 at *
      generalize w2.heap.size = gb at *
      clear BA RD BD
      refine hK.out _ _ ⟨(R3.out.cell 1).trans m.at1, (R3.out.cell 2).trans m.at2, (R3.out.cell 3).trans m.at3, (R3.out.cell 4).trans m.at4, (R3.out.cell 5).trans m.at5, (R3.out.cell 6).trans m.at6, (R3.out.cell 9).trans m.at9, R3.out⟩ (fun hHeld => ?_)
      clear hK K
      try simp only [List.getElem_toArray, List.getElem_cons_zero, List.getElem_cons_succ, Act.put, List.setIfInBounds_toArray, List.set_cons_zero, List.set_cons_succ]
      refine wpAnyH_take (i := 29) (oi := _) (v := ?vcq0x29) rfl (by kernel_rfl) (by kernel_rfl) (by kernel_rfl) (fun _ _ _ h => h) (Or.inl ⟨by rfl, ?hycq0x29⟩) (by assumption) ?restcq0x29
      case hycq0x29 => (intro w hSw; (try dsimp only at hSw); go_split_ands; go_simp; try (with_reducible rfl))
      try simp only [List.getElem_toArray, List.getElem_cons_zero, List.getElem_cons_succ, Act.put, List.setIfInBounds_toArray, List.set_cons_zero, List.set_cons_succ]
      refine wpAnyH_done (by kernel_rfl) ?_ _
      go_wp2_with fail
      go_meet
      case rel => exact ⟨some ⟨gb, 0, none⟩, 8, by rw [HR.out]; rfl, hid (by rw [HR.out]; exact W3.out), R3, B3⟩
    · have HR := hid (HR2.out rfl)
      have f0 : IntKind.u8.wrap m.i = m.i := u8w (HOc.out m.i (by rw [HR.out]; simp))
      have f1 : IntKind.u8.wrap m.sq = m.sq := u8w (HOc.out m.sq (by rw [HR.out]; simp))
      have f4 := u8w (HOc.out ((if m.a = true then 128 else 0) + (if rb = true then 0 else 64)) (by rw [HR.out]; simp))
      have n1 : IntKind.i64.wrap ((if m.a = true then 128 else 0) + (if rb = true then 0 else 64)) = (if m.a = true then 128 else 0) + (if rb = true then 0 else 64) := wraps_i64 _ (by cases m.a <;> cases rb <;> simp) (by cases m.a <;> cases rb <;> simp)
      have hzz : (if (!rb) = true then (64 : Int) else 0) = (if rb = true then 0 else 64) := by cases rb <;> rfl
      generalize (if rb = true then (0 : Int) else 64) = zz at *
      generalize hga : (if m.a = true then (128 : Int) else 0) = ga at *
      have HZZ := hid hzz
      have HGA := hid hga
      clear hzz hga
      go_wp2_with fail
      refine wp_region_held_drew (S := fun w' => w'.cell? ⟨g1, 1, none⟩ = some (.int .i64 m.i) ∧ (w'.cell? ⟨g1, 7, none⟩ = some (.int .i64 m.sq) ∧ (w'.cell? ⟨g1, 10, none⟩ = some (.bool m.a) ∧ (Hid (Row w' g1 25 m.cs))))) (by kernel_rfl) ?_ (fun hHeld => ?_)
      · exact ⟨(R1.out.cell 1).trans m.at1, (R1.out.cell 7).trans m.at7, (R1.out.cell 10).trans m.at10, R1.out⟩
      refine wpAnyH_take (i := 0) (oi := _) (v := ?vaq1x0) rfl (by kernel_rfl) (by kernel_rfl) (by kernel_rfl) (fun _ _ _ h => h) (Or.inl ⟨by rfl, ?hyaq1x0⟩) (by assumption) ?restaq1x0
      case hyaq1x0 => (intro w hSw; (try dsimp only at hSw); go_split_ands; go_simp; try (with_reducible rfl))
      try simp only [List.getElem_toArray, List.getElem_cons_zero, List.getElem_cons_succ, Act.put, List.setIfInBounds_toArray, List.set_cons_zero, List.set_cons_succ]
      refine wpAnyH_take (i := 1) (oi := _) (v := ?vaq1x1) rfl (by kernel_rfl) (by kernel_rfl) (by kernel_rfl) (fun _ _ _ h => h) (Or.inl ⟨by rfl, ?hyaq1x1⟩) (by assumption) ?restaq1x1
      case hyaq1x1 => (intro w hSw; (try dsimp only at hSw); go_split_ands; go_simp; try (with_reducible rfl))
      try simp only [List.getElem_toArray, List.getElem_cons_zero, List.getElem_cons_succ, Act.put, List.setIfInBounds_toArray, List.set_cons_zero, List.set_cons_succ]
      refine wpAnyH_take (i := 2) (oi := _) (v := ?vaq1x2) rfl (by kernel_rfl) (by kernel_rfl) (by kernel_rfl) (fun _ _ _ h => h) (Or.inl ⟨by rfl, ?hyaq1x2⟩) (by assumption) ?restaq1x2
      case hyaq1x2 => (intro w hSw; (try dsimp only at hSw); go_split_ands; go_simp; try (with_reducible rfl))
      try simp only [List.getElem_toArray, List.getElem_cons_zero, List.getElem_cons_succ, Act.put, List.setIfInBounds_toArray, List.set_cons_zero, List.set_cons_succ]
      refine wpAnyH_take (i := 3) (oi := _) (v := ?vaq1x3) rfl (by kernel_rfl) (by kernel_rfl) (by kernel_rfl) (fun _ _ _ h => h) (Or.inl ⟨by rfl, ?hyaq1x3⟩) (by assumption) ?restaq1x3
      case hyaq1x3 => (intro w hSw; (try dsimp only at hSw); go_split_ands; go_simp; try (with_reducible rfl))
      try simp only [List.getElem_toArray, List.getElem_cons_zero, List.getElem_cons_succ, Act.put, List.setIfInBounds_toArray, List.set_cons_zero, List.set_cons_succ]
      refine wpAnyH_take (i := 4) (oi := _) (v := ?vaq1x4) rfl (by kernel_rfl) (by kernel_rfl) (by kernel_rfl) (fun _ _ _ h => h) (Or.inl ⟨by rfl, ?hyaq1x4⟩) (by assumption) ?restaq1x4
      case hyaq1x4 => (intro w hSw; (try dsimp only at hSw); go_split_ands; go_simp; try (with_reducible rfl))
      try simp only [List.getElem_toArray, List.getElem_cons_zero, List.getElem_cons_succ, Act.put, List.setIfInBounds_toArray, List.set_cons_zero, List.set_cons_succ]
      refine wpAnyH_take (i := 6) (oi := _) (v := ?vaq1x6) rfl (by kernel_rfl) (by kernel_rfl) (by kernel_rfl) (fun _ _ _ h => h) (Or.inl ⟨by rfl, ?hyaq1x6⟩) (by assumption) ?restaq1x6
      case hyaq1x6 => (intro w hSw; (try dsimp only at hSw); go_split_ands; go_simp; try (with_reducible rfl))
      try simp only [List.getElem_toArray, List.getElem_cons_zero, List.getElem_cons_succ, Act.put, List.setIfInBounds_toArray, List.set_cons_zero, List.set_cons_succ]
      refine wpAnyH_take (i := 10) (oi := _) (v := ?vaq1x10) rfl (by kernel_rfl) (by kernel_rfl) (by kernel_rfl) (fun _ _ _ h => h) (Or.inl ⟨by rfl, ?hyaq1x10⟩) (by assumption) ?restaq1x10
      case hyaq1x10 => (intro w hSw; (try dsimp only at hSw); go_split_ands; go_simp; try (with_reducible rfl))
      try simp only [List.getElem_toArray, List.getElem_cons_zero, List.getElem_cons_succ, Act.put, List.setIfInBounds_toArray, List.set_cons_zero, List.set_cons_succ]
      refine wpAnyH_take (i := 11) (oi := _) (v := ?vaq1x11) rfl (by kernel_rfl) (by kernel_rfl) (by kernel_rfl) (fun _ _ _ h => h) (Or.inl ⟨by rfl, ?hyaq1x11⟩) (by assumption) ?restaq1x11
      case hyaq1x11 => (intro w hSw; (try dsimp only at hSw); go_split_ands; go_simp; try (with_reducible rfl))
      try simp only [List.getElem_toArray, List.getElem_cons_zero, List.getElem_cons_succ, Act.put, List.setIfInBounds_toArray, List.set_cons_zero, List.set_cons_succ]
      refine wpAnyH_take (i := 12) (oi := _) (v := ?vaq1x12) rfl (by kernel_rfl) (by kernel_rfl) (by kernel_rfl) (fun _ _ _ h => h) (Or.inl ⟨by rfl, ?hyaq1x12⟩) (by assumption) ?restaq1x12
      case hyaq1x12 => (intro w hSw; (try dsimp only at hSw); go_split_ands; go_simp; try (with_reducible rfl))
      try simp only [List.getElem_toArray, List.getElem_cons_zero, List.getElem_cons_succ, Act.put, List.setIfInBounds_toArray, List.set_cons_zero, List.set_cons_succ]
      refine wpAnyH_ready (rs := [5]) (by kernel_rfl) (by simp) ?_
      refine AllReadyH.cons (o := _) rfl (fun K hK => ?_) AllReadyH.nil
      go_simp
      have RD : Hid (Row w1.drew g1 25 m.cs) := R1
      have BD : Hid (Below g1 w w1.drew) := hid (B1.out.trans ⟨rfl, rfl, rfl, Nat.le_refl _, fun _ _ => rfl⟩)
      generalize w1.drew = w2 at *
      clear R1 B1
      refine (bit_any _ _ _).mono ?_
      rintro e w2 ⟨rfl, rfl⟩
      rw [HGA.out]
      go_wp2_with fail
      refine hK.out _ _ ⟨(RD.out.cell 1).trans m.at1, (RD.out.cell 7).trans m.at7, (RD.out.cell 10).trans m.at10, RD.out⟩ (fun hHeld => ?_)
      clear hK K
      try simp only [List.getElem_toArray, List.getElem_cons_zero, List.getElem_cons_succ, Act.put, List.setIfInBounds_toArray, List.set_cons_zero, List.set_cons_succ]
      refine wpAnyH_ready (rs := [7]) (by kernel_rfl) (by simp) ?_
      refine AllReadyH.cons (o := _) rfl (fun K hK => ?_) AllReadyH.nil
      go_simp
      refine (bit_any _ _ _).mono ?_
      rintro e w2 ⟨rfl, rfl⟩
      rw [HZZ.out]
      go_wp2_with fail
      refine hK.out _ _ ⟨(RD.out.cell 1).trans m.at1, (RD.out.cell 7).trans m.at7, (RD.out.cell 10).trans m.at10, RD.out⟩ (fun hHeld => ?_)
      clear hK K
      try simp only [List.getElem_toArray, List.getElem_cons_zero, List.getElem_cons_succ, Act.put, List.setIfInBounds_toArray, List.set_cons_zero, List.set_cons_succ]
      refine wpAnyH_take (i := 8) (oi := _) (v := ?vbq1x8) rfl (by kernel_rfl) (by kernel_rfl) (by kernel_rfl) (fun _ _ _ h => h) (Or.inl ⟨by rfl, ?hybq1x8⟩) (by assumption) ?restbq1x8
      case hybq1x8 => (intro w hSw; (try dsimp only at hSw); go_split_ands; go_simp; try (with_reducible rfl))
      try simp only [List.getElem_toArray, List.getElem_cons_zero, List.getElem_cons_succ, Act.put, List.setIfInBounds_toArray, List.set_cons_zero, List.set_cons_succ]
      refine wpAnyH_take (i := 9) (oi := _) (v := ?vbq1x9) rfl (by kernel_rfl) (by kernel_rfl) (by kernel_rfl) (fun _ _ _ h => h) (Or.inl ⟨by rfl, ?hybq1x9⟩) (by assumption) ?restbq1x9
      case hybq1x9 => (intro w hSw; (try dsimp only at hSw); go_split_ands; go_simp; try (with_reducible rfl))
      try simp only [List.getElem_toArray, List.getElem_cons_zero, List.getElem_cons_succ, Act.put, List.setIfInBounds_toArray, List.set_cons_zero, List.set_cons_succ]
      refine wpAnyH_ready (rs := [13]) (by kernel_rfl) (by simp) ?_
      refine AllReadyH.cons (o := _) rfl (fun K hK => ?_) AllReadyH.nil
      go_simp
      have BA := hid (balloc (Below.refl w2.heap.size w2) (.cells #[.int .u8 m.i, .int .u8 (ga + zz), .int .u8 0, .int .u8 m.sq] 5))
      have R3 := hid (RD.out.below BA.out)
      have B3 : Hid (Below g1 w (w2.alloc (.cells #[.int .u8 m.i, .int .u8 (ga + zz), .int .u8 0, .int .u8 m.sq] 5))) := hid (BD.out.trans (BA.out.mono (by rw [← hg1]; exact BD.out.size)))
      have W3 : Hid ((w2.alloc (.cells #[.int .u8 m.i, .int .u8 (ga + zz), .int .u8 0, .int .u8 m.sq] 5)).ownsRow g1 5 1 (.slice (some ⟨w2.heap.size, 0, none⟩) 4 4) 4 (u8s [m.i, (ga + zz), 0, m.sq])) := hid (own_mono (lit_own w2 #[.int .u8 m.i, .int .u8 (ga + zz), .int .u8 0, .int .u8 m.sq] 5 4 rfl (by decide)) (by have := BD.out.size; omega))
      generalize w2.alloc (.cells #[.int .u8 m.i, .int .u8 (ga + zz), .int .u8 0, .int .u8 m.sq] 5) = w3 at *
      generalize w2.heap.size = gb at *
      clear BA RD BD
      refine hK.out _ _ ⟨(R3.out.cell 1).trans m.at1, (R3.out.cell 7).trans m.at7, (R3.out.cell 10).trans m.at10, R3.out⟩ (fun hHeld => ?_)
      clear hK K
      try simp only [List.getElem_toArray, List.getElem_cons_zero, List.getElem_cons_succ, Act.put, List.setIfInBounds_toArray, List.set_cons_zero, List.set_cons_succ]
      refine wpAnyH_take (i := 14) (oi := _) (v := ?vcq1x14) rfl (by kernel_rfl) (by kernel_rfl) (by kernel_rfl) (fun _ _ _ h => h) (Or.inl ⟨by rfl, ?hycq1x14⟩) (by assumption) ?restcq1x14
      case hycq1x14 => (intro w hSw; (try dsimp only at hSw); go_split_ands; go_simp; try (with_reducible rfl))
      try simp only [List.getElem_toArray, List.getElem_cons_zero, List.getElem_cons_succ, Act.put, List.setIfInBounds_toArray, List.set_cons_zero, List.set_cons_succ]
      refine wpAnyH_done (by kernel_rfl) ?_ _
      go_wp2_with fail
      go_meet
      case rel => exact ⟨some ⟨gb, 0, none⟩, 4, by rw [HR.out]; rfl, hid (by rw [HR.out]; exact W3.out), R3, B3⟩
    · have HR := hid (HR3.out rfl)
      have f0 : IntKind.u8.wrap m.i = m.i := u8w (HOc.out m.i (by rw [HR.out]; simp))
      have f1 : IntKind.u8.wrap m.sq = m.sq := u8w (HOc.out m.sq (by rw [HR.out]; simp))
      have f2 : IntKind.u8.wrap m.st = m.st := u8w (HOc.out m.st (by rw [HR.out]; simp))
      have f4 := u8w (HOc.out (if rb = true then 0 else 128) (by rw [HR.out]; simp))
      have hzz : (if (!rb) = true then (128 : Int) else 0) = (if rb = true then 0 else 128) := by cases rb <;> rfl
      generalize (if rb = true then (0 : Int) else 128) = zz at *
      have HZZ := hid hzz
      clear hzz
      go_wp2_with fail
      refine wp_region_held_drew (S := fun w' => w'.cell? ⟨g1, 1, none⟩ = some (.int .i64 m.i) ∧ (w'.cell? ⟨g1, 7, none⟩ = some (.int .i64 m.sq) ∧ (w'.cell? ⟨g1, 8, none⟩ = some (.int .i64 m.st) ∧ (Hid (Row w' g1 25 m.cs))))) (by kernel_rfl) ?_ (fun hHeld => ?_)
      · exact ⟨(R1.out.cell 1).trans m.at1, (R1.out.cell 7).trans m.at7, (R1.out.cell 8).trans m.at8, R1.out⟩
      refine wpAnyH_take (i := 0) (oi := _) (v := ?vaq2x0) rfl (by kernel_rfl) (by kernel_rfl) (by kernel_rfl) (fun _ _ _ h => h) (Or.inl ⟨by rfl, ?hyaq2x0⟩) (by assumption) ?restaq2x0
      case hyaq2x0 => (intro w hSw; (try dsimp only at hSw); go_split_ands; go_simp; try (with_reducible rfl))
      try simp only [List.getElem_toArray, List.getElem_cons_zero, List.getElem_cons_succ, Act.put, List.setIfInBounds_toArray, List.set_cons_zero, List.set_cons_succ]
      refine wpAnyH_take (i := 1) (oi := _) (v := ?vaq2x1) rfl (by kernel_rfl) (by kernel_rfl) (by kernel_rfl) (fun _ _ _ h => h) (Or.inl ⟨by rfl, ?hyaq2x1⟩) (by assumption) ?restaq2x1
      case hyaq2x1 => (intro w hSw; (try dsimp only at hSw); go_split_ands; go_simp; try (with_reducible rfl))
      try simp only [List.getElem_toArray, List.getElem_cons_zero, List.getElem_cons_succ, Act.put, List.setIfInBounds_toArray, List.set_cons_zero, List.set_cons_succ]
      refine wpAnyH_take (i := 2) (oi := _) (v := ?vaq2x2) rfl (by kernel_rfl) (by kernel_rfl) (by kernel_rfl) (fun _ _ _ h => h) (Or.inl ⟨by rfl, ?hyaq2x2⟩) (by assumption) ?restaq2x2
      case hyaq2x2 => (intro w hSw; (try dsimp only at hSw); go_split_ands; go_simp; try (with_reducible rfl))
      try simp only [List.getElem_toArray, List.getElem_cons_zero, List.getElem_cons_succ, Act.put, List.setIfInBounds_toArray, List.set_cons_zero, List.set_cons_succ]
      refine wpAnyH_take (i := 3) (oi := _) (v := ?vaq2x3) rfl (by kernel_rfl) (by kernel_rfl) (by kernel_rfl) (fun _ _ _ h => h) (Or.inl ⟨by rfl, ?hyaq2x3⟩) (by assumption) ?restaq2x3
      case hyaq2x3 => (intro w hSw; (try dsimp only at hSw); go_split_ands; go_simp; try (with_reducible rfl))
      try simp only [List.getElem_toArray, List.getElem_cons_zero, List.getElem_cons_succ, Act.put, List.setIfInBounds_toArray, List.set_cons_zero, List.set_cons_succ]
      refine wpAnyH_take (i := 6) (oi := _) (v := ?vaq2x6) rfl (by kernel_rfl) (by kernel_rfl) (by kernel_rfl) (fun _ _ _ h => h) (Or.inl ⟨by rfl, ?hyaq2x6⟩) (by assumption) ?restaq2x6
      case hyaq2x6 => (intro w hSw; (try dsimp only at hSw); go_split_ands; go_simp; try (with_reducible rfl))
      try simp only [List.getElem_toArray, List.getElem_cons_zero, List.getElem_cons_succ, Act.put, List.setIfInBounds_toArray, List.set_cons_zero, List.set_cons_succ]
      refine wpAnyH_take (i := 7) (oi := _) (v := ?vaq2x7) rfl (by kernel_rfl) (by kernel_rfl) (by kernel_rfl) (fun _ _ _ h => h) (Or.inl ⟨by rfl, ?hyaq2x7⟩) (by assumption) ?restaq2x7
      case hyaq2x7 => (intro w hSw; (try dsimp only at hSw); go_split_ands; go_simp; try (with_reducible rfl))
      try simp only [List.getElem_toArray, List.getElem_cons_zero, List.getElem_cons_succ, Act.put, List.setIfInBounds_toArray, List.set_cons_zero, List.set_cons_succ]
      refine wpAnyH_take (i := 8) (oi := _) (v := ?vaq2x8) rfl (by kernel_rfl) (by kernel_rfl) (by kernel_rfl) (fun _ _ _ h => h) (Or.inl ⟨by rfl, ?hyaq2x8⟩) (by assumption) ?restaq2x8
      case hyaq2x8 => (intro w hSw; (try dsimp only at hSw); go_split_ands; go_simp; try (with_reducible rfl))
      try simp only [List.getElem_toArray, List.getElem_cons_zero, List.getElem_cons_succ, Act.put, List.setIfInBounds_toArray, List.set_cons_zero, List.set_cons_succ]
      refine wpAnyH_take (i := 9) (oi := _) (v := ?vaq2x9) rfl (by kernel_rfl) (by kernel_rfl) (by kernel_rfl) (fun _ _ _ h => h) (Or.inl ⟨by rfl, ?hyaq2x9⟩) (by assumption) ?restaq2x9
      case hyaq2x9 => (intro w hSw; (try dsimp only at hSw); go_split_ands; go_simp; try (with_reducible rfl))
      try simp only [List.getElem_toArray, List.getElem_cons_zero, List.getElem_cons_succ, Act.put, List.setIfInBounds_toArray, List.set_cons_zero, List.set_cons_succ]
      refine wpAnyH_take (i := 10) (oi := _) (v := ?vaq2x10) rfl (by kernel_rfl) (by kernel_rfl) (by kernel_rfl) (fun _ _ _ h => h) (Or.inl ⟨by rfl, ?hyaq2x10⟩) (by assumption) ?restaq2x10
      case hyaq2x10 => (intro w hSw; (try dsimp only at hSw); go_split_ands; go_simp; try (with_reducible rfl))
      try simp only [List.getElem_toArray, List.getElem_cons_zero, List.getElem_cons_succ, Act.put, List.setIfInBounds_toArray, List.set_cons_zero, List.set_cons_succ]
      refine wpAnyH_take (i := 11) (oi := _) (v := ?vaq2x11) rfl (by kernel_rfl) (by kernel_rfl) (by kernel_rfl) (fun _ _ _ h => h) (Or.inl ⟨by rfl, ?hyaq2x11⟩) (by assumption) ?restaq2x11
      case hyaq2x11 => (intro w hSw; (try dsimp only at hSw); go_split_ands; go_simp; try (with_reducible rfl))
      try simp only [List.getElem_toArray, List.getElem_cons_zero, List.getElem_cons_succ, Act.put, List.setIfInBounds_toArray, List.set_cons_zero, List.set_cons_succ]
      refine wpAnyH_ready (rs := [4]) (by kernel_rfl) (by simp) ?_
      refine AllReadyH.cons (o := _) rfl (fun K hK => ?_) AllReadyH.nil
      go_simp
      have RD : Hid (Row w1.drew g1 25 m.cs) := R1
      have BD : Hid (Below g1 w w1.drew) := hid (B1.out.trans ⟨rfl, rfl, rfl, Nat.le_refl _, fun _ _ => rfl⟩)
      generalize w1.drew = w2 at *
      clear R1 B1
      refine (bit_any _ _ _).mono ?_
      rintro e w2 ⟨rfl, rfl⟩
      rw [HZZ.out]
      go_wp2_with fail
      refine hK.out _ _ ⟨(RD.out.cell 1).trans m.at1, (RD.out.cell 7).trans m.at7, (RD.out.cell 8).trans m.at8, RD.out⟩ (fun hHeld => ?_)
      clear hK K
      try simp only [List.getElem_toArray, List.getElem_cons_zero, List.getElem_cons_succ, Act.put, List.setIfInBounds_toArray, List.set_cons_zero, List.set_cons_succ]
      refine wpAnyH_take (i := 5) (oi := _) (v := ?vbq2x5) rfl (by kernel_rfl) (by kernel_rfl) (by kernel_rfl) (fun _ _ _ h => h) (Or.inl ⟨by rfl, ?hybq2x5⟩) (by assumption) ?restbq2x5
      case hybq2x5 => (intro w hSw; (try dsimp only at hSw); go_split_ands; go_simp; try (with_reducible rfl))
      try simp only [List.getElem_toArray, List.getElem_cons_zero, List.getElem_cons_succ, Act.put, List.setIfInBounds_toArray, List.set_cons_zero, List.set_cons_succ]
      refine wpAnyH_ready (rs := [12]) (by kernel_rfl) (by simp) ?_
      refine AllReadyH.cons (o := _) rfl (fun K hK => ?_) AllReadyH.nil
      go_simp
      have BA := hid (balloc (Below.refl w2.heap.size w2) (.cells #[.int .u8 m.i, .int .u8 zz, .int .u8 m.sq, .int .u8 m.st] 5))
      have R3 := hid (RD.out.below BA.out)
      have B3 : Hid (Below g1 w (w2.alloc (.cells #[.int .u8 m.i, .int .u8 zz, .int .u8 m.sq, .int .u8 m.st] 5))) := hid (BD.out.trans (BA.out.mono (by rw [← hg1]; exact BD.out.size)))
      have W3 : Hid ((w2.alloc (.cells #[.int .u8 m.i, .int .u8 zz, .int .u8 m.sq, .int .u8 m.st] 5)).ownsRow g1 5 1 (.slice (some ⟨w2.heap.size, 0, none⟩) 4 4) 4 (u8s [m.i, zz, m.sq, m.st])) := hid (own_mono (lit_own w2 #[.int .u8 m.i, .int .u8 zz, .int .u8 m.sq, .int .u8 m.st] 5 4 rfl (by decide)) (by have := BD.out.size; omega))
      generalize w2.alloc (.cells #[.int .u8 m.i, .int .u8 zz, .int .u8 m.sq, .int .u8 m.st] 5) = w3 at *
      generalize w2.heap.size = gb at *
      clear BA RD BD
      refine hK.out _ _ ⟨(R3.out.cell 1).trans m.at1, (R3.out.cell 7).trans m.at7, (R3.out.cell 8).trans m.at8, R3.out⟩ (fun hHeld => ?_)
      clear hK K
      try simp only [List.getElem_toArray, List.getElem_cons_zero, List.getElem_cons_succ, Act.put, List.setIfInBounds_toArray, List.set_cons_zero, List.set_cons_succ]
      refine wpAnyH_take (i := 13) (oi := _) (v := ?vcq2x13) rfl (by kernel_rfl) (by kernel_rfl) (by kernel_rfl) (fun _ _ _ h => h) (Or.inl ⟨by rfl, ?hycq2x13⟩) (by assumption) ?restcq2x13
      case hycq2x13 => (intro w hSw; (try dsimp only at hSw); go_split_ands; go_simp; try (with_reducible rfl))
      try simp only [List.getElem_toArray, List.getElem_cons_zero, List.getElem_cons_succ, Act.put, List.setIfInBounds_toArray, List.set_cons_zero, List.set_cons_succ]
      refine wpAnyH_done (by kernel_rfl) ?_ _
      go_wp2_with fail
      go_meet
      case rel => exact ⟨some ⟨gb, 0, none⟩, 4, by rw [HR.out]; rfl, hid (by rw [HR.out]; exact W3.out), R3, B3⟩
  case rest =>
    obtain ⟨a6, c6, rfl, W3, R3, B3⟩ := hcut
    clear PA PZ hq Z1 R1 B1 c0 HR0 HR1 HR2 HR3 HB1 HOc hk
    have hgc : g1 ≤ wc.heap.size := by have := B3.out.size; omega
    have HEE : Hid (eE m.p = if 1280 < (hdM m.p).length + (encsL (pos m.L)).length then 2 else 0) := HEE
    have HEL : Hid (eL m.p = if eE m.p = 0 then hdM m.p ++ encsL (pos m.L) else []) := HEL
    have HEl := hid (encsL_le (pos m.L))
    cases rb
    · have LA := hid (part_lies HA.out (R3.out.part.mvA HA.out))
      have hrl := HA.out.1
      have hhl : (rhd m.p).length ≤ 8 := HLn.out
      have HHr : Hid (hdM m.p = rhd m.p ++ m.ro) := HHr
      have HLH : Hid ((hdM m.p).length = (rhd m.p).length + 16) := by rw [Hid, HHr.out, List.length_append, hrl]
      go_upto_region 14 with (at_builtin; refine wpList_appBy rfl _ _ rfl rfl rfl W3.out LA.out ?c1 ?c2 ?_)
      case c1 => exact hgc
      case c2 => omega
      intro v4 w4 ho4 hg4
      rw [← HHr.out, ← HLH.out] at ho4
      obtain ⟨a4, k4, rfl⟩ := owns_len ho4
      have W4 := hid ho4
      have R4 := hid (R3.out.kept hg4 (fun e => own_row W3.out R3.out (by decide) e.symm))
      have B4 : Hid (Below g1 w w4) := hid (Below.grown B3.out hg4 (by omega) (fun j hj => (W3.out.lt j hj).1))
      have HHl : Hid ((hdM m.p).length ≤ 24) := by rw [Hid, HLH.out]; omega
      clear ho4 hg4 LA W3 R3 B3 HLH HHr hgc hrl hhl HLn
      have c27 := (R4.out.cell 27).trans (Mv.at27 HA.out)
      go_wp2_with fail
      refine (optRefEncodeAll_any m.oa m.on m.oc m.L _ (HM.out.o.below (by rw [hg1]; exact B4.out)) HWf.out hn).mono ?_
      rintro e w5 ⟨v5, rfl, ho5, hb5⟩
      obtain ⟨a5, k5, rfl, hl5, _⟩ := owns_lies ho5
      have W5 := hid (own_below W4.out hb5)
      have L5 := hid hl5
      have hgs := B4.out.size
      have hgs5 := hb5.size
      have B5 : Hid (Below g1 w w5) := hid (B4.out.trans (hb5.mono (by omega)))
      clear ho5 hb5 hl5 W4 R4 B4 c27
      have HHl2 := HHl.out
      have HEl2 := HEl.out
      generalize hdM m.p = HD at *
      generalize encsL (pos m.L) = EL at *
      go_wp2_with (at_builtin; refine wpList_appB rfl _ _ rfl rfl rfl W5.out L5.out ?c1 ?c2 ?_)
      case c1 => omega
      case c2 => omega
      intro v6 w6 ho6 hb6
      obtain ⟨a7, k7, rfl⟩ := owns_len ho6
      have W6 := hid ho6
      have B6 : Hid (Below g1 w w6) := hid (B5.out.trans hb6)
      clear ho6 hb6 W5 L5 B5
      by_cases hbig : 1280 < HD.length + EL.length
      · have hbig' : (1280 : Int) < ((HD.length + EL.length : Nat) : Int) := by omega
        have hE : Hid (eE m.p = 2) := by rw [Hid, HEE.out, if_pos hbig]
        have hL : Hid (eL m.p = []) := by rw [Hid, HEL.out, hE.out]; rfl
        clear hbig
        go_wp2_with fail
        go_ret2
        exact ⟨⟨.slice none 0 0, by rw [hE.out]; rfl, by rw [hL.out]; exact World.ownsRow_nil _ _ _ _⟩, by first | exact B6.out | (rw [hg1]; exact B6.out)⟩
      · have hbig' : ¬ (1280 : Int) < ((HD.length + EL.length : Nat) : Int) := by omega
        have hE : Hid (eE m.p = 0) := by rw [Hid, HEE.out, if_neg hbig]
        have hL : Hid (eL m.p = HD ++ EL) := by rw [Hid, HEL.out, hE.out]; rfl
        clear hbig
        go_wp2_with fail
        go_ret2
        exact ⟨⟨.slice a7 (HD.length + EL.length) k7, by rw [hE.out]; rfl, by rw [hL.out, List.length_append]; exact W6⟩, by first | exact B6.out | (rw [hg1]; exact B6.out)⟩
    · have HHr : Hid (hdM m.p = rhd m.p) := by rw [Hid, HHr.out]; simp
      have HHl : Hid ((hdM m.p).length ≤ 24) := by rw [Hid, HHr.out]; have := HLn.out; omega
      have W4 : Hid (wc.ownsRow g1 5 1 (.slice a6 (hdM m.p).length c6) (hdM m.p).length (u8s (hdM m.p))) := by rw [HHr.out]; exact W3
      have R4 := R3
      have B4 := B3
      rw [← HHr.out]
      clear W3 R3 B3 HHr HLn hgc
      have c27 := (R4.out.cell 27).trans (Mv.at27 HA.out)
      go_wp2_with fail
      refine (optRefEncodeAll_any m.oa m.on m.oc m.L _ (HM.out.o.below (by rw [hg1]; exact B4.out)) HWf.out hn).mono ?_
      rintro e w5 ⟨v5, rfl, ho5, hb5⟩
      obtain ⟨a5, k5, rfl, hl5, _⟩ := owns_lies ho5
      have W5 := hid (own_below W4.out hb5)
      have L5 := hid hl5
      have hgs := B4.out.size
      have hgs5 := hb5.size
      have B5 : Hid (Below g1 w w5) := hid (B4.out.trans (hb5.mono (by omega)))
      clear ho5 hb5 hl5 W4 R4 B4 c27
      have HHl2 := HHl.out
      have HEl2 := HEl.out
      generalize hdM m.p = HD at *
      generalize encsL (pos m.L) = EL at *
      go_wp2_with (at_builtin; refine wpList_appB rfl _ _ rfl rfl rfl W5.out L5.out ?c1 ?c2 ?_)
      case c1 => omega
      case c2 => omega
      intro v6 w6 ho6 hb6
      obtain ⟨a7, k7, rfl⟩ := owns_len ho6
      have W6 := hid ho6
      have B6 : Hid (Below g1 w w6) := hid (B5.out.trans hb6)
      clear ho6 hb6 W5 L5 B5
      by_cases hbig : 1280 < HD.length + EL.length
      · have hbig' : (1280 : Int) < ((HD.length + EL.length : Nat) : Int) := by omega
        have hE : Hid (eE m.p = 2) := by rw [Hid, HEE.out, if_pos hbig]
        have hL : Hid (eL m.p = []) := by rw [Hid, HEL.out, hE.out]; rfl
        clear hbig
        go_wp2_with fail
        go_ret2
        exact ⟨⟨.slice none 0 0, by rw [hE.out]; rfl, by rw [hL.out]; exact World.ownsRow_nil _ _ _ _⟩, by first | exact B6.out | (rw [hg1]; exact B6.out)⟩
      · have hbig' : ¬ (1280 : Int) < ((HD.length + EL.length : Nat) : Int) := by omega
        have hE : Hid (eE m.p = 0) := by rw [Hid, HEE.out, if_neg hbig]
        have hL : Hid (eL m.p = HD ++ EL) := by rw [Hid, HEL.out, hE.out]; rfl
        clear hbig
        go_wp2_with fail
        go_ret2
        exact ⟨⟨.slice a7 (HD.length + EL.length) k7, by rw [hE.out]; rfl, by rw [hL.out, List.length_append]; exact W6⟩, by first | exact B6.out | (rw [hg1]; exact B6.out)⟩
end Go.Proofs.YtbfjkhafdkhhmaaDoor
