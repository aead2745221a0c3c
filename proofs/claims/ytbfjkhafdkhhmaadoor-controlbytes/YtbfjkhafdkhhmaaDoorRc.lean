/- The document's answer: Check. -/
import Derived.Test.YtbfjkhafdkhhmaaDoorM16
import Derived.Test.YtbfjkhafdkhhmaaDoorM14
import Derived.Test.YtbfjkhafdkhhmaaDoorM9
import Derived.Test.YtbfjkhafdkhhmaaDoorM8
namespace Go.Proofs.YtbfjkhafdkhhmaaDoor
open Go.ChangeShapes Go.WideShapes Go.ChangeAt Go.RowKit Go.Deep
set_option linter.unusedVariables false
set_option linter.unusedSimpArgs false

/-- What the document's Check comes to. -/
theorem chk_ref (m : Pm) : chkM m = if codB m.c = true then (if morM m = true then 3 else if rngB m = true then (if (m.c == 1 && m.ro == zeros) = true then 1 else if allM m.c m.o = true then encE m.o else 6) else 1) else 6 := by
  unfold chkM chk0M
  by_cases hc : codB m.c = true
  · rw [if_pos hc, if_pos hc]
    by_cases hf : frmV m.c.toNat m.vs = true
    · have h1 := frm_mor m hc
      rw [hf] at h1
      have h2 : morM m = false := by simpa using h1.symm
      have h3 := wit_rng m hc hf
      rw [if_pos hf, h3, h2]
      cases rngB m <;> cases (m.c == 1 && m.ro == zeros) <;> cases allM m.c m.o <;> simp
    · have h1 := frm_mor m hc
      have h0 : frmV m.c.toNat m.vs = false := by simpa using hf
      rw [h0] at h1
      have h2 : morM m = true := by simpa using h1.symm
      rw [h0, h2]; simp
  · have h0 : codB m.c = false := by simpa using hc
    rw [h0]; simp
theorem range_all (p : Nat → Bool) (i : Nat) : (List.range (i + 1)).all p = ((List.range i).all p && p i) := by
  rw [List.range_succ, List.all_append]; simp
theorem range_no (p : Nat → Bool) (n i : Nat) (h : i < n) (hp : p i = false) : (List.range n).all p = false := by
  rw [List.all_eq_false]; exact ⟨i, by simpa using h, by simp [hp]⟩
def rokB (m : Pm) (i : Nat) : Bool := decide (0 ≤ (rng m).getD i 0) && decide ((rng m).getD i 0 ≤ mst.getD i 0)
theorem rngB_eq (m : Pm) : rngB m = (List.range 8).all (rokB m) := rfl
theorem allM_succ (c : Int) (P : List Po) (j : Nat) (h : j < P.length) : allM c (P.take (j + 1)) = (allM c (P.take j) && mayB c (P.getD j Po.none).k) := all_snoc P Po.none j h _
theorem allMs_no (c : Int) (P : List Po) (j : Nat) (h : j < P.length) (hp : mayB c (P.getD j Po.none).k = false) : allM c P = false := all_no P Po.none j h _ hp
def zer8 : List Int := List.replicate 8 0
theorem zv8 : (#[.int .i64 0, .int .i64 0, .int .i64 0, .int .i64 0, .int .i64 0, .int .i64 0, .int .i64 0, .int .i64 0] : Array Value) = nArr zer8 := rfl
theorem size63 : (Tryd.prog.info? 63).map (·.size) = some 8 := by kernel_rfl
theorem built63 (x0 x1 x2 x3 x4 x5 x6 x7 : Int) : Tryd.prog.built 63 [(0, .int .i64 x0), (1, .int .i64 x1), (2, .int .i64 x2), (3, .int .i64 x3), (4, .int .i64 x4), (5, .int .i64 x5), (6, .int .i64 x6), (7, .int .i64 x7)] = some (nArr [x0, x1, x2, x3, x4, x5, x6, x7]) := by kernel_rfl
theorem bd63 {ops : Array Oper} {rest : List Oper} {o : Oper} {a : Act} {w : World} {Q : Exit → Act → World → Prop} (y0 y1 y2 y3 y4 y5 y6 y7 : Operand) (ho : o.op = .build 63 #[(0, y0), (1, y1), (2, y2), (3, y3), (4, y4), (5, y5), (6, y6), (7, y7)]) (hg : o.guard = none)
    (x0 x1 x2 x3 x4 x5 x6 x7 : Int) (h0 : a.eval y0 = .int .i64 x0) (h1 : a.eval y1 = .int .i64 x1) (h2 : a.eval y2 = .int .i64 x2) (h3 : a.eval y3 = .int .i64 x3) (h4 : a.eval y4 = .int .i64 x4) (h5 : a.eval y5 = .int .i64 x5) (h6 : a.eval y6 = .int .i64 x6) (h7 : a.eval y7 = .int .i64 x7)
    (hn : wpList Tryd.prog ops Q rest (a.put o.dst (.agg (nArr [x0, x1, x2, x3, x4, x5, x6, x7]))) w) : wpList Tryd.prog ops Q (o :: rest) a w :=
  wp_bd 63 _ ho hg _ (by simp only [List.map_toArray, List.map_cons, List.map_nil, h0, h1, h2, h3, h4, h5, h6, h7]; exact built63 x0 x1 x2 x3 x4 x5 x6 x7) hn
theorem st63 {ops : Array Oper} {rest : List Oper} {o : Oper} {a : Act} {w : World} {Q : Exit → Act → World → Prop} (x y : Operand) (ho : o.op = .store 63 x y) (hgd : o.guard = none) (g : Nat) (l : List Int) (hl : l.length = 8) (hx : a.eval x = .pointer (some ⟨g, 0, none⟩)) (hy : a.eval y = .agg (nArr l)) (t' : TypeId) (old : List Int) (hlo : old.length = 8) (hg : Row w g t' (nArr old))
    (hn : wpList Tryd.prog ops Q rest (a.put o.dst undef) (w.setRow g (nArr l))) : wpList Tryd.prog ops Q (o :: rest) a w :=
  wp_st 63 x y ho hgd g (nArr l) hx hy (by rw [nArr_size, hl]; exact size63) (nArr_one _) t' (nArr old) (by rw [nArr_size, nArr_size, hl, hlo]) hg hn
theorem lay63_new (w : World) (v : List Int) : Row ((w.alloc (.cells (nArr zer8) 63)).setRow w.heap.size (nArr v)) w.heap.size 63 (nArr v) := (Row.new w 63 _).setRow _
theorem lay63_below (w : World) (v : List Int) : Below w.heap.size w ((w.alloc (.cells (nArr zer8) 63)).setRow w.heap.size (nArr v)) := below_setRow' (balloc (Below.refl w.heap.size w) _) (Nat.le_refl _) _
set_option maxRecDepth 100000 in
set_option maxHeartbeats 6400000 in
theorem refCheckM_any (m : Mv) (w : World) (hm : m.ok w) (hwf : Wfo m.L) (hn : m.on ≤ 1000) : Calls Tryd.prog 7 #[.agg m.cs] w fun e w' => e = .returned (.int .i64 (chkM m.p)) ∧ Below w.heap.size w w' := by
  have HM := hid hm
  have HWf := hid hwf
  have HA := hid hm.ro
  have R1 := hid (Row.new w 25 m.cs)
  have B1 := hid (balloc (Below.refl w.heap.size w) (.cells m.cs 25))
  have HC := hid (chk_ref m.p)
  clear hm hwf
  go_enter Tryd.func7, Tryd.ntmps7
  go_upto_region 1 with fail
  generalize w.alloc (.cells m.cs 25) = w1 at *
  generalize hg1 : w.heap.size = g1 at *
  have c0 := (R1.out.cell 0).trans m.at0
  by_cases h1 : m.c < 0
  · have e1 : decide (m.c < 0) = true := decide_eq_true h1
    have hcod : codB m.p.c = false := by show codB m.c = _; simp [codB]; omega
    rw [hcod, if_neg (by decide)] at HC
    clear h1
    go_wp2_with fail
    go_ret
    exact ⟨ret_int HC.out.symm, by rw [hg1]; exact B1.out⟩
  · have e1 : decide (m.c < 0) = false := decide_eq_false h1
    by_cases h2 : 3 < m.c
    · have e2 : decide (3 < m.c) = true := decide_eq_true h2
      have hcod : codB m.p.c = false := by show codB m.c = _; simp [codB]; omega
      rw [hcod, if_neg (by decide)] at HC
      clear h1 h2
      go_wp2_with fail
      go_ret
      exact ⟨ret_int HC.out.symm, by rw [hg1]; exact B1.out⟩
    · have e2 : decide (3 < m.c) = false := decide_eq_false h2
      have hcod : codB m.p.c = true := by show codB m.c = _; simp [codB]; omega
      rw [hcod, if_pos rfl] at HC
      clear h1 h2
      go_wp2_with (refine ldM m25 _ rfl rfl _ _ rfl m HA.out R1.out.part ?_)
      refine (refMore_any m _ HA.out).mono ?_
      rintro e w2 ⟨rfl, hb2⟩
      have B1' : Below g1 w w1 := B1.out
      have R2 := hid (R1.out.below hb2)
      have B2 : Hid (Below w.heap.size w w2) := hid (bthen (by rw [hg1]; exact B1') hb2)
      clear hb2 R1 B1 B1' c0 hcod e1 e2
      cases hmo : morM m.p
      · rw [hmo, if_neg (by decide)] at HC
        have hz8 := zv8
        have c0 := (R2.out.cell 0).trans m.at0
        have c1 := (R2.out.cell 1).trans m.at1
        have c2 := (R2.out.cell 2).trans m.at2
        have c3 := (R2.out.cell 3).trans m.at3
        have c4 := (R2.out.cell 4).trans m.at4
        have c5 := (R2.out.cell 5).trans m.at5
        have c6 := (R2.out.cell 6).trans m.at6
        have c7 := (R2.out.cell 7).trans m.at7
        have c8 := (R2.out.cell 8).trans m.at8
        have X3 := hid (lay63_new w2 (rng m.p))
        have B3 := hid (bthen B2.out (lay63_below w2 (rng m.p)))
        have R3 := hid (R2.out.below (lay63_below w2 (rng m.p)))
        go_upto_region 6 with (first | ((with_reducible refine wpl_id ?_); refine bd63 _ _ _ _ _ _ _ _ rfl rfl m.i m.v m.d m.sq m.st m.r m.mo m.pf rfl rfl rfl rfl rfl rfl rfl rfl ?_) | ((with_reducible refine wpl_id ?_); refine st63 _ _ rfl rfl w2.heap.size (rng m.p) rfl rfl rfl 63 zer8 rfl (Row.new w2 63 _) ?_))
        generalize (w2.alloc (.cells (nArr zer8) 63)).setRow w2.heap.size (nArr (rng m.p)) = w3 at *
        generalize w2.heap.size = gr at *
        clear c0 c1 c2 c3 c4 c5 c6 c7 c8 R2 B2
        have Y4 := hid (lay63_new w3 mst)
        have B4 := hid (bthen B3.out (lay63_below w3 mst))
        have R4 := hid (R3.out.below (lay63_below w3 mst))
        have X4 := hid (X3.out.below (lay63_below w3 mst))
        go_upto_region 7 with (first | ((with_reducible refine wpl_id ?_); refine bd63 _ _ _ _ _ _ _ _ rfl rfl 255 255 255 255 255 65535 7 7 rfl rfl rfl rfl rfl rfl rfl rfl ?_) | ((with_reducible refine wpl_id ?_); refine st63 _ _ rfl rfl w3.heap.size mst rfl rfl rfl 63 zer8 rfl (Row.new w3 63 _) ?_))
        generalize (w3.alloc (.cells (nArr zer8) 63)).setRow w3.heap.size (nArr mst) = w4 at *
        generalize w3.heap.size = gm at *
        clear R3 X3 B3 hz8
        have hz := zarr
        have BA := hid (balloc (Below.refl w4.heap.size w4) (.cells (arr zeros) 22))
        have Z5 := hid (Row.new w4 22 (arr zeros))
        have B5 := hid (bthen B4.out BA.out)
        have R5 := hid (R4.out.below BA.out)
        have X5 := hid (X4.out.below BA.out)
        have Y5 := hid (Y4.out.below BA.out)
        go_upto_region 8 with fail
        generalize w4.alloc (.cells (arr zeros) 22) = w5 at *
        generalize w4.heap.size = gz at *
        clear hz BA R4 X4 Y4 B4
        have HRB := hid (rngB_eq m.p)
        have hlr : (rng m.p).length = 8 := rfl
        have hlm : mst.length = 8 := rfl
        go_wp2_with fail
        go_loopw [6] (fun iv wr => ∃ i : Nat, i ≤ 8 ∧ iv = .int .i64 i ∧ Hid ((List.range i).all (rokB m.p) = true) ∧ Hid (Below w5.heap.size w5 wr)) (fun iv _ => 8 - (intOf iv).toNat)
        case atStart => exact ⟨0, Nat.zero_le _, rfl, hid rfl, hid (Below.refl _ _)⟩
        case round =>
          obtain ⟨i, hi, rfl, hall, hb⟩ := hrel
          by_cases hlt : i < 8
          · have hlt' : (i : Int) < 8 := by omega
            have k1 := ((X5.out.below hb.out).cell i).trans (nArr_at (rng m.p) i (by rw [hlr]; exact hlt))
            have k2 := ((Y5.out.below hb.out).cell i).trans (nArr_at mst i (by rw [hlm]; exact hlt))
            have HRK : Hid (rokB m.p i = (decide (0 ≤ (rng m.p).getD i 0) && decide ((rng m.p).getD i 0 ≤ mst.getD i 0))) := rfl
            have HR1 := hid (range_all (rokB m.p) i)
            have HRN := hid (range_no (rokB m.p) 8 i hlt)
            generalize (rng m.p).getD i 0 = x at *
            generalize mst.getD i 0 = y at *
            have hbd : Hid (∀ q, Below w5.heap.size w5 (wr.drewN q)) := hid (fun q => bdrew hb.out q)
            by_cases hneg : x < 0
            · have e1 : decide (x < 0) = true := decide_eq_true hneg
              have hno := hid (HRN.out (by rw [HRK.out, decide_eq_false (by omega)]; rfl))
              have HC2 : Hid (chkM m.p = 1) := by rw [Hid, HC.out, HRB.out, hno.out]; rfl
              clear hneg
              go_wp2_with fail
              go_quiet (fail)
              go_wp2_with fail
              go_ret
              exact ⟨ret_int HC2.out.symm, bthen B5.out (hbd.out _)⟩
            · have e1 : decide (x < 0) = false := decide_eq_false hneg
              by_cases hgt : y < x
              · have e2 : decide (y < x) = true := decide_eq_true hgt
                have hno := hid (HRN.out (by rw [HRK.out, decide_eq_false (show ¬ x ≤ y by omega), Bool.and_false]))
                have HC2 : Hid (chkM m.p = 1) := by rw [Hid, HC.out, HRB.out, hno.out]; rfl
                clear hneg hgt
                go_wp2_with fail
                go_quiet (fail)
                go_wp2_with fail
                go_ret
                exact ⟨ret_int HC2.out.symm, bthen B5.out (hbd.out _)⟩
              · have e2 : decide (y < x) = false := decide_eq_false hgt
                have hyes : Hid ((List.range (i + 1)).all (rokB m.p) = true) := by rw [Hid, HR1.out, hall.out, HRK.out, decide_eq_true (show 0 ≤ x by omega), decide_eq_true (show x ≤ y by omega)]; rfl
                clear hneg hgt
                go_wp2_with fail
                go_quiet (fail)
                go_wp2_with fail
                go_roundw
                case rel => exact ⟨i + 1, by omega, by go_num, hyes, hid (hbd.out _)⟩
                case measure => simp [intOf]; omega
          · rw [show i = 8 by omega] at hall
            rw [HRB.out, hall.out, if_pos rfl] at HC
            have HCC : Hid (chkM m.p = if (m.c == 1 && m.ro == zeros) = true then 1 else if allM m.c (pos m.L) = true then encE (pos m.L) else 6) := HC
            have R6 := hid (R5.out.below hb.out)
            have B6 := hid (bthen B5.out hb.out)
            have PA := hid (R6.out.part.mvA HA.out)
            have PZ := hid (Z5.out.below hb.out).part
            have hq := eq36 m.ro zeros HA.out.1 adr_zeros.1
            clear R5 Z5 X5 Y5 B5 hb hall HC HRB
            have c0 := (R6.out.cell 0).trans m.at0
            have c27 := (R6.out.cell 27).trans (Mv.at27 HA.out)
            have HO0 := hid (HM.out.o.below B6.out)
            generalize (m.ro == zeros) = rb at *
            generalize wr = w6 at *
            cases he : (m.c == 1)
            · have HCC : Hid (chkM m.p = if allM m.c (pos m.L) = true then encE (pos m.L) else 6) := by rw [Hid, HCC.out, he]; rfl
              go_wp2_with (with_reducible refine wpl_id ?_; first | (refine ld36 _ rfl rfl _ _ rfl m.ro HA.out PA.out ?_) | (refine ld36 _ rfl rfl _ _ rfl zeros adr_zeros PZ.out ?_))
              go_loopw [7] (fun iv wr => ∃ j : Nat, j ≤ m.on ∧ iv = .int .i64 j ∧ Hid (allM m.c ((pos m.L).take j) = true) ∧ Hid (Below w6.heap.size w6 wr)) (fun iv _ => m.on - (intOf iv).toNat)
              case atStart => exact ⟨0, Nat.zero_le _, rfl, hid rfl, hid (Below.refl _ _)⟩
              case round =>
                obtain ⟨j, hj, rfl, hall, HB⟩ := hrel
                clear c0 c27
                have RX := hid (R6.out.below HB.out)
                have c0 := (RX.out.cell 0).trans m.at0
                have c27 := (RX.out.cell 27).trans (Mv.at27 HA.out)
                by_cases hlt : j < m.on
                · have hlt' : (j : Int) < (m.on : Int) := by omega
                  obtain ⟨b1, off1, ha, hp⟩ := (HO0.out.below HB.out).cell j hlt
                  have hll := HO0.out.len
                  have HS := hid (allM_succ m.c (pos m.L) j (by rw [pos_len, hll]; exact hlt))
                  have HN := hid (allMs_no m.c (pos m.L) j (by rw [pos_len, hll]; exact hlt))
                  rw [pos_at m.L j (by rw [hll]; exact hlt)] at HS HN
                  generalize m.L.getD j Ov.zero = o at *
                  have HS : Hid (allM m.c ((pos m.L).take (j + 1)) = (allM m.c ((pos m.L).take j) && mayB m.c o.k)) := HS
                  have HN : Hid (mayB m.c o.k = false → allM m.c (pos m.L) = false) := HN
                  rw [ha] at c27
                  have ck : wr.cell? ⟨b1, off1 + j * 19, none⟩ = some (.int .i64 o.k) := hp 0 _ o.at0
                  clear hp hll
                  cases hmy : mayB m.c o.k
                  · have HC2 : Hid (chkM m.p = 6) := by rw [Hid, HCC.out, HN.out hmy]; rfl
                    go_wp2_with fail
                    refine wp_region_held_drew (S := fun w' => w'.cell? ⟨g1, 0, none⟩ = some (.int .i64 m.c) ∧ w'.cell? ⟨g1, 27, none⟩ = some (.slice (some ⟨b1, off1, none⟩) m.on m.oc) ∧ w'.cell? ⟨b1, off1 + j * 19, none⟩ = some (.int .i64 o.k)) (by kernel_rfl) ?_ (fun hHeld => ?_)
                    · exact ⟨c0, c27, ck⟩
                    have bd : Below wr.heap.size wr wr.drew := bdrew (Below.refl _ _) 1
                    have BR := hid (bthen HB.out bd)
                    clear bd
                    refine wpAnyH_take (i := 0) (oi := _) (v := ?vaq0x0) rfl (by kernel_rfl) (by kernel_rfl) (by kernel_rfl) (fun _ _ _ h => h) (Or.inl ⟨by rfl, ?hyaq0x0⟩) (by assumption) ?restaq0x0
                    case hyaq0x0 => (intro w hSw; (try dsimp only at hSw); go_split_ands; go_simp; try (with_reducible rfl))
                    try simp only [List.getElem_toArray, List.getElem_cons_zero, List.getElem_cons_succ, Act.put, List.setIfInBounds_toArray, List.set_cons_zero, List.set_cons_succ]
                    refine wpAnyH_take (i := 1) (oi := _) (v := ?vaq0x1) rfl (by kernel_rfl) (by kernel_rfl) (by kernel_rfl) (fun _ _ _ h => h) (Or.inl ⟨by rfl, ?hyaq0x1⟩) (by assumption) ?restaq0x1
                    case hyaq0x1 => (intro w hSw; (try dsimp only at hSw); go_split_ands; go_simp; try (with_reducible rfl))
                    try simp only [List.getElem_toArray, List.getElem_cons_zero, List.getElem_cons_succ, Act.put, List.setIfInBounds_toArray, List.set_cons_zero, List.set_cons_succ]
                    refine wpAnyH_take (i := 2) (oi := _) (v := ?vaq0x2) rfl (by kernel_rfl) (by kernel_rfl) (by kernel_rfl) (fun _ _ _ h => h) (Or.inl ⟨by rfl, ?hyaq0x2⟩) (by assumption) ?restaq0x2
                    case hyaq0x2 => (intro w hSw; (try dsimp only at hSw); go_split_ands; go_simp; try (with_reducible rfl))
                    try simp only [List.getElem_toArray, List.getElem_cons_zero, List.getElem_cons_succ, Act.put, List.setIfInBounds_toArray, List.set_cons_zero, List.set_cons_succ]
                    refine wpAnyH_take (i := 3) (oi := _) (v := ?vaq0x3) rfl (by kernel_rfl) (by kernel_rfl) (by kernel_rfl) (fun _ _ _ h => h) (Or.inl ⟨by rfl, ?hyaq0x3⟩) (by assumption) ?restaq0x3
                    case hyaq0x3 => (intro w hSw; (try dsimp only at hSw); go_split_ands; go_simp; try (with_reducible rfl))
                    try simp only [List.getElem_toArray, List.getElem_cons_zero, List.getElem_cons_succ, Act.put, List.setIfInBounds_toArray, List.set_cons_zero, List.set_cons_succ]
                    refine wpAnyH_take (i := 4) (oi := _) (v := ?vaq0x4) rfl (by kernel_rfl) (by kernel_rfl) (by kernel_rfl) (fun _ _ _ h => h) (Or.inl ⟨by rfl, ?hyaq0x4⟩) (by assumption) ?restaq0x4
                    case hyaq0x4 => (intro w hSw; (try dsimp only at hSw); go_split_ands; go_simp; try (with_reducible rfl))
                    try simp only [List.getElem_toArray, List.getElem_cons_zero, List.getElem_cons_succ, Act.put, List.setIfInBounds_toArray, List.set_cons_zero, List.set_cons_succ]
                    refine wpAnyH_take (i := 5) (oi := _) (v := ?vaq0x5) rfl (by kernel_rfl) (by kernel_rfl) (by kernel_rfl) (fun _ _ _ h => h) (Or.inl ⟨by rfl, ?hyaq0x5⟩) (by assumption) ?restaq0x5
                    case hyaq0x5 => (intro w hSw; (try dsimp only at hSw); go_split_ands; go_simp; try (with_reducible rfl))
                    try simp only [List.getElem_toArray, List.getElem_cons_zero, List.getElem_cons_succ, Act.put, List.setIfInBounds_toArray, List.set_cons_zero, List.set_cons_succ]
                    refine wpAnyH_take (i := 6) (oi := _) (v := ?vaq0x6) rfl (by kernel_rfl) (by kernel_rfl) (by kernel_rfl) (fun _ _ _ h => h) (Or.inl ⟨by rfl, ?hyaq0x6⟩) (by assumption) ?restaq0x6
                    case hyaq0x6 => (intro w hSw; (try dsimp only at hSw); go_split_ands; go_simp; try (with_reducible rfl))
                    try simp only [List.getElem_toArray, List.getElem_cons_zero, List.getElem_cons_succ, Act.put, List.setIfInBounds_toArray, List.set_cons_zero, List.set_cons_succ]
                    refine wpAnyH_take (i := 7) (oi := _) (v := ?vaq0x7) rfl (by kernel_rfl) (by kernel_rfl) (by kernel_rfl) (fun _ _ _ h => h) (Or.inl ⟨by rfl, ?hyaq0x7⟩) (by assumption) ?restaq0x7
                    case hyaq0x7 => (intro w hSw; (try dsimp only at hSw); go_split_ands; go_simp; try (with_reducible rfl))
                    try simp only [List.getElem_toArray, List.getElem_cons_zero, List.getElem_cons_succ, Act.put, List.setIfInBounds_toArray, List.set_cons_zero, List.set_cons_succ]
                    refine wpAnyH_ready (rs := [8]) (by kernel_rfl) (by simp) ?_
                    refine AllReadyH.cons (o := _) rfl (fun K hK => ?_) AllReadyH.nil
                    go_simp
                    refine (refMay_any m.c o.k _).mono ?_
                    rintro e w8 ⟨rfl, hb8⟩
                    have d0 := (hb8.cell (p := ⟨g1, 0, none⟩) (World.block_lt_of_cell? wr.drew _ hHeld.1)).trans hHeld.1
                    have d27 := (hb8.cell (p := ⟨g1, 27, none⟩) (World.block_lt_of_cell? wr.drew _ hHeld.2.1)).trans hHeld.2.1
                    have dk := (hb8.cell (p := ⟨b1, off1 + j * 19, none⟩) (World.block_lt_of_cell? wr.drew _ hHeld.2.2)).trans hHeld.2.2
                    have B8 := hid (bthen BR.out hb8)
                    clear hb8
                    rw [hmy]
                    go_wp2_with fail
                    refine hK.out _ _ ⟨d0, d27, dk⟩ (fun hHeld => ?_)
                    clear hK K
                    try simp only [List.getElem_toArray, List.getElem_cons_zero, List.getElem_cons_succ, Act.put, List.setIfInBounds_toArray, List.set_cons_zero, List.set_cons_succ]
                    refine wpAnyH_take (i := 9) (oi := _) (v := ?vbq0x9) rfl (by kernel_rfl) (by kernel_rfl) (by kernel_rfl) (fun _ _ _ h => h) (Or.inl ⟨by rfl, ?hybq0x9⟩) (by assumption) ?restbq0x9
                    case hybq0x9 => (intro w hSw; (try dsimp only at hSw); go_split_ands; go_simp; try (with_reducible rfl))
                    try simp only [List.getElem_toArray, List.getElem_cons_zero, List.getElem_cons_succ, Act.put, List.setIfInBounds_toArray, List.set_cons_zero, List.set_cons_succ]
                    refine wpAnyH_done (by kernel_rfl) ?_ _
                    go_wp2_with fail
                    go_ret
                    exact ⟨ret_int HC2.out.symm, bthen B6.out B8.out⟩
                  · have HY : Hid (allM m.c ((pos m.L).take (j + 1)) = true) := by rw [Hid, HS.out, hall.out, hmy]; rfl
                    go_wp2_with fail
                    refine wp_region_held_drew (S := fun w' => w'.cell? ⟨g1, 0, none⟩ = some (.int .i64 m.c) ∧ w'.cell? ⟨g1, 27, none⟩ = some (.slice (some ⟨b1, off1, none⟩) m.on m.oc) ∧ w'.cell? ⟨b1, off1 + j * 19, none⟩ = some (.int .i64 o.k)) (by kernel_rfl) ?_ (fun hHeld => ?_)
                    · exact ⟨c0, c27, ck⟩
                    have bd : Below wr.heap.size wr wr.drew := bdrew (Below.refl _ _) 1
                    have BR := hid (bthen HB.out bd)
                    clear bd
                    refine wpAnyH_take (i := 0) (oi := _) (v := ?vaq1x0) rfl (by kernel_rfl) (by kernel_rfl) (by kernel_rfl) (fun _ _ _ h => h) (Or.inl ⟨by rfl, ?hyaq1x0⟩) (by assumption) ?restaq1x0
                    case hyaq1x0 => (intro w hSw; (try dsimp only at hSw); go_split_ands; go_simp; try (with_reducible rfl))
                    try simp only [List.getElem_toArray, List.getElem_cons_zero, List.getElem_cons_succ, Act.put, List.setIfInBounds_toArray, List.set_cons_zero, List.set_cons_succ]
                    refine wpAnyH_take (i := 1) (oi := _) (v := ?vaq1x1) rfl (by kernel_rfl) (by kernel_rfl) (by kernel_rfl) (fun _ _ _ h => h) (Or.inl ⟨by rfl, ?hyaq1x1⟩) (by assumption) ?restaq1x1
                    case hyaq1x1 => (intro w hSw; (try dsimp only at hSw); go_split_ands; go_simp; try (with_reducible rfl))
                    try simp only [List.getElem_toArray, List.getElem_cons_zero, List.getElem_cons_succ, Act.put, List.setIfInBounds_toArray, List.set_cons_zero, List.set_cons_succ]
                    refine wpAnyH_take (i := 2) (oi := _) (v := ?vaq1x2) rfl (by kernel_rfl) (by kernel_rfl) (by kernel_rfl) (fun _ _ _ h => h) (Or.inl ⟨by rfl, ?hyaq1x2⟩) (by assumption) ?restaq1x2
                    case hyaq1x2 => (intro w hSw; (try dsimp only at hSw); go_split_ands; go_simp; try (with_reducible rfl))
                    try simp only [List.getElem_toArray, List.getElem_cons_zero, List.getElem_cons_succ, Act.put, List.setIfInBounds_toArray, List.set_cons_zero, List.set_cons_succ]
                    refine wpAnyH_take (i := 3) (oi := _) (v := ?vaq1x3) rfl (by kernel_rfl) (by kernel_rfl) (by kernel_rfl) (fun _ _ _ h => h) (Or.inl ⟨by rfl, ?hyaq1x3⟩) (by assumption) ?restaq1x3
                    case hyaq1x3 => (intro w hSw; (try dsimp only at hSw); go_split_ands; go_simp; try (with_reducible rfl))
                    try simp only [List.getElem_toArray, List.getElem_cons_zero, List.getElem_cons_succ, Act.put, List.setIfInBounds_toArray, List.set_cons_zero, List.set_cons_succ]
                    refine wpAnyH_take (i := 4) (oi := _) (v := ?vaq1x4) rfl (by kernel_rfl) (by kernel_rfl) (by kernel_rfl) (fun _ _ _ h => h) (Or.inl ⟨by rfl, ?hyaq1x4⟩) (by assumption) ?restaq1x4
                    case hyaq1x4 => (intro w hSw; (try dsimp only at hSw); go_split_ands; go_simp; try (with_reducible rfl))
                    try simp only [List.getElem_toArray, List.getElem_cons_zero, List.getElem_cons_succ, Act.put, List.setIfInBounds_toArray, List.set_cons_zero, List.set_cons_succ]
                    refine wpAnyH_take (i := 5) (oi := _) (v := ?vaq1x5) rfl (by kernel_rfl) (by kernel_rfl) (by kernel_rfl) (fun _ _ _ h => h) (Or.inl ⟨by rfl, ?hyaq1x5⟩) (by assumption) ?restaq1x5
                    case hyaq1x5 => (intro w hSw; (try dsimp only at hSw); go_split_ands; go_simp; try (with_reducible rfl))
                    try simp only [List.getElem_toArray, List.getElem_cons_zero, List.getElem_cons_succ, Act.put, List.setIfInBounds_toArray, List.set_cons_zero, List.set_cons_succ]
                    refine wpAnyH_take (i := 6) (oi := _) (v := ?vaq1x6) rfl (by kernel_rfl) (by kernel_rfl) (by kernel_rfl) (fun _ _ _ h => h) (Or.inl ⟨by rfl, ?hyaq1x6⟩) (by assumption) ?restaq1x6
                    case hyaq1x6 => (intro w hSw; (try dsimp only at hSw); go_split_ands; go_simp; try (with_reducible rfl))
                    try simp only [List.getElem_toArray, List.getElem_cons_zero, List.getElem_cons_succ, Act.put, List.setIfInBounds_toArray, List.set_cons_zero, List.set_cons_succ]
                    refine wpAnyH_take (i := 7) (oi := _) (v := ?vaq1x7) rfl (by kernel_rfl) (by kernel_rfl) (by kernel_rfl) (fun _ _ _ h => h) (Or.inl ⟨by rfl, ?hyaq1x7⟩) (by assumption) ?restaq1x7
                    case hyaq1x7 => (intro w hSw; (try dsimp only at hSw); go_split_ands; go_simp; try (with_reducible rfl))
                    try simp only [List.getElem_toArray, List.getElem_cons_zero, List.getElem_cons_succ, Act.put, List.setIfInBounds_toArray, List.set_cons_zero, List.set_cons_succ]
                    refine wpAnyH_ready (rs := [8]) (by kernel_rfl) (by simp) ?_
                    refine AllReadyH.cons (o := _) rfl (fun K hK => ?_) AllReadyH.nil
                    go_simp
                    refine (refMay_any m.c o.k _).mono ?_
                    rintro e w8 ⟨rfl, hb8⟩
                    have d0 := (hb8.cell (p := ⟨g1, 0, none⟩) (World.block_lt_of_cell? wr.drew _ hHeld.1)).trans hHeld.1
                    have d27 := (hb8.cell (p := ⟨g1, 27, none⟩) (World.block_lt_of_cell? wr.drew _ hHeld.2.1)).trans hHeld.2.1
                    have dk := (hb8.cell (p := ⟨b1, off1 + j * 19, none⟩) (World.block_lt_of_cell? wr.drew _ hHeld.2.2)).trans hHeld.2.2
                    have B8 := hid (bthen BR.out hb8)
                    clear hb8
                    rw [hmy]
                    go_wp2_with fail
                    refine hK.out _ _ ⟨d0, d27, dk⟩ (fun hHeld => ?_)
                    clear hK K
                    try simp only [List.getElem_toArray, List.getElem_cons_zero, List.getElem_cons_succ, Act.put, List.setIfInBounds_toArray, List.set_cons_zero, List.set_cons_succ]
                    refine wpAnyH_take (i := 9) (oi := _) (v := ?vbq1x9) rfl (by kernel_rfl) (by kernel_rfl) (by kernel_rfl) (fun _ _ _ h => h) (Or.inl ⟨by rfl, ?hybq1x9⟩) (by assumption) ?restbq1x9
                    case hybq1x9 => (intro w hSw; (try dsimp only at hSw); go_split_ands; go_simp; try (with_reducible rfl))
                    try simp only [List.getElem_toArray, List.getElem_cons_zero, List.getElem_cons_succ, Act.put, List.setIfInBounds_toArray, List.set_cons_zero, List.set_cons_succ]
                    refine wpAnyH_done (by kernel_rfl) ?_ _
                    go_wp2_with fail
                    go_roundw
                    case rel => exact ⟨j + 1, by omega, by go_num, HY, B8⟩
                    case measure => simp [intOf]; omega
                · obtain rfl : j = m.on := by omega
                  have hll := HO0.out.len
                  rw [List.take_of_length_le (by rw [pos_len, hll]; exact Nat.le_refl _)] at hall
                  have HC2 : Hid (chkM m.p = encE (pos m.L)) := by rw [Hid, HCC.out, hall.out, if_pos rfl]
                  go_wp2_with fail
                  refine (optRefEncodeAll_any m.oa m.on m.oc m.L _ (HO0.out.below HB.out) HWf.out hn).mono ?_
                  rintro e w9 ⟨v, rfl, _, hb9⟩
                  have B9 := hid (bthen B6.out (bthen HB.out hb9))
                  clear hb9
                  go_wp2_with fail
                  go_ret
                  exact ⟨ret_int HC2.out.symm, B9.out⟩
            · cases rb
              · have HCC : Hid (chkM m.p = if allM m.c (pos m.L) = true then encE (pos m.L) else 6) := by rw [Hid, HCC.out, he]; rfl
                go_wp2_with (with_reducible refine wpl_id ?_; first | (refine ld36 _ rfl rfl _ _ rfl m.ro HA.out PA.out ?_) | (refine ld36 _ rfl rfl _ _ rfl zeros adr_zeros PZ.out ?_))
                go_loopw [7] (fun iv wr => ∃ j : Nat, j ≤ m.on ∧ iv = .int .i64 j ∧ Hid (allM m.c ((pos m.L).take j) = true) ∧ Hid (Below w6.heap.size w6 wr)) (fun iv _ => m.on - (intOf iv).toNat)
                case atStart => exact ⟨0, Nat.zero_le _, rfl, hid rfl, hid (Below.refl _ _)⟩
                case round =>
                  obtain ⟨j, hj, rfl, hall, HB⟩ := hrel
                  clear c0 c27
                  have RX := hid (R6.out.below HB.out)
                  have c0 := (RX.out.cell 0).trans m.at0
                  have c27 := (RX.out.cell 27).trans (Mv.at27 HA.out)
                  by_cases hlt : j < m.on
                  · have hlt' : (j : Int) < (m.on : Int) := by omega
                    obtain ⟨b1, off1, ha, hp⟩ := (HO0.out.below HB.out).cell j hlt
                    have hll := HO0.out.len
                    have HS := hid (allM_succ m.c (pos m.L) j (by rw [pos_len, hll]; exact hlt))
                    have HN := hid (allMs_no m.c (pos m.L) j (by rw [pos_len, hll]; exact hlt))
                    rw [pos_at m.L j (by rw [hll]; exact hlt)] at HS HN
                    generalize m.L.getD j Ov.zero = o at *
                    have HS : Hid (allM m.c ((pos m.L).take (j + 1)) = (allM m.c ((pos m.L).take j) && mayB m.c o.k)) := HS
                    have HN : Hid (mayB m.c o.k = false → allM m.c (pos m.L) = false) := HN
                    rw [ha] at c27
                    have ck : wr.cell? ⟨b1, off1 + j * 19, none⟩ = some (.int .i64 o.k) := hp 0 _ o.at0
                    clear hp hll
                    cases hmy : mayB m.c o.k
                    · have HC2 : Hid (chkM m.p = 6) := by rw [Hid, HCC.out, HN.out hmy]; rfl
                      go_wp2_with fail
                      refine wp_region_held_drew (S := fun w' => w'.cell? ⟨g1, 0, none⟩ = some (.int .i64 m.c) ∧ w'.cell? ⟨g1, 27, none⟩ = some (.slice (some ⟨b1, off1, none⟩) m.on m.oc) ∧ w'.cell? ⟨b1, off1 + j * 19, none⟩ = some (.int .i64 o.k)) (by kernel_rfl) ?_ (fun hHeld => ?_)
                      · exact ⟨c0, c27, ck⟩
                      have bd : Below wr.heap.size wr wr.drew := bdrew (Below.refl _ _) 1
                      have BR := hid (bthen HB.out bd)
                      clear bd
                      refine wpAnyH_take (i := 0) (oi := _) (v := ?vaq2x0) rfl (by kernel_rfl) (by kernel_rfl) (by kernel_rfl) (fun _ _ _ h => h) (Or.inl ⟨by rfl, ?hyaq2x0⟩) (by assumption) ?restaq2x0
                      case hyaq2x0 => (intro w hSw; (try dsimp only at hSw); go_split_ands; go_simp; try (with_reducible rfl))
                      try simp only [List.getElem_toArray, List.getElem_cons_zero, List.getElem_cons_succ, Act.put, List.setIfInBounds_toArray, List.set_cons_zero, List.set_cons_succ]
                      refine wpAnyH_take (i := 1) (oi := _) (v := ?vaq2x1) rfl (by kernel_rfl) (by kernel_rfl) (by kernel_rfl) (fun _ _ _ h => h) (Or.inl ⟨by rfl, ?hyaq2x1⟩) (by assumption) ?restaq2x1
                      case hyaq2x1 => (intro w hSw; (try dsimp only at hSw); go_split_ands; go_simp; try (with_reducible rfl))
                      try simp only [List.getElem_toArray, List.getElem_cons_zero, List.getElem_cons_succ, Act.put, List.setIfInBounds_toArray, List.set_cons_zero, List.set_cons_succ]
                      refine wpAnyH_take (i := 2) (oi := _) (v := ?vaq2x2) rfl (by kernel_rfl) (by kernel_rfl) (by kernel_rfl) (fun _ _ _ h => h) (Or.inl ⟨by rfl, ?hyaq2x2⟩) (by assumption) ?restaq2x2
                      case hyaq2x2 => (intro w hSw; (try dsimp only at hSw); go_split_ands; go_simp; try (with_reducible rfl))
                      try simp only [List.getElem_toArray, List.getElem_cons_zero, List.getElem_cons_succ, Act.put, List.setIfInBounds_toArray, List.set_cons_zero, List.set_cons_succ]
                      refine wpAnyH_take (i := 3) (oi := _) (v := ?vaq2x3) rfl (by kernel_rfl) (by kernel_rfl) (by kernel_rfl) (fun _ _ _ h => h) (Or.inl ⟨by rfl, ?hyaq2x3⟩) (by assumption) ?restaq2x3
                      case hyaq2x3 => (intro w hSw; (try dsimp only at hSw); go_split_ands; go_simp; try (with_reducible rfl))
                      try simp only [List.getElem_toArray, List.getElem_cons_zero, List.getElem_cons_succ, Act.put, List.setIfInBounds_toArray, List.set_cons_zero, List.set_cons_succ]
                      refine wpAnyH_take (i := 4) (oi := _) (v := ?vaq2x4) rfl (by kernel_rfl) (by kernel_rfl) (by kernel_rfl) (fun _ _ _ h => h) (Or.inl ⟨by rfl, ?hyaq2x4⟩) (by assumption) ?restaq2x4
                      case hyaq2x4 => (intro w hSw; (try dsimp only at hSw); go_split_ands; go_simp; try (with_reducible rfl))
                      try simp only [List.getElem_toArray, List.getElem_cons_zero, List.getElem_cons_succ, Act.put, List.setIfInBounds_toArray, List.set_cons_zero, List.set_cons_succ]
                      refine wpAnyH_take (i := 5) (oi := _) (v := ?vaq2x5) rfl (by kernel_rfl) (by kernel_rfl) (by kernel_rfl) (fun _ _ _ h => h) (Or.inl ⟨by rfl, ?hyaq2x5⟩) (by assumption) ?restaq2x5
                      case hyaq2x5 => (intro w hSw; (try dsimp only at hSw); go_split_ands; go_simp; try (with_reducible rfl))
                      try simp only [List.getElem_toArray, List.getElem_cons_zero, List.getElem_cons_succ, Act.put, List.setIfInBounds_toArray, List.set_cons_zero, List.set_cons_succ]
                      refine wpAnyH_take (i := 6) (oi := _) (v := ?vaq2x6) rfl (by kernel_rfl) (by kernel_rfl) (by kernel_rfl) (fun _ _ _ h => h) (Or.inl ⟨by rfl, ?hyaq2x6⟩) (by assumption) ?restaq2x6
                      case hyaq2x6 => (intro w hSw; (try dsimp only at hSw); go_split_ands; go_simp; try (with_reducible rfl))
                      try simp only [List.getElem_toArray, List.getElem_cons_zero, List.getElem_cons_succ, Act.put, List.setIfInBounds_toArray, List.set_cons_zero, List.set_cons_succ]
                      refine wpAnyH_take (i := 7) (oi := _) (v := ?vaq2x7) rfl (by kernel_rfl) (by kernel_rfl) (by kernel_rfl) (fun _ _ _ h => h) (Or.inl ⟨by rfl, ?hyaq2x7⟩) (by assumption) ?restaq2x7
                      case hyaq2x7 => (intro w hSw; (try dsimp only at hSw); go_split_ands; go_simp; try (with_reducible rfl))
                      try simp only [List.getElem_toArray, List.getElem_cons_zero, List.getElem_cons_succ, Act.put, List.setIfInBounds_toArray, List.set_cons_zero, List.set_cons_succ]
                      refine wpAnyH_ready (rs := [8]) (by kernel_rfl) (by simp) ?_
                      refine AllReadyH.cons (o := _) rfl (fun K hK => ?_) AllReadyH.nil
                      go_simp
                      refine (refMay_any m.c o.k _).mono ?_
                      rintro e w8 ⟨rfl, hb8⟩
                      have d0 := (hb8.cell (p := ⟨g1, 0, none⟩) (World.block_lt_of_cell? wr.drew _ hHeld.1)).trans hHeld.1
                      have d27 := (hb8.cell (p := ⟨g1, 27, none⟩) (World.block_lt_of_cell? wr.drew _ hHeld.2.1)).trans hHeld.2.1
                      have dk := (hb8.cell (p := ⟨b1, off1 + j * 19, none⟩) (World.block_lt_of_cell? wr.drew _ hHeld.2.2)).trans hHeld.2.2
                      have B8 := hid (bthen BR.out hb8)
                      clear hb8
                      rw [hmy]
                      go_wp2_with fail
                      refine hK.out _ _ ⟨d0, d27, dk⟩ (fun hHeld => ?_)
                      clear hK K
                      try simp only [List.getElem_toArray, List.getElem_cons_zero, List.getElem_cons_succ, Act.put, List.setIfInBounds_toArray, List.set_cons_zero, List.set_cons_succ]
                      refine wpAnyH_take (i := 9) (oi := _) (v := ?vbq2x9) rfl (by kernel_rfl) (by kernel_rfl) (by kernel_rfl) (fun _ _ _ h => h) (Or.inl ⟨by rfl, ?hybq2x9⟩) (by assumption) ?restbq2x9
                      case hybq2x9 => (intro w hSw; (try dsimp only at hSw); go_split_ands; go_simp; try (with_reducible rfl))
                      try simp only [List.getElem_toArray, List.getElem_cons_zero, List.getElem_cons_succ, Act.put, List.setIfInBounds_toArray, List.set_cons_zero, List.set_cons_succ]
                      refine wpAnyH_done (by kernel_rfl) ?_ _
                      go_wp2_with fail
                      go_ret
                      exact ⟨ret_int HC2.out.symm, bthen B6.out B8.out⟩
                    · have HY : Hid (allM m.c ((pos m.L).take (j + 1)) = true) := by rw [Hid, HS.out, hall.out, hmy]; rfl
                      go_wp2_with fail
                      refine wp_region_held_drew (S := fun w' => w'.cell? ⟨g1, 0, none⟩ = some (.int .i64 m.c) ∧ w'.cell? ⟨g1, 27, none⟩ = some (.slice (some ⟨b1, off1, none⟩) m.on m.oc) ∧ w'.cell? ⟨b1, off1 + j * 19, none⟩ = some (.int .i64 o.k)) (by kernel_rfl) ?_ (fun hHeld => ?_)
                      · exact ⟨c0, c27, ck⟩
                      have bd : Below wr.heap.size wr wr.drew := bdrew (Below.refl _ _) 1
                      have BR := hid (bthen HB.out bd)
                      clear bd
                      refine wpAnyH_take (i := 0) (oi := _) (v := ?vaq3x0) rfl (by kernel_rfl) (by kernel_rfl) (by kernel_rfl) (fun _ _ _ h => h) (Or.inl ⟨by rfl, ?hyaq3x0⟩) (by assumption) ?restaq3x0
                      case hyaq3x0 => (intro w hSw; (try dsimp only at hSw); go_split_ands; go_simp; try (with_reducible rfl))
                      try simp only [List.getElem_toArray, List.getElem_cons_zero, List.getElem_cons_succ, Act.put, List.setIfInBounds_toArray, List.set_cons_zero, List.set_cons_succ]
                      refine wpAnyH_take (i := 1) (oi := _) (v := ?vaq3x1) rfl (by kernel_rfl) (by kernel_rfl) (by kernel_rfl) (fun _ _ _ h => h) (Or.inl ⟨by rfl, ?hyaq3x1⟩) (by assumption) ?restaq3x1
                      case hyaq3x1 => (intro w hSw; (try dsimp only at hSw); go_split_ands; go_simp; try (with_reducible rfl))
                      try simp only [List.getElem_toArray, List.getElem_cons_zero, List.getElem_cons_succ, Act.put, List.setIfInBounds_toArray, List.set_cons_zero, List.set_cons_succ]
                      refine wpAnyH_take (i := 2) (oi := _) (v := ?vaq3x2) rfl (by kernel_rfl) (by kernel_rfl) (by kernel_rfl) (fun _ _ _ h => h) (Or.inl ⟨by rfl, ?hyaq3x2⟩) (by assumption) ?restaq3x2
                      case hyaq3x2 => (intro w hSw; (try dsimp only at hSw); go_split_ands; go_simp; try (with_reducible rfl))
                      try simp only [List.getElem_toArray, List.getElem_cons_zero, List.getElem_cons_succ, Act.put, List.setIfInBounds_toArray, List.set_cons_zero, List.set_cons_succ]
                      refine wpAnyH_take (i := 3) (oi := _) (v := ?vaq3x3) rfl (by kernel_rfl) (by kernel_rfl) (by kernel_rfl) (fun _ _ _ h => h) (Or.inl ⟨by rfl, ?hyaq3x3⟩) (by assumption) ?restaq3x3
                      case hyaq3x3 => (intro w hSw; (try dsimp only at hSw); go_split_ands; go_simp; try (with_reducible rfl))
                      try simp only [List.getElem_toArray, List.getElem_cons_zero, List.getElem_cons_succ, Act.put, List.setIfInBounds_toArray, List.set_cons_zero, List.set_cons_succ]
                      refine wpAnyH_take (i := 4) (oi := _) (v := ?vaq3x4) rfl (by kernel_rfl) (by kernel_rfl) (by kernel_rfl) (fun _ _ _ h => h) (Or.inl ⟨by rfl, ?hyaq3x4⟩) (by assumption) ?restaq3x4
                      case hyaq3x4 => (intro w hSw; (try dsimp only at hSw); go_split_ands; go_simp; try (with_reducible rfl))
                      try simp only [List.getElem_toArray, List.getElem_cons_zero, List.getElem_cons_succ, Act.put, List.setIfInBounds_toArray, List.set_cons_zero, List.set_cons_succ]
                      refine wpAnyH_take (i := 5) (oi := _) (v := ?vaq3x5) rfl (by kernel_rfl) (by kernel_rfl) (by kernel_rfl) (fun _ _ _ h => h) (Or.inl ⟨by rfl, ?hyaq3x5⟩) (by assumption) ?restaq3x5
                      case hyaq3x5 => (intro w hSw; (try dsimp only at hSw); go_split_ands; go_simp; try (with_reducible rfl))
                      try simp only [List.getElem_toArray, List.getElem_cons_zero, List.getElem_cons_succ, Act.put, List.setIfInBounds_toArray, List.set_cons_zero, List.set_cons_succ]
                      refine wpAnyH_take (i := 6) (oi := _) (v := ?vaq3x6) rfl (by kernel_rfl) (by kernel_rfl) (by kernel_rfl) (fun _ _ _ h => h) (Or.inl ⟨by rfl, ?hyaq3x6⟩) (by assumption) ?restaq3x6
                      case hyaq3x6 => (intro w hSw; (try dsimp only at hSw); go_split_ands; go_simp; try (with_reducible rfl))
                      try simp only [List.getElem_toArray, List.getElem_cons_zero, List.getElem_cons_succ, Act.put, List.setIfInBounds_toArray, List.set_cons_zero, List.set_cons_succ]
                      refine wpAnyH_take (i := 7) (oi := _) (v := ?vaq3x7) rfl (by kernel_rfl) (by kernel_rfl) (by kernel_rfl) (fun _ _ _ h => h) (Or.inl ⟨by rfl, ?hyaq3x7⟩) (by assumption) ?restaq3x7
                      case hyaq3x7 => (intro w hSw; (try dsimp only at hSw); go_split_ands; go_simp; try (with_reducible rfl))
                      try simp only [List.getElem_toArray, List.getElem_cons_zero, List.getElem_cons_succ, Act.put, List.setIfInBounds_toArray, List.set_cons_zero, List.set_cons_succ]
                      refine wpAnyH_ready (rs := [8]) (by kernel_rfl) (by simp) ?_
                      refine AllReadyH.cons (o := _) rfl (fun K hK => ?_) AllReadyH.nil
                      go_simp
                      refine (refMay_any m.c o.k _).mono ?_
                      rintro e w8 ⟨rfl, hb8⟩
                      have d0 := (hb8.cell (p := ⟨g1, 0, none⟩) (World.block_lt_of_cell? wr.drew _ hHeld.1)).trans hHeld.1
                      have d27 := (hb8.cell (p := ⟨g1, 27, none⟩) (World.block_lt_of_cell? wr.drew _ hHeld.2.1)).trans hHeld.2.1
                      have dk := (hb8.cell (p := ⟨b1, off1 + j * 19, none⟩) (World.block_lt_of_cell? wr.drew _ hHeld.2.2)).trans hHeld.2.2
                      have B8 := hid (bthen BR.out hb8)
                      clear hb8
                      rw [hmy]
                      go_wp2_with fail
                      refine hK.out _ _ ⟨d0, d27, dk⟩ (fun hHeld => ?_)
                      clear hK K
                      try simp only [List.getElem_toArray, List.getElem_cons_zero, List.getElem_cons_succ, Act.put, List.setIfInBounds_toArray, List.set_cons_zero, List.set_cons_succ]
                      refine wpAnyH_take (i := 9) (oi := _) (v := ?vbq3x9) rfl (by kernel_rfl) (by kernel_rfl) (by kernel_rfl) (fun _ _ _ h => h) (Or.inl ⟨by rfl, ?hybq3x9⟩) (by assumption) ?restbq3x9
                      case hybq3x9 => (intro w hSw; (try dsimp only at hSw); go_split_ands; go_simp; try (with_reducible rfl))
                      try simp only [List.getElem_toArray, List.getElem_cons_zero, List.getElem_cons_succ, Act.put, List.setIfInBounds_toArray, List.set_cons_zero, List.set_cons_succ]
                      refine wpAnyH_done (by kernel_rfl) ?_ _
                      go_wp2_with fail
                      go_roundw
                      case rel => exact ⟨j + 1, by omega, by go_num, HY, B8⟩
                      case measure => simp [intOf]; omega
                  · obtain rfl : j = m.on := by omega
                    have hll := HO0.out.len
                    rw [List.take_of_length_le (by rw [pos_len, hll]; exact Nat.le_refl _)] at hall
                    have HC2 : Hid (chkM m.p = encE (pos m.L)) := by rw [Hid, HCC.out, hall.out, if_pos rfl]
                    go_wp2_with fail
                    refine (optRefEncodeAll_any m.oa m.on m.oc m.L _ (HO0.out.below HB.out) HWf.out hn).mono ?_
                    rintro e w9 ⟨v, rfl, _, hb9⟩
                    have B9 := hid (bthen B6.out (bthen HB.out hb9))
                    clear hb9
                    go_wp2_with fail
                    go_ret
                    exact ⟨ret_int HC2.out.symm, B9.out⟩
              · have HCC : Hid (chkM m.p = 1) := by rw [Hid, HCC.out, he]; rfl
                go_wp2_with (with_reducible refine wpl_id ?_; first | (refine ld36 _ rfl rfl _ _ rfl m.ro HA.out PA.out ?_) | (refine ld36 _ rfl rfl _ _ rfl zeros adr_zeros PZ.out ?_))
                go_ret
                exact ⟨ret_int HCC.out.symm, B6.out⟩
      · rw [hmo, if_pos rfl] at HC
        go_wp2_with fail
        go_ret
        exact ⟨ret_int HC.out.symm, B2.out⟩
end Go.Proofs.YtbfjkhafdkhhmaaDoor
