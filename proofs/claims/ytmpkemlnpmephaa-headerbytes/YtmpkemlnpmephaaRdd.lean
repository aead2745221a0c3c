/- What the document's Decode answers, behind the checks: a contract. -/
import Derived.Test.YtmpkemlnpmephaaRdc
namespace Go.Proofs.Ytmpkemlnpmephaa
open Go.ChangeShapes Go.WideShapes Go.ChangeAt Go.RowKit
set_option linter.unusedVariables false
set_option linter.unusedSimpArgs false

theorem yields_ld {P : Program} {ops : Array Oper} {S : World → Prop} {op : Oper} {a : Act} (hw : Region.wanted op (yielded ops a.tmps) = true) (ty : TypeId) (x : Operand) (ho : op.op = .load ty x)
    (g : Nat) (hx : a.eval x = .pointer (some ⟨g, 0, none⟩)) (cs : Array Value) (d : TypeDesc) (hS : ∀ w, S w → Part w g 0 cs)
    (hu : P.underlying ty = some d) (hd : (match d with | .struct _ | .array _ _ => true | _ => false) = true) (hi : (P.info? ty).map (·.size) = some cs.size) : YieldsIf P ops S op (.agg cs) a :=
  .inl ⟨hw, fun w hw' => by
    unfold execOp
    simp only [ho, hx, Instr.loadAt, Instr.sureAddr, Sem.run_bind, Sem.run_pure, Result.andThen_ok, run_loadVar_part w g 0 ty cs d (hS w hw') hu hd hi]⟩
theorem step_st {P : Program} {ops : Array Oper} {o : Oper} {a : Act} {w : World} {K : Act → World → Prop} {Q : Exit → Act → World → Prop} {E : Prop} (hgd : o.guard = none) (ty : TypeId) (x y : Operand) (ho : o.op = .store ty x y)
    (g : Nat) (cells : Array Value) (hx : a.eval x = .pointer (some ⟨g, 0, none⟩)) (hy : a.eval y = .agg cells) (t : TypeId) (old : Array Value) (hg : Row w g t old) (hi : (P.info? ty).map (·.size) = some cells.size)
    (hold : old.size = cells.size) (h1 : cells.all (·.oneCell') = true) (h : K (a.put o.dst undef) (w.setRow g cells)) :
    if Region.wanted o (yielded ops a.tmps) = true then Oper.wp P o a w K Q else E := by
  rw [if_pos (by simp [Region.wanted, hgd])]
  exact wp_store_row ty x y ho g cells hx hy t old hg hi hold h1 h
theorem w64 (n : Int) (h0 : 0 ≤ n) (h1 : n < 2 ^ 62) : IntKind.i64.wrap n = n := wraps_i64 n h0 h1
theorem e8 {x0 x1 : Int} (a0 : 0 ≤ x0) (a1 : x0 < 256) (b0 : 0 ≤ x1) (b1 : x1 < 256) : IntKind.i64.wrap (IntKind.i64.wrap (IntKind.i64.wrap (x0.tmod 16) * 16) + IntKind.i64.wrap (IntKind.u8.wrap (x1.tdiv 16))) = x0 % 16 * 16 + x1 / 16 := by
  rw [Int.tmod_eq_emod_of_nonneg a0, Int.tdiv_eq_ediv_of_nonneg b0, wraps_u8 (x1 / 16) (by omega) (by omega), w64 (x0 % 16) (by omega) (by omega), w64 (x0 % 16 * 16) (by omega) (by omega), w64 (x1 / 16) (by omega) (by omega), w64 _ (by omega) (by omega)]
theorem e9 {x1 x2 x3 : Int} (a0 : 0 ≤ x1) (a1 : x1 < 256) (b0 : 0 ≤ x2) (b1 : x2 < 256) (c0 : 0 ≤ x3) (c1 : x3 < 256) : IntKind.i64.wrap (IntKind.i64.wrap (IntKind.i64.wrap (IntKind.i64.wrap (x1.tmod 16) * 65536) + IntKind.i64.wrap (IntKind.i64.wrap x2 * 256)) + IntKind.i64.wrap x3) = x1 % 16 * 65536 + x2 * 256 + x3 := by
  rw [Int.tmod_eq_emod_of_nonneg a0, w64 (x1 % 16) (by omega) (by omega), w64 (x1 % 16 * 65536) (by omega) (by omega), w64 x2 (by omega) (by omega), w64 (x2 * 256) (by omega) (by omega), w64 x3 (by omega) (by omega), w64 (x1 % 16 * 65536 + x2 * 256) (by omega) (by omega), w64 _ (by omega) (by omega)]
theorem e10 {x4 x5 : Int} (a0 : 0 ≤ x4) (a1 : x4 < 256) (b0 : 0 ≤ x5) (b1 : x5 < 256) : IntKind.i64.wrap (IntKind.i64.wrap (IntKind.i64.wrap x4 * 256) + IntKind.i64.wrap x5) = x4 * 256 + x5 := by
  rw [w64 x4 (by omega) (by omega), w64 (x4 * 256) (by omega) (by omega), w64 x5 (by omega) (by omega), w64 _ (by omega) (by omega)]

set_option maxHeartbeats 1600000 in
theorem rdec_rest (b off : Nat) (len cap : Nat) (l : List Int) (w : World) (h : Lies .u8 w (some ⟨b, off, none⟩) len cap l) (ho : Oct l) (h40 : 40 ≤ len) (hf : l.getD 0 0 / 16 = 6) (hs : len ≤ 1280) :
    Calls Try.prog 17 #[.slice (some ⟨b, off, none⟩) len cap] w fun r w' => ∃ a' n' c', r = .returned (.tuple #[.agg (decV l).cs, .slice a' n' c', .int .i64 (decE l)]) ∧ Lies .u8 w' a' n' c' (decR l) ∧ Below w.heap.size w w' := by
  have HLs := hid h
  have h40' : (40 : Int) ≤ (len : Int) := by omega
  have PA : Hid ((len : Int) - 40 < (decH l).ln → decE l = 4 ∧ decV l = Hd.zero ∧ decR l = []) := by
    intro hA
    have hE : decE l = 4 := by
      unfold decE
      rw [if_neg (by rw [h.1]; omega), if_neg (by simpa using hf), if_neg (by rw [h.1]; omega), if_pos (by rw [h.1]; omega)]
    exact ⟨hE, by rw [decV, hE]; rfl, by rw [decR, hE]; rfl⟩
  have PB : Hid ((decH l).ln < (len : Int) - 40 → decE l = 3 ∧ decV l = Hd.zero ∧ decR l = []) := by
    intro hA
    have hE : decE l = 3 := by
      unfold decE
      rw [if_neg (by rw [h.1]; omega), if_neg (by simpa using hf), if_neg (by rw [h.1]; omega), if_neg (by rw [h.1]; omega), if_pos (by rw [h.1]; omega)]
    exact ⟨hE, by rw [decV, hE]; rfl, by rw [decR, hE]; rfl⟩
  have PC : Hid (¬ (len : Int) - 40 < (decH l).ln → ¬ (decH l).ln < (len : Int) - 40 → decE l = 0 ∧ decV l = decH l ∧ decR l = l.drop 40) := by
    intro hA hB
    have hE : decE l = 0 := by
      unfold decE
      rw [if_neg (by rw [h.1]; omega), if_neg (by simpa using hf), if_neg (by rw [h.1]; omega), if_neg (by rw [h.1]; omega), if_neg (by rw [h.1]; omega)]
    exact ⟨hE, by rw [decV, hE]; rfl, by rw [decR, hE]; rfl⟩
  have hz := zhd
  have hcm : cap ≤ maxLen := h.2.2.1
  have hlc := h.2.1
  unfold maxLen at hcm
  have hn := h.1
  have cell : ∀ i, i < len → w.cell? ⟨b, off + i, none⟩ = some (.int .u8 (l.getD i 0)) := by
    intro i hi
    obtain ⟨b', off', e, hc⟩ := h.2.2.2.2 i hi
    simp at e
    obtain ⟨rfl, rfl⟩ := e
    exact hc
  have hbw : b < w.heap.size := World.block_lt_of_cell? w _ (cell 0 (by omega))
  have HC := hid cell
  have b0 := balloc (Below.refl w.heap.size w) (.cells Hd.zero.cs 24)
  have b1 := balloc b0 (.cells Hd.zero.cs 24)
  have B1 := hid b1
  have Z1 := hid ((Row.new w 24 Hd.zero.cs).alloc (.cells Hd.zero.cs 24))
  have X1 : Hid (Row ((w.alloc (.cells Hd.zero.cs 24)).alloc (.cells Hd.zero.cs 24)) (w.heap.size + 1) 24 Hd.zero.cs) := by simpa [Hid] using Row.new (w.alloc (.cells Hd.zero.cs 24)) 24 Hd.zero.cs
  have up : ∀ {w'} i, Below w.heap.size w w' → i < len → w'.cell? ⟨b, off + i, none⟩ = some (.int .u8 (l.getD i 0)) := fun {w'} i hb hi => (hb.cell (p := ⟨b, off + i, none⟩) hbw).trans (cell i hi)
  have UP : Hid (∀ w' i, Below w.heap.size w w' → i < len → w'.cell? ⟨b, off + i, none⟩ = some (.int .u8 (l.getD i 0))) := fun w' i hb hi => up i hb hi
  have c0 := up 0 b0 (by omega)
  rw [Nat.add_zero] at c0
  obtain ⟨o0, p0⟩ := ho.at 0 (by omega)
  have i0 : 0 < len := by omega
  have j0 : (0 : Int) < (len : Int) := by omega
  obtain ⟨o1, p1⟩ := ho.at 1 (by omega)
  have i1 : 1 < len := by omega
  have j1 : (1 : Int) < (len : Int) := by omega
  obtain ⟨o2, p2⟩ := ho.at 2 (by omega)
  have i2 : 2 < len := by omega
  have j2 : (2 : Int) < (len : Int) := by omega
  obtain ⟨o3, p3⟩ := ho.at 3 (by omega)
  have i3 : 3 < len := by omega
  have j3 : (3 : Int) < (len : Int) := by omega
  obtain ⟨o4, p4⟩ := ho.at 4 (by omega)
  have i4 : 4 < len := by omega
  have j4 : (4 : Int) < (len : Int) := by omega
  obtain ⟨o5, p5⟩ := ho.at 5 (by omega)
  have i5 : 5 < len := by omega
  have j5 : (5 : Int) < (len : Int) := by omega
  obtain ⟨o6, p6⟩ := ho.at 6 (by omega)
  have i6 : 6 < len := by omega
  have j6 : (6 : Int) < (len : Int) := by omega
  obtain ⟨o7, p7⟩ := ho.at 7 (by omega)
  have i7 : 7 < len := by omega
  have j7 : (7 : Int) < (len : Int) := by omega
  have hs' : decide ((len : Int) < 40) = false := by simp; omega
  have hf' : (l.getD 0 0 / 16 != 6) = false := by rw [hf]; rfl
  have hl' : decide ((1280 : Int) < len) = false := by simp; omega
  have q0 := up 0 b1 (by omega)
  rw [Nat.add_zero] at q0
  have q1 := up 1 b1 (by omega)
  have q2 := up 2 b1 (by omega)
  have q3 := up 3 b1 (by omega)
  have q4 := up 4 b1 (by omega)
  have q5 := up 5 b1 (by omega)
  have q6 := up 6 b1 (by omega)
  have q7 := up 7 b1 (by omega)
  clear h cell up b0 b1 hf
  obtain ⟨x0, hx0⟩ : ∃ x, x = l.getD 0 0 := ⟨_, rfl⟩
  have E0 : Hid (l.getD 0 0 = x0) := hx0.symm
  rw [← hx0] at o0 p0 q0 c0 hf'
  obtain ⟨x1, hx1⟩ : ∃ x, x = l.getD 1 0 := ⟨_, rfl⟩
  have E1 : Hid (l.getD 1 0 = x1) := hx1.symm
  rw [← hx1] at o1 p1 q1
  obtain ⟨x2, hx2⟩ : ∃ x, x = l.getD 2 0 := ⟨_, rfl⟩
  have E2 : Hid (l.getD 2 0 = x2) := hx2.symm
  rw [← hx2] at o2 p2 q2
  obtain ⟨x3, hx3⟩ : ∃ x, x = l.getD 3 0 := ⟨_, rfl⟩
  have E3 : Hid (l.getD 3 0 = x3) := hx3.symm
  rw [← hx3] at o3 p3 q3
  obtain ⟨x4, hx4⟩ : ∃ x, x = l.getD 4 0 := ⟨_, rfl⟩
  have E4 : Hid (l.getD 4 0 = x4) := hx4.symm
  rw [← hx4] at o4 p4 q4
  obtain ⟨x5, hx5⟩ : ∃ x, x = l.getD 5 0 := ⟨_, rfl⟩
  have E5 : Hid (l.getD 5 0 = x5) := hx5.symm
  rw [← hx5] at o5 p5 q5
  obtain ⟨x6, hx6⟩ : ∃ x, x = l.getD 6 0 := ⟨_, rfl⟩
  have E6 : Hid (l.getD 6 0 = x6) := hx6.symm
  rw [← hx6] at o6 p6 q6
  obtain ⟨x7, hx7⟩ : ∃ x, x = l.getD 7 0 := ⟨_, rfl⟩
  have E7 : Hid (l.getD 7 0 = x7) := hx7.symm
  rw [← hx7] at o7 p7 q7
  clear hx0 hx1 hx2 hx3 hx4 hx5 hx6 hx7
  go_enter Try.func17, Try.ntmps17
  go_upto_region 1 with fail
  go_upto_region 8 with fail
  generalize (w.alloc (.cells Hd.zero.cs 24)).alloc (.cells Hd.zero.cs 24) = w1 at *
  clear hz c0
  have hg5 : w.heap.size < w.heap.size + 1 := by omega
  generalize w.heap.size + 1 = g5 at *
  have n5 : b ≠ g5 := by omega
  have m5 : g5 ≠ b := by omega
  have cA := (X1.out.cell 0).trans Hd.zero.at0
  have fA := X1.out.frozen 0
  go_region_held3 (fun w' => w'.cell? ⟨b, off, none⟩ = some (.int .u8 x0) ∧ w'.cell? ⟨b, off + 1, none⟩ = some (.int .u8 x1)) (go_keep) (fail)
  go_wp2_with fail
  generalize hy : IntKind.i64.wrap (IntKind.i64.wrap (IntKind.i64.wrap (x0.tmod 16) * 16) + IntKind.i64.wrap (IntKind.u8.wrap (x1.tdiv 16))) = y0 at *
  have Hy0 : Hid (y0 = x0 % 16 * 16 + x1 / 16) := by rw [Hid, ← hy]; exact e8 o0 p0 o1 p1
  clear hy
  have X2 : Hid (Row (w1.setCell ⟨g5, 0, none⟩ (.int .i64 y0)).drew g5 24 (Hd.cs ⟨y0, 0, 0, 0, 0, zeros, zeros⟩)) := by
    have := X1.out.set 0 (.int .i64 y0)
    rw [Hd.setA] at this
    exact this
  have Z2 : Hid (Row (w1.setCell ⟨g5, 0, none⟩ (.int .i64 y0)).drew w.heap.size 24 Hd.zero.cs) := Z1.out.other ⟨g5, 0, none⟩ (.int .i64 y0) (by simp; omega)
  have B2 := hid (bdrew (Below.setCell B1.out (p := ⟨g5, 0, none⟩) (by simp; omega) (.int .i64 y0)) 1)
  change Hid (Below w.heap.size w (w1.setCell ⟨g5, 0, none⟩ (.int .i64 y0)).drew) at B2
  generalize (w1.setCell ⟨g5, 0, none⟩ (.int .i64 y0)).drew = w2 at *
  clear q0 q1 q2 q3 q4 q5 q6 q7 cA fA X1 Z1 B1
  have q1 := UP.out w2 1 B2.out (by omega)
  have q2 := UP.out w2 2 B2.out (by omega)
  have q3 := UP.out w2 3 B2.out (by omega)
  rw [E1.out] at q1
  rw [E2.out] at q2
  rw [E3.out] at q3
  have cB := (X2.out.cell 1).trans (Hd.at1 _)
  have fB := X2.out.frozen 1
  go_region_held3 (fun w' => w'.cell? ⟨b, off + 1, none⟩ = some (.int .u8 x1) ∧ w'.cell? ⟨b, off + 2, none⟩ = some (.int .u8 x2) ∧ w'.cell? ⟨b, off + 3, none⟩ = some (.int .u8 x3)) (go_keep) (fail)
  go_wp2_with fail
  generalize hy : IntKind.i64.wrap (IntKind.i64.wrap (IntKind.i64.wrap (IntKind.i64.wrap (x1.tmod 16) * 65536) + IntKind.i64.wrap (IntKind.i64.wrap x2 * 256)) + IntKind.i64.wrap x3) = y1 at *
  have Hy1 : Hid (y1 = x1 % 16 * 65536 + x2 * 256 + x3) := by rw [Hid, ← hy]; exact e9 o1 p1 o2 p2 o3 p3
  clear hy
  have X3 : Hid (Row (w2.setCell ⟨g5, 1, none⟩ (.int .i64 y1)).drew g5 24 ((⟨y0, y1, 0, 0, 0, zeros, zeros⟩ : Hd)).cs) := by
    have := X2.out.set 1 (.int .i64 y1)
    rw [Hd.setB] at this
    exact this
  have Z3 : Hid (Row (w2.setCell ⟨g5, 1, none⟩ (.int .i64 y1)).drew w.heap.size 24 Hd.zero.cs) := Z2.out.other ⟨g5, 1, none⟩ (.int .i64 y1) (by simp; omega)
  have B3 : Hid (Below w.heap.size w (w2.setCell ⟨g5, 1, none⟩ (.int .i64 y1)).drew) := bdrew (Below.setCell B2.out (p := ⟨g5, 1, none⟩) (by simp; omega) (.int .i64 y1)) 1
  generalize (w2.setCell ⟨g5, 1, none⟩ (.int .i64 y1)).drew = w3 at *
  clear q1 q2 q3 cB fB X2 Z2 B2
  have q4 := UP.out w3 4 B3.out (by omega)
  have q5 := UP.out w3 5 B3.out (by omega)
  rw [E4.out] at q4
  rw [E5.out] at q5
  have cC := (X3.out.cell 2).trans (Hd.at2 _)
  have fC := X3.out.frozen 2
  go_region_held3 (fun w' => w'.cell? ⟨b, off + 4, none⟩ = some (.int .u8 x4) ∧ w'.cell? ⟨b, off + 5, none⟩ = some (.int .u8 x5)) (go_keep) (fail)
  go_wp2_with fail
  generalize hy : IntKind.i64.wrap (IntKind.i64.wrap (IntKind.i64.wrap x4 * 256) + IntKind.i64.wrap x5) = y2 at *
  have Hy2 : Hid (y2 = x4 * 256 + x5) := by rw [Hid, ← hy]; exact e10 o4 p4 o5 p5
  clear hy
  have X4 : Hid (Row (w3.setCell ⟨g5, 2, none⟩ (.int .i64 y2)).drew g5 24 ((⟨y0, y1, y2, 0, 0, zeros, zeros⟩ : Hd)).cs) := by
    have := X3.out.set 2 (.int .i64 y2)
    rw [Hd.set2] at this
    exact this
  have Z4 : Hid (Row (w3.setCell ⟨g5, 2, none⟩ (.int .i64 y2)).drew w.heap.size 24 Hd.zero.cs) := Z3.out.other ⟨g5, 2, none⟩ (.int .i64 y2) (by simp; omega)
  have B4 : Hid (Below w.heap.size w (w3.setCell ⟨g5, 2, none⟩ (.int .i64 y2)).drew) := bdrew (Below.setCell B3.out (p := ⟨g5, 2, none⟩) (by simp; omega) (.int .i64 y2)) 1
  generalize (w3.setCell ⟨g5, 2, none⟩ (.int .i64 y2)).drew = w4 at *
  clear q4 q5 cC fC X3 Z3 B3
  have q6 := UP.out w4 6 B4.out (by omega)
  have q7 := UP.out w4 7 B4.out (by omega)
  rw [E6.out] at q6
  rw [E7.out] at q7
  have cD := (X4.out.cell 3).trans (Hd.at3 _)
  have fD := X4.out.frozen 3
  have cE := (X4.out.cell 4).trans (Hd.at4 _)
  have fE := X4.out.frozen 4
  go_region_held3 (fun w' => w'.cell? ⟨b, off + 6, none⟩ = some (.int .u8 x6) ∧ w'.cell? ⟨b, off + 7, none⟩ = some (.int .u8 x7)) (go_keep) (fail)
  go_wp2_with fail
  generalize hy3 : IntKind.i64.wrap x6 = y3 at *
  generalize hy4 : IntKind.i64.wrap x7 = y4 at *
  have Hy3 : Hid (y3 = x6) := by rw [Hid, ← hy3]; exact w64 x6 (by omega) (by omega)
  have Hy4 : Hid (y4 = x7) := by rw [Hid, ← hy4]; exact w64 x7 (by omega) (by omega)
  clear hy3 hy4
  obtain ⟨F, hF⟩ : ∃ F, F = (l.drop 8).take 16 := ⟨_, rfl⟩
  obtain ⟨T, hT⟩ : ∃ T, T = (l.drop 24).take 16 := ⟨_, rfl⟩
  have aF : Adr F := by rw [hF]; exact ⟨by simp; omega, ho.cut 8 16⟩
  have aT : Adr T := by rw [hT]; exact ⟨by simp; omega, ho.cut 24 16⟩
  have gF : Hid (∀ k, k < 16 → l.getD (8 + k) 0 = F.getD k 0) := fun k hk => by rw [hF]; simp [List.getElem?_take, hk, List.getElem?_drop]
  have gT : Hid (∀ k, k < 16 → l.getD (24 + k) 0 = T.getD k 0) := fun k hk => by rw [hT]; simp [List.getElem?_take, hk, List.getElem?_drop]
  have HF := hid hF
  have HT := hid hT
  have X5 : Hid (Row ((w4.setCell ⟨g5, 3, none⟩ (.int .i64 y3)).setCell ⟨g5, 4, none⟩ (.int .i64 y4)).drew g5 24 (Hd.cs ⟨y0, y1, y2, y3, y4, mix F 0, mix T 0⟩)) := by
    have := (X4.out.set 3 (.int .i64 y3)).set 4 (.int .i64 y4)
    rw [Hd.set3, Hd.set4] at this
    exact this
  have Z5 : Hid (Row ((w4.setCell ⟨g5, 3, none⟩ (.int .i64 y3)).setCell ⟨g5, 4, none⟩ (.int .i64 y4)).drew w.heap.size 24 Hd.zero.cs) := (Z4.out.other ⟨g5, 3, none⟩ (.int .i64 y3) (by simp; omega)).other ⟨g5, 4, none⟩ (.int .i64 y4) (by simp; omega)
  have B5 : Hid (Below w.heap.size w ((w4.setCell ⟨g5, 3, none⟩ (.int .i64 y3)).setCell ⟨g5, 4, none⟩ (.int .i64 y4)).drew) := bdrew (Below.setCell (Below.setCell B4.out (p := ⟨g5, 3, none⟩) (by simp; omega) (.int .i64 y3)) (p := ⟨g5, 4, none⟩) (by simp; omega) (.int .i64 y4)) 1
  generalize ((w4.setCell ⟨g5, 3, none⟩ (.int .i64 y3)).setCell ⟨g5, 4, none⟩ (.int .i64 y4)).drew = w5 at *
  clear q6 q7 cD fD cE fE X4 Z4 B4 hF hT
  generalize IntKind.i64.wrap (IntKind.i64.wrap (IntKind.i64.wrap (x1.tmod 16) * 65536) + IntKind.i64.wrap (IntKind.i64.wrap x2 * 256)) = ug0
  generalize IntKind.i64.wrap (IntKind.i64.wrap (x1.tmod 16) * 65536) = ug1
  generalize IntKind.i64.wrap (IntKind.i64.wrap x2 * 256) = ug2
  generalize IntKind.i64.wrap (x1.tmod 16) = ug3
  generalize x1.tmod 16 = ug4
  generalize IntKind.i64.wrap x2 = ug5
  generalize IntKind.i64.wrap x3 = ug6
  generalize IntKind.i64.wrap (IntKind.i64.wrap (x0.tmod 16) * 16) = ug7
  generalize IntKind.i64.wrap (x0.tmod 16) = ug8
  generalize x0.tmod 16 = ug9
  generalize IntKind.i64.wrap (IntKind.u8.wrap (x1.tdiv 16)) = ug10
  generalize IntKind.u8.wrap (x1.tdiv 16) = ug11
  generalize IntKind.i64.wrap (IntKind.i64.wrap x4 * 256) = ug12
  generalize IntKind.i64.wrap x4 = ug13
  generalize IntKind.i64.wrap x5 = ug14
  go_loopw [6] (fun i wr => ∃ k : Nat, k ≤ 16 ∧ i = .int .i64 k ∧ Hid (Row wr g5 24 (Hd.cs ⟨y0, y1, y2, y3, y4, mix F k, mix T k⟩)) ∧ Hid (Row wr w.heap.size 24 Hd.zero.cs) ∧ Hid (Below w.heap.size w wr)) (fun i _ => 16 - (intOf i).toNat)
  case atStart => exact ⟨0, Nat.zero_le _, rfl, X5, Z5, B5⟩
  case round =>
    obtain ⟨k, hk, rfl, X, Z, B⟩ := hrel
    by_cases hlt : k < 16
    · have hlt' : (k : Int) < 16 := by omega
      have kk : (Hd.mk y0 y1 y2 y3 y4 (mix F k) (mix T k)).ok := ⟨mix_adr aF k (by omega), mix_adr aT k (by omega)⟩
      have qa := UP.out wr (8 + k) B.out (by omega)
      have qb := UP.out wr (24 + k) B.out (by omega)
      rw [gF.out k hlt] at qa
      rw [gT.out k hlt] at qb
      have ca := (X.out.cell (5 + k)).trans (Hd.atF kk k hlt)
      have fa := X.out.frozen (5 + k)
      have cb := (X.out.cell (21 + k)).trans (Hd.atT kk k hlt)
      have fb := X.out.frozen (21 + k)
      obtain ⟨n8, h8⟩ : ∃ n, n = 8 + k := ⟨_, rfl⟩
      obtain ⟨n24, h24⟩ : ∃ n, n = 24 + k := ⟨_, rfl⟩
      rw [← h8] at qa
      rw [← h24] at qb
      have ia : n8 < len := by omega
      have ib : n24 < len := by omega
      have ja : (n8 : Int) < len := by omega
      have jb : (n24 : Int) < len := by omega
      have ea : IntKind.i64.wrap (8 + (k : Int)) = (n8 : Int) := by rw [w64 _ (by omega) (by omega)]; omega
      have eb : IntKind.i64.wrap (24 + (k : Int)) = (n24 : Int) := by rw [w64 _ (by omega) (by omega)]; omega
      clear h8 h24
      have Xn : Hid (∀ xa xb, F.getD k 0 = xa → T.getD k 0 = xb → Row ((wr.setCell ⟨g5, 5 + k, none⟩ (.int .u8 xa)).setCell ⟨g5, 21 + k, none⟩ (.int .u8 xb)).drew g5 24 (Hd.cs ⟨y0, y1, y2, y3, y4, mix F (k + 1), mix T (k + 1)⟩)) := by
        rintro xa xb rfl rfl
        have := (X.out.set (5 + k) (.int .u8 (F.getD k 0))).set (21 + k) (.int .u8 (T.getD k 0))
        rw [Hd.setAtF kk k hlt, Hd.setAtT (Hd.setF_ok kk (by rw [mix_next aF.1 k hlt]; exact mix_adr aF (k + 1) (by omega))) k hlt] at this
        simp only [Hd.setF, Hd.setT] at this
        rw [mix_next aF.1 k hlt, mix_next aT.1 k hlt] at this
        exact this
      have Zn : Hid (∀ xa xb, Row ((wr.setCell ⟨g5, 5 + k, none⟩ (.int .u8 xa)).setCell ⟨g5, 21 + k, none⟩ (.int .u8 xb)).drew w.heap.size 24 Hd.zero.cs) := fun xa xb => (Z.out.other ⟨g5, 5 + k, none⟩ (.int .u8 xa) (by simp; omega)).other ⟨g5, 21 + k, none⟩ (.int .u8 xb) (by simp; omega)
      have Bn : Hid (∀ xa xb, Below w.heap.size w ((wr.setCell ⟨g5, 5 + k, none⟩ (.int .u8 xa)).setCell ⟨g5, 21 + k, none⟩ (.int .u8 xb)).drew) := fun xa xb => bdrew (Below.setCell (Below.setCell B.out (p := ⟨g5, 5 + k, none⟩) (by simp; omega) (.int .u8 xa)) (p := ⟨g5, 21 + k, none⟩) (by simp; omega) (.int .u8 xb)) 1
      have Xn' := hid (Xn.out _ _ rfl rfl)
      generalize F.getD k 0 = xa at *
      generalize T.getD k 0 = xb at *
      clear gF gT HF HT UP HC Xn kk X Z B
      go_wp2_with fail
      go_region_held3 (fun w' => w'.cell? ⟨b, off + n8, none⟩ = some (.int .u8 xa) ∧ w'.cell? ⟨b, off + n24, none⟩ = some (.int .u8 xb)) (go_keep) (fail)
      go_wp2_with fail
      go_roundw
      case rel => exact ⟨k + 1, by omega, by go_num, Xn'.out, Zn.out xa xb, Bn.out xa xb⟩
      case measure => simp [intOf]; omega
    · obtain rfl : k = 16 := by omega
      rw [mix_all aF.1, mix_all aT.1] at X
      have HD : Hid ((⟨y0, y1, y2, y3, y4, F, T⟩ : Hd) = decH l) := by
        rw [Hid, decH_eq ho (by omega), E0.out, E1.out, E2.out, E3.out, E4.out, E5.out, E6.out, E7.out, Hy0.out, Hy1.out, Hy2.out, Hy3.out, Hy4.out, HF.out, HT.out]
      have hln := decH_ln ho (by omega : 40 ≤ l.length)
      have hk := decH_ok ho (by omega : 40 ≤ l.length)
      rw [HD.out] at X
      have cF := (X.out.cell 2).trans (Hd.at2 _)
      clear HF HT gF gT UP HC E0 E1 E2 E3 E4 E5 E6 E7 Hy0 Hy1 Hy2 Hy3 Hy4 HD
      generalize decH l = H at *
      obtain ⟨hl0, hl1⟩ := hln
      have ht : decide ((16 : Int) < 16) = false := by decide
      by_cases hA : (len : Int) - 40 < H.ln
      · go_wp2_with (first
          | (refine bd24z rfl rfl ?_)
          | (refine st24 _ _ rfl rfl w.heap.size Hd.zero Hd.zero_ok rfl rfl 24 Hd.zero Hd.zero_ok Z.out ?_))
        exact bodyPost_ret (res24f rfl _ _ w.heap.size 24 Hd.zero Hd.zero_ok (.slice none 0 0) (.int .i64 4) rfl rfl rfl (Z.out.setRow _)) rfl ⟨none, 0, 0, by rw [(PA.out hA).1, (PA.out hA).2.1], by rw [(PA.out hA).2.2]; exact Lies.nil _ _, below_setRow' B.out (Nat.le_refl _) _⟩
      · have hA' : decide ((len : Int) - 40 < H.ln) = false := by simp; omega
        by_cases hB : H.ln < (len : Int) - 40
        · go_wp2_with (first
            | (refine bd24z rfl rfl ?_)
            | (refine st24 _ _ rfl rfl w.heap.size Hd.zero Hd.zero_ok rfl rfl 24 Hd.zero Hd.zero_ok Z.out ?_))
          exact bodyPost_ret (res24f rfl _ _ w.heap.size 24 Hd.zero Hd.zero_ok (.slice none 0 0) (.int .i64 3) rfl rfl rfl (Z.out.setRow _)) rfl ⟨none, 0, 0, by rw [(PB.out hB).1, (PB.out hB).2.1], by rw [(PB.out hB).2.2]; exact Lies.nil _ _, below_setRow' B.out (Nat.le_refl _) _⟩
        · have hB' : decide (H.ln < (len : Int) - 40) = false := by simp; omega
          by_cases hcap : cap = 40
          · obtain rfl : len = 40 := by omega
            subst hcap
            go_wp2_with fail
            refine wp_region_held_drew (S := fun w' => Row w' g5 24 H.cs) (by kernel_rfl) ?_ (fun hHeld => ?_)
            · exact X.out
            refine wpAnyH_take (i := 0) (oi := _) (v := .agg H.cs) rfl (by kernel_rfl) (by kernel_rfl) (by kernel_rfl) (fun _ _ _ h => h) (yields_ld (by rfl) 24 _ rfl g5 rfl H.cs _ (fun w h => h.part) Try.underlying24 rfl (by rw [Hd.size hk]; exact size24)) (by assumption) ?_
            try simp only [List.getElem_toArray, List.getElem_cons_zero, List.getElem_cons_succ, Act.put, List.setIfInBounds_toArray, List.set_cons_zero, List.set_cons_succ]
            refine wpAnyH_take (i := 1) (oi := _) (v := ?vr1) rfl (by kernel_rfl) (by kernel_rfl) (by kernel_rfl) (fun _ _ _ h => h) (Or.inl ⟨by rfl, ?hyr1⟩) (by assumption) ?restr1
            case hyr1 => (intro w hSw; (try dsimp only at hSw); go_split_ands; go_simp; try (with_reducible rfl))
            try simp only [List.getElem_toArray, List.getElem_cons_zero, List.getElem_cons_succ, Act.put, List.setIfInBounds_toArray, List.set_cons_zero, List.set_cons_succ]
            refine wpAnyH_take (i := 2) (oi := _) (v := ?vr2) rfl (by kernel_rfl) (by kernel_rfl) (by kernel_rfl) (fun _ _ _ h => h) (Or.inl ⟨by rfl, ?hyr2⟩) (by assumption) ?restr2
            case hyr2 => (intro w hSw; (try dsimp only at hSw); go_split_ands; go_simp; try (with_reducible rfl))
            try simp only [List.getElem_toArray, List.getElem_cons_zero, List.getElem_cons_succ, Act.put, List.setIfInBounds_toArray, List.set_cons_zero, List.set_cons_succ]
            refine wpAnyH_ready (rs := [3]) (by kernel_rfl) (by simp) ?_
            refine AllReadyH.cons (o := _) rfl (fun K hK => ?_) AllReadyH.nil
            refine step_st rfl 24 _ _ rfl w.heap.size H.cs rfl rfl 24 Hd.zero.cs (Z.out.drewN 1) (by rw [Hd.size hk]; exact size24) (by rw [Hd.size hk, Hd.size Hd.zero_ok]) H.one ?_
            refine hK.out _ _ (Row.rowOther (X.out.drewN 1) w.heap.size H.cs (by omega)) (fun hHeld => ?_)
            clear hK K
            try simp only [List.getElem_toArray, List.getElem_cons_zero, List.getElem_cons_succ, Act.put, List.setIfInBounds_toArray, List.set_cons_zero, List.set_cons_succ]
            refine wpAnyH_take (i := 4) (oi := _) (v := ?vr4) rfl (by kernel_rfl) (by kernel_rfl) (by kernel_rfl) (fun _ _ _ h => h) (Or.inl ⟨by rfl, ?hyr4⟩) (by assumption) ?restr4
            case hyr4 => (intro w hSw; (try dsimp only at hSw); go_split_ands; go_simp; try (with_reducible rfl))
            try simp only [List.getElem_toArray, List.getElem_cons_zero, List.getElem_cons_succ, Act.put, List.setIfInBounds_toArray, List.set_cons_zero, List.set_cons_succ]
            refine wpAnyH_take (i := 5) (oi := _) (v := ?vr5) rfl (by kernel_rfl) (by kernel_rfl) (by kernel_rfl) (fun _ _ _ h => h) (Or.inl ⟨by rfl, ?hyr5⟩) (by assumption) ?restr5
            case hyr5 => (intro w hSw; (try dsimp only at hSw); go_split_ands; go_simp; try (with_reducible rfl))
            try simp only [List.getElem_toArray, List.getElem_cons_zero, List.getElem_cons_succ, Act.put, List.setIfInBounds_toArray, List.set_cons_zero, List.set_cons_succ]
            refine wpAnyH_done (by kernel_rfl) ?_ _
            go_wp2_with fail
            have bE : Below w.heap.size w ((wr.drewN 1).setRow w.heap.size H.cs) := below_setRow' (bdrew B.out 1) (Nat.le_refl _) _
            refine bodyPost_ret (res24f rfl _ _ w.heap.size 24 H hk (.slice (some ⟨b, off, none⟩) 0 0) (.int .i64 0) rfl rfl rfl (Row.setRow (Z.out.drewN 1) _)) rfl ⟨_, _, _, by rw [(PC.out hA hB).1, (PC.out hA hB).2.1], ?_, bE⟩
            rw [(PC.out hA hB).2.2]
            have hd0 : l.drop 40 = [] := List.drop_eq_nil_of_le (by omega)
            rw [hd0]
            exact ⟨rfl, Nat.le_refl _, by decide, (fun h => by cases h), fun k hk => by omega⟩
          · have hcap' : ¬ (40 = cap) := fun e => hcap e.symm
            go_wp2_with fail
            refine wp_region_held_drew (S := fun w' => Row w' g5 24 H.cs) (by kernel_rfl) ?_ (fun hHeld => ?_)
            · exact X.out
            refine wpAnyH_take (i := 0) (oi := _) (v := .agg H.cs) rfl (by kernel_rfl) (by kernel_rfl) (by kernel_rfl) (fun _ _ _ h => h) (yields_ld (by rfl) 24 _ rfl g5 rfl H.cs _ (fun w h => h.part) Try.underlying24 rfl (by rw [Hd.size hk]; exact size24)) (by assumption) ?_
            try simp only [List.getElem_toArray, List.getElem_cons_zero, List.getElem_cons_succ, Act.put, List.setIfInBounds_toArray, List.set_cons_zero, List.set_cons_succ]
            refine wpAnyH_take (i := 1) (oi := _) (v := ?vs1) rfl (by kernel_rfl) (by kernel_rfl) (by kernel_rfl) (fun _ _ _ h => h) (Or.inl ⟨by rfl, ?hys1⟩) (by assumption) ?rests1
            case hys1 => (intro w hSw; (try dsimp only at hSw); go_split_ands; go_simp; try (with_reducible rfl))
            try simp only [List.getElem_toArray, List.getElem_cons_zero, List.getElem_cons_succ, Act.put, List.setIfInBounds_toArray, List.set_cons_zero, List.set_cons_succ]
            refine wpAnyH_take (i := 2) (oi := _) (v := ?vs2) rfl (by kernel_rfl) (by kernel_rfl) (by kernel_rfl) (fun _ _ _ h => h) (Or.inl ⟨by rfl, ?hys2⟩) (by assumption) ?rests2
            case hys2 => (intro w hSw; (try dsimp only at hSw); go_split_ands; go_simp; try (with_reducible rfl))
            try simp only [List.getElem_toArray, List.getElem_cons_zero, List.getElem_cons_succ, Act.put, List.setIfInBounds_toArray, List.set_cons_zero, List.set_cons_succ]
            refine wpAnyH_ready (rs := [3]) (by kernel_rfl) (by simp) ?_
            refine AllReadyH.cons (o := _) rfl (fun K hK => ?_) AllReadyH.nil
            refine step_st rfl 24 _ _ rfl w.heap.size H.cs rfl rfl 24 Hd.zero.cs (Z.out.drewN 1) (by rw [Hd.size hk]; exact size24) (by rw [Hd.size hk, Hd.size Hd.zero_ok]) H.one ?_
            refine hK.out _ _ (Row.rowOther (X.out.drewN 1) w.heap.size H.cs (by omega)) (fun hHeld => ?_)
            clear hK K
            try simp only [List.getElem_toArray, List.getElem_cons_zero, List.getElem_cons_succ, Act.put, List.setIfInBounds_toArray, List.set_cons_zero, List.set_cons_succ]
            refine wpAnyH_take (i := 4) (oi := _) (v := ?vs4) rfl (by kernel_rfl) (by kernel_rfl) (by kernel_rfl) (fun _ _ _ h => h) (Or.inl ⟨by rfl, ?hys4⟩) (by assumption) ?rests4
            case hys4 => (intro w hSw; (try dsimp only at hSw); go_split_ands; go_simp; try (with_reducible rfl))
            try simp only [List.getElem_toArray, List.getElem_cons_zero, List.getElem_cons_succ, Act.put, List.setIfInBounds_toArray, List.set_cons_zero, List.set_cons_succ]
            refine wpAnyH_take (i := 5) (oi := _) (v := ?vs5) rfl (by kernel_rfl) (by kernel_rfl) (by kernel_rfl) (fun _ _ _ h => h) (Or.inl ⟨by rfl, ?hys5⟩) (by assumption) ?rests5
            case hys5 => (intro w hSw; (try dsimp only at hSw); go_split_ands; go_simp; try (with_reducible rfl))
            try simp only [List.getElem_toArray, List.getElem_cons_zero, List.getElem_cons_succ, Act.put, List.setIfInBounds_toArray, List.set_cons_zero, List.set_cons_succ]
            refine wpAnyH_done (by kernel_rfl) ?_ _
            go_wp2_with fail
            have bE : Below w.heap.size w ((wr.drewN 1).setRow w.heap.size H.cs) := below_setRow' (bdrew B.out 1) (Nat.le_refl _) _
            refine bodyPost_ret (res24f rfl _ _ w.heap.size 24 H hk (.slice (some ⟨b, off + 40, none⟩) (len - 40) (cap - 40)) (.int .i64 0) rfl rfl rfl (Row.setRow (Z.out.drewN 1) _)) rfl ⟨_, _, _, by rw [(PC.out hA hB).1, (PC.out hA hB).2.1], ?_, bE⟩
            rw [(PC.out hA hB).2.2]
            have hc := (HLs.out.below bE).cut 40 (len - 40) cap (by omega) (by omega) (Nat.le_refl _) (a' := some ⟨b, off + 40, none⟩) (fun _ => by simp [Addr.add_lit]) (fun e => absurd e hcap)
            rwa [List.take_of_length_le (by simp; omega)] at hc
end Go.Proofs.Ytmpkemlnpmephaa
