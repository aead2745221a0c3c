/- What addr's Groups and Of answer. -/
import Derived.Test.YtoijfnkbjdekoaaDoorNode
namespace Go.Proofs.YtoijfnkbjdekoaaDoor
open Go.ChangeShapes Go.WideShapes Go.ChangeAt Go.RowKit
set_option linter.unusedVariables false
set_option linter.unusedSimpArgs false

/-- The groups of an address. -/
def grp (l : List Int) (i : Nat) : Int := 256 * l.getD (2 * i) 0 + l.getD (2 * i + 1) 0
def grpL (l : List Int) : List Int := (List.range 8).map (grp l)
theorem grpL_len (l : List Int) : (grpL l).length = 8 := rfl
/-- The first k groups, and 0 behind them. -/
def grpK (l : List Int) (k : Nat) : List Int := (List.range k).map (grp l) ++ List.replicate (8 - k) 0
theorem grpK_next (l : List Int) (k : Nat) (h : k < 8) : (grpK l k).set k (grp l k) = grpK l (k + 1) := by
  obtain ⟨m, hm⟩ : ∃ m, 8 - k = m + 1 := ⟨7 - k, by omega⟩
  have hm' : 8 - (k + 1) = m := by omega
  have e1 : grpK l k = (List.range k).map (grp l) ++ (0 :: List.replicate m 0) := by rw [grpK, hm, List.replicate_succ]
  have e2 : grpK l (k + 1) = (List.range k).map (grp l) ++ (grp l k :: List.replicate m 0) := by rw [grpK, hm', List.range_succ]; simp
  rw [e1, e2, List.set_append_right _ _ (by simp)]
  simp

theorem or_add (x y : Int) (hx : 0 ≤ x ∧ x < 256) (hy : 0 ≤ y ∧ y < 256) : Go.bits BinOp.or IntKind.i64 (x * 256) y = 256 * x + y := by
  obtain ⟨A, rfl⟩ := Int.eq_ofNat_of_zero_le hx.1
  obtain ⟨B, rfl⟩ := Int.eq_ofNat_of_zero_le hy.1
  have e : A * 256 ||| B = A * 256 + B := by
    have := Nat.shiftLeft_add_eq_or_of_lt (i := 8) (b := B) (by omega) A
    rw [Nat.shiftLeft_eq] at this
    simpa using this.symm
  have c : ((A : Int) * 256) = ((A * 256 : Nat) : Int) := by omega
  show IntKind.i64.wrap ((BitVec.ofInt 64 ((A : Int) * 256) ||| BitVec.ofInt 64 (B : Int)).toNat : Int) = _
  rw [c, BitVec.toNat_or, BitVec.ofInt_natCast, BitVec.ofInt_natCast, BitVec.toNat_ofNat, BitVec.toNat_ofNat, Nat.mod_eq_of_lt (by omega), Nat.mod_eq_of_lt (by omega), e]
  simp only [IntKind.wrap, IntKind.bits, IntKind.signed]
  simp; omega

set_option maxHeartbeats 1600000 in
theorem groups_any (l : List Int) (w : World) (ha : Adr l) :
    Calls Tryd.prog 8 #[.agg (u8s l)] w fun e w' => e = .returned (.agg (i64s (grpL l))) ∧ Below w.heap.size w w' := by
  obtain ⟨hl, hv⟩ := ha
  have HV : Hid (∀ x ∈ l, 0 ≤ x ∧ x < 256) := hv
  have HL : Hid (l.length = 16) := hl
  clear hv hl
  go_enter Tryd.func8, Tryd.ntmps8
  go_wp2
  go_loopw [5] (fun i wr => ∃ k : Nat, k ≤ 8 ∧ i = .int .i64 k ∧ Hid (Row wr w.heap.size 25 (u8s l)) ∧ Hid (Row wr (w.heap.size + 1) 23 (i64s (List.replicate 8 0))) ∧ Hid (Row wr (w.heap.size + 2) 23 (i64s (grpK l k))) ∧ Below w.heap.size w wr)
    (fun i _ => 8 - (intOf i).toNat)
  case atStart =>
    refine ⟨0, Nat.zero_le _, rfl, ?_, ?_, ?_, below_new3 w _ _ _⟩
    · exact ((Row.new w 25 (u8s l)).alloc _).alloc _
    · have := (Row.new (w.alloc (.cells (u8s l) 25)) 23 (i64s (List.replicate 8 0))).alloc (.cells (i64s (List.replicate 8 0)) 23)
      rw [World.size_alloc] at this
      exact this
    · have := Row.new ((w.alloc (.cells (u8s l) 25)).alloc (.cells (i64s (List.replicate 8 0)) 23)) 23 (i64s (List.replicate 8 0))
      rw [World.size_alloc, World.size_alloc] at this
      exact this
  case round =>
    obtain ⟨k, hk, rfl, HA, HR, HG, hb⟩ := hrel
    by_cases hlt : k < 8
    · have c1 : wr.cell? ⟨w.heap.size, 2 * k, none⟩ = some (.int .u8 (l.getD (2 * k) 0)) := by rw [HA.out.cell, u8s_at _ _ (by rw [HL.out]; omega)]
      have c2 : wr.cell? ⟨w.heap.size, 2 * k + 1, none⟩ = some (.int .u8 (l.getD (2 * k + 1) 0)) := by rw [HA.out.cell, u8s_at _ _ (by rw [HL.out]; omega)]
      have hx := HV.out _ (getD_mem (k := 2 * k) (by rw [HL.out]; omega))
      have hy := HV.out _ (getD_mem (k := 2 * k + 1) (by rw [HL.out]; omega))
      have c3 : ∃ z, wr.cell? ⟨w.heap.size + 2, k, none⟩ = some (.int .i64 z) := ⟨_, by rw [HG.out.cell, i64s_at _ _ (by simp [grpK]; omega)]⟩
      have hfz := HG.out.frozen k
      obtain ⟨z, c3⟩ := c3
      have HN : Hid (∀ y, y = grp l k → Row (wr.setCell ⟨w.heap.size + 2, k, none⟩ (.int .i64 y)) (w.heap.size + 2) 23 (i64s (grpK l (k + 1)))) := by
        rintro y rfl; rw [← grpK_next l k hlt, ← i64s_set]; exact HG.out.set k _
      have HQ : Hid (grp l k = 256 * l.getD (2 * k) 0 + l.getD (2 * k + 1) 0) := rfl
      have t1 : (2 * (k : Int)).toNat = 2 * k := by omega
      have t2 : (2 * (k : Int) + 1).toNat = 2 * k + 1 := by omega
      have t3 : (0 : Int) ≤ 2 * (k : Int) := by omega
      have t4 : 2 * (k : Int) < 16 := by omega
      have t5 : 2 * (k : Int) + 1 < 16 := by omega
      have t6 : (0 : Int) ≤ 2 * (k : Int) + 1 := by omega
      generalize l.getD (2 * k) 0 = x at *
      generalize l.getD (2 * k + 1) 0 = y at *
      go_wp2
      go_region
      go_wp2
      go_roundw
      case rel =>
        refine ⟨k + 1, by omega, by go_num, HA.out.other _ _ (by show w.heap.size ≠ w.heap.size + 1 + 1; omega), HR.out.other _ _ (by show w.heap.size + 1 ≠ w.heap.size + 1 + 1; omega), HN.out _ ?_, (hb.setCell (by show w.heap.size ≤ w.heap.size + 1 + 1; omega) _).drew⟩
        rw [HQ.out]; exact or_add x y hx hy
      case measure => simp [intOf]; omega
    · obtain rfl : k = 8 := by omega
      have hG : Row wr (w.heap.size + 1 + 1) 23 (i64s (grpL l)) := HG.out.as (by rw [grpK]; simp [grpL])
      have hR : Row wr (w.heap.size + 1) 23 (i64s (List.replicate 8 0)) := HR.out
      go_wp2_with (first
        | (refine ld23 _ rfl rfl (w.heap.size + 1 + 1) 0 rfl (grpL l) rfl hG.part ?_)
        | (refine st23 _ _ rfl rfl (w.heap.size + 1) (grpL l) rfl rfl rfl 23 _ (by rfl) hR ?_))
      refine bodyPost_ret (res23 rfl _ _ _ 23 (grpL l) rfl rfl (hR.setRow _)) rfl ⟨rfl, ?_⟩
      exact below_setRow hb (by omega) _

/-! Of: the address that has some groups. -/
def okG (x : Int) : Bool := decide (0 ≤ x ∧ x ≤ 65535)
def ofL : List Int → List Int
  | [] => []
  | x :: r => x / 256 :: x % 256 :: ofL r
theorem ofL_len (l : List Int) : (ofL l).length = 2 * l.length := by induction l <;> simp [ofL]; omega
theorem ofL_append (l m : List Int) : ofL (l ++ m) = ofL l ++ ofL m := by induction l <;> simp_all [ofL]
def ofB (l : List Int) : Bool := decide (l.length = 8) && l.all okG
def ofA (l : List Int) : List Int := if ofB l then ofL l else zeros
def ofE (l : List Int) : Int := if ofB l then 0 else 1
theorem adr_ofL {l : List Int} (h : l.length = 8) (ho : l.all okG = true) : Adr (ofL l) := by
  refine ⟨by rw [ofL_len, h], ?_⟩
  clear h
  induction l with
  | nil => simp [ofL]
  | cons x r ih =>
    simp only [List.all_cons, Bool.and_eq_true] at ho
    have hx : 0 ≤ x ∧ x ≤ 65535 := by simpa [okG] using ho.1
    intro y hy
    simp only [ofL, List.mem_cons] at hy
    rcases hy with rfl | rfl | hy
    · omega
    · omega
    · exact ih ho.2 y hy
theorem adr_ofA (l : List Int) : Adr (ofA l) := by
  unfold ofA; split
  · rename_i h; simp only [ofB, Bool.and_eq_true, decide_eq_true_eq] at h; exact adr_ofL h.1 h.2
  · exact adr_zeros
/-- The first k groups' bytes, and 0 behind them. -/
def ofK (l : List Int) (k : Nat) : List Int := ofL (l.take k) ++ List.replicate (16 - 2 * k) 0
theorem ofK_next (l : List Int) (k : Nat) (h : k < l.length) (h8 : k < 8) : ((ofK l k).set (2 * k) (l.getD k 0 / 256)).set (2 * k + 1) (l.getD k 0 % 256) = ofK l (k + 1) := by
  obtain ⟨m, hm⟩ : ∃ m, 16 - 2 * k = m + 1 + 1 := ⟨14 - 2 * k, by omega⟩
  have hm' : 16 - 2 * (k + 1) = m := by omega
  have hl : (ofL (l.take k)).length = 2 * k := by rw [ofL_len, List.length_take]; omega
  have e1 : ofK l k = ofL (l.take k) ++ (0 :: 0 :: List.replicate m 0) := by rw [ofK, hm, List.replicate_succ, List.replicate_succ]
  have e2 : ofK l (k + 1) = ofL (l.take k) ++ (l.getD k 0 / 256 :: l.getD k 0 % 256 :: List.replicate m 0) := by
    rw [ofK, hm', List.take_succ_eq_append_getElem h, ofL_append]; simp [ofL, h]
  rw [e1, e2, List.set_append_right _ _ (by omega), hl, Nat.sub_self, List.set_append_right _ _ (by omega), hl]
  simp
theorem all_take_succ (zs : List Int) (k : Nat) (h : k < zs.length) (p : Int → Bool) : (zs.take (k + 1)).all p = ((zs.take k).all p && p (zs.getD k 0)) := by
  rw [List.take_succ_eq_append_getElem h, List.all_append]; simp [h]
theorem all_false (zs : List Int) (k : Nat) (h : k < zs.length) (p : Int → Bool) (hp : p (zs.getD k 0) = false) : zs.all p = false := by
  rw [List.all_eq_false]; exact ⟨zs[k], List.getElem_mem h, by simpa [h] using hp⟩

/-- Numbers in a slice: it is nil or leads to a row of cells of its length at least. -/
def Lies (w : World) (a : Option Addr) (len : Nat) (l : List Int) : Prop :=
  l.length = len ∧ ∀ k, k < len → ∃ b off, a = some ⟨b, off, none⟩ ∧ w.cell? ⟨b, off + k, none⟩ = some (.int .i64 (l.getD k 0)) ∧ b < w.heap.size
theorem Lies.below {w w' : World} {a : Option Addr} {len : Nat} {l : List Int} (h : Lies w a len l) (hb : Below w.heap.size w w') : Lies w' a len l :=
  ⟨h.1, fun k hk => by obtain ⟨b, off, e, c, hlt⟩ := h.2 k hk; exact ⟨b, off, e, (hb.cell (p := ⟨b, off + k, none⟩) hlt).trans c, Nat.lt_of_lt_of_le hlt hb.size⟩⟩

set_option maxHeartbeats 1600000 in
theorem of_any (a : Option Addr) (len cap : Nat) (l : List Int) (w : World) (h : Lies w a len l) (hm : len ≤ 4611686018427387904) :
    Calls Tryd.prog 9 #[.slice a len cap] w fun e w' => e = .returned (.tuple #[.agg (u8s (ofA l)), .int .i64 (ofE l)]) ∧ Below w.heap.size w w' := by
  have hR : Row (w.alloc (.cells (u8s zeros) 25)) w.heap.size 25 (u8s zeros) := Row.new w 25 _
  have hz := zadr
  by_cases h8 : len = 8
  · subst h8
    obtain ⟨hl, hc⟩ := h
    have HL : Hid (l.length = 8) := hl
    have HC : Hid _ := hc
    clear hl hc
    go_enter Tryd.func9, Tryd.ntmps9
    go_wp2
    go_loopw [13] (fun i wr => ∃ k : Nat, k ≤ 8 ∧ i = .int .i64 k ∧ Hid (Row wr w.heap.size 25 (u8s zeros)) ∧ Hid (Row wr (w.heap.size + 1) 25 (u8s (ofK l k))) ∧ Hid ((l.take k).all okG = true) ∧ Below w.heap.size w wr)
      (fun i _ => 8 - (intOf i).toNat)
    case atStart =>
      refine ⟨0, Nat.zero_le _, rfl, ?_, ?_, rfl, below_new2 w _ _⟩
      · exact hR.alloc _
      · have := Row.new (w.alloc (.cells (u8s zeros) 25)) 25 (u8s zeros)
        rw [World.size_alloc] at this
        exact this
    case round =>
      obtain ⟨k, hk, rfl, HR, HA, HO, hb⟩ := hrel
      by_cases hlt : k < 8
      · obtain ⟨b, off, rfl, hcell, hbw⟩ := HC.out k hlt
        have hcell : wr.cell? ⟨b, off + k, none⟩ = some (.int .i64 (l.getD k 0)) := (hb.cell (p := ⟨b, off + k, none⟩) hbw).trans hcell
        have hs := all_take_succ l k (by rw [HL.out]; exact hlt) okG
        have hf := all_false l k (by rw [HL.out]; exact hlt) okG
        have f1 := HA.out.frozen (2 * k)
        have f2 := HA.out.frozen (2 * k + 1)
        have c1 : ∃ z, wr.cell? ⟨w.heap.size + 1, 2 * k, none⟩ = some (.int .u8 z) := ⟨_, by rw [HA.out.cell, u8s_at _ _ (by simp [ofK, ofL_len, HL.out]; omega)]⟩
        have c2 : ∃ z, wr.cell? ⟨w.heap.size + 1, 2 * k + 1, none⟩ = some (.int .u8 z) := ⟨_, by rw [HA.out.cell, u8s_at _ _ (by simp [ofK, ofL_len, HL.out]; omega)]⟩
        obtain ⟨z1, c1⟩ := c1
        obtain ⟨z2, c2⟩ := c2
        have HN : Hid (Row ((wr.setCell ⟨w.heap.size + 1, 2 * k, none⟩ (.int .u8 (l.getD k 0 / 256))).setCell ⟨w.heap.size + 1, 2 * k + 1, none⟩ (.int .u8 (l.getD k 0 % 256))) (w.heap.size + 1) 25 (u8s (ofK l (k + 1)))) := by
          rw [← ofK_next l k (by rw [HL.out]; exact hlt) hlt, ← u8s_set, ← u8s_set]; exact (HA.out.set _ _).set _ _
        have t1 : (2 * (k : Int)).toNat = 2 * k := by omega
        have t2 : (2 * (k : Int) + 1).toNat = 2 * k + 1 := by omega
        have t3 : (0 : Int) ≤ 2 * (k : Int) := by omega
        have t4 : 2 * (k : Int) < 16 := by omega
        have t5 : 2 * (k : Int) + 1 < 16 := by omega
        have t6 : (0 : Int) ≤ 2 * (k : Int) + 1 := by omega
        have hokz : okG (l.getD k 0) = decide (0 ≤ l.getD k 0 ∧ l.getD k 0 ≤ 65535) := rfl
        generalize l.getD k 0 = x at *
        have HS : Hid _ := hs
        have HF : Hid _ := hf
        have HZ : Hid _ := hokz
        clear hs hf hokz
        have c : x < 0 ∨ 65535 < x ∨ (0 ≤ x ∧ x ≤ 65535) := by omega
        rcases c with c | c | c
        · have hE : Hid (ofA l = zeros ∧ ofE l = 1) := by
            have : okG x = false := by rw [HZ.out]; simp; omega
            have := HF.out this
            simp [Hid, ofA, ofE, ofB, this]
          go_wp2_with (refine st25 _ _ rfl rfl w.heap.size zeros zeros_len rfl rfl 25 _ (by rfl) HR.out ?_)
          obtain ⟨e1, e2⟩ := hE.out
          refine bodyPost_ret (res25e rfl _ _ _ 25 zeros zeros_len (.int .i64 1) rfl rfl (HR.out.setRow _)) rfl ⟨by rw [e1, e2], ?_⟩
          exact below_setRow hb (by omega) _
        · have hE : Hid (ofA l = zeros ∧ ofE l = 1) := by
            have : okG x = false := by rw [HZ.out]; simp; omega
            have := HF.out this
            simp [Hid, ofA, ofE, ofB, this]
          have c0 : decide (x < 0) = false := by simp; omega
          go_wp2_with (refine st25 _ _ rfl rfl w.heap.size zeros zeros_len rfl rfl 25 _ (by rfl) HR.out ?_)
          obtain ⟨e1, e2⟩ := hE.out
          refine bodyPost_ret (res25e rfl _ _ _ 25 zeros zeros_len (.int .i64 1) rfl rfl (HR.out.setRow _)) rfl ⟨by rw [e1, e2], ?_⟩
          exact below_setRow hb (by omega) _
        · have c0 : decide (x < 0) = false := by simp; omega
          have c9 : decide (65535 < x) = false := by simp; omega
          have m1 : x / 256 % 256 = x / 256 := by omega
          go_wp2
          go_roundw
          case rel =>
            refine ⟨k + 1, by omega, by go_num, (HR.out.other _ _ (by show w.heap.size ≠ w.heap.size + 1; omega)).other _ _ (by show w.heap.size ≠ w.heap.size + 1; omega), HN.out, ?_, (hb.setCell (by show w.heap.size ≤ w.heap.size + 1; omega) _).setCell (by show w.heap.size ≤ w.heap.size + 1; omega) _⟩
            show _ = true
            rw [HS.out, HO.out, HZ.out]; simp; omega
          case measure => simp [intOf]; omega
      · obtain rfl : k = 8 := by omega
        have hall : l.all okG = true := by have := HO.out; rwa [List.take_of_length_le (by rw [HL.out]; omega)] at this
        have hB : ofB l = true := by simp [ofB, HL.out, hall]
        have hE : Hid (ofA l = ofL l ∧ ofE l = 0) := by simp [Hid, ofA, ofE, hB]
        have hln : (ofL l).length = 16 := by rw [ofL_len, HL.out]
        have hA : Row wr (w.heap.size + 1) 25 (u8s (ofL l)) := HA.out.as (by rw [ofK, List.take_of_length_le (by rw [HL.out]; omega)]; simp)
        clear hB hall
        go_wp2_with (first
          | (refine ld25 _ rfl rfl (w.heap.size + 1) 0 rfl (ofL l) hln hA.part ?_)
          | (refine st25 _ _ rfl rfl w.heap.size (ofL l) hln rfl rfl 25 _ (by rfl) HR.out ?_))
        obtain ⟨e1, e2⟩ := hE.out
        refine bodyPost_ret (res25e rfl _ _ _ 25 (ofL l) hln (.int .i64 0) rfl rfl (HR.out.setRow _)) rfl ⟨by rw [e1, e2], ?_⟩
        exact below_setRow hb (by omega) _
  · have hE : Hid (ofA l = zeros ∧ ofE l = 1) := by
      have : ofB l = false := by simp [ofB, h.1, h8]
      simp [Hid, ofA, ofE, this]
    have h8' : ((len : Int) != 8) = true := by simp; omega
    clear h
    go_enter Tryd.func9, Tryd.ntmps9
    go_wp2_with (refine st25 _ _ rfl rfl w.heap.size zeros zeros_len rfl rfl 25 _ (by rfl) hR ?_)
    obtain ⟨e1, e2⟩ := hE.out
    refine bodyPost_ret (res25e rfl _ _ _ 25 zeros zeros_len (.int .i64 1) rfl rfl (hR.setRow _)) rfl ⟨by rw [e1, e2], ?_⟩
    exact below_setRow (below_new w _) (by omega) _
end Go.Proofs.YtoijfnkbjdekoaaDoor
