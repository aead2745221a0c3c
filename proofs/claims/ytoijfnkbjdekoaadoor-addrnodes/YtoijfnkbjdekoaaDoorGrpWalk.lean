/- AddrGroups: its walk. -/
import Derived.Test.YtoijfnkbjdekoaaDoorKnown
namespace Go.Proofs.YtoijfnkbjdekoaaDoor
open Go.ChangeShapes Go.WideShapes Go.ChangeAt Go.RowKit
set_option linter.unusedVariables false
set_option linter.unusedSimpArgs false

/-- What is known of a slice of numbers that came in: it is nil, or it leads to a row of 'cap' cells that hold the numbers 'zs'. -/
def IsRow (k : IntKind) (w : World) (a : Option Addr) (len cap : Nat) (zs : List Int) : Prop :=
  (a = none ∧ len = 0 ∧ cap = 0 ∧ zs = []) ∨
  ∃ x, a = some x ∧ len ≤ cap ∧ cap ≤ maxLen ∧ zs.length = cap ∧ (∀ i, i < zs.length → w.cell? (x.add i) = some (.int k (zs.getD i 0))) ∧ ∀ n ∈ zs, (Lit.int k n).wf = true

theorem IsRow.lies {w : World} {a : Option Addr} {len cap : Nat} {zs : List Int} (h : IsRow .i64 w a len cap zs) : Lies w a len (zs.take len) ∧ len ≤ cap ∧ cap ≤ maxLen := by
  rcases h with ⟨rfl, rfl, rfl, rfl⟩ | ⟨x, rfl, hlc, hcm, hz, hcell, hwf⟩
  · exact ⟨⟨rfl, fun k hk => by omega⟩, by omega, by decide⟩
  · refine ⟨⟨by simp; omega, fun k hk => ?_⟩, hlc, hcm⟩
    have h0 := hcell 0 (by omega)
    have hsp : x.spot = none := by
      have e0 : w.cell? x = some (.int .i64 (zs.getD 0 0)) := by simpa [Addr.add] using h0
      exact World.cell?_spot e0
    obtain ⟨b, off, spot⟩ := x
    simp at hsp
    subst hsp
    have hk' := hcell k (by omega)
    rw [Addr.add_mid] at hk'
    refine ⟨b, off, rfl, ?_, World.block_lt_of_cell? w _ hk'⟩
    rw [hk']
    simp [List.getD, List.getElem?_take, hk]
theorem Lies.pre {w : World} {a : Option Addr} {len : Nat} {l : List Int} (h : Lies w a len l) (n : Nat) (hn : n ≤ len) : Lies w a n (l.take n) := by
  refine ⟨by rw [List.length_take, h.1]; omega, fun k hk => ?_⟩
  obtain ⟨b, off, he, hc, hb⟩ := h.2 k (by omega)
  refine ⟨b, off, he, ?_, hb⟩
  rw [hc]; simp [List.getD, List.getElem?_take, hk]

theorem st22 {ops : Array Oper} {rest : List Oper} {o : Oper} {a : Act} {w : World} {Q : Exit → Act → World → Prop} (x y : Operand) (ho : o.op = .store 22 x y) (hgd : o.guard = none) (g : Nat) (l : List Int) (hl : l.length = 16) (hx : a.eval x = .pointer (some ⟨g, 0, none⟩)) (hy : a.eval y = .agg (u8s l)) (t : TypeId) (old : Array Value) (hold : old.size = 16) (hg : Row w g t old)
    (h : wpList Tryd.prog ops Q rest (a.put o.dst undef) (w.setRow g (u8s l))) : wpList Tryd.prog ops Q (o :: rest) a w :=
  wp_st 22 x y ho hgd g (u8s l) hx hy (by rw [u8s_size, hl]; exact size22) (u8s_one l) t old (by rw [u8s_size, hl, hold]) hg h
theorem tdiv256 (x : Int) (h : 0 ≤ x) : x.tdiv 256 = x / 256 := Int.tdiv_eq_ediv_of_nonneg h
theorem tmod256 (x : Int) (h : 0 ≤ x) : x.tmod 256 = x % 256 := Int.tmod_eq_emod_of_nonneg h

set_option maxHeartbeats 1600000 in
theorem refOf_any (g : List Int) (w : World) (hl : g.length = 8) (hv : g.all okG = true) :
    Calls Tryd.prog 15 #[.agg (i64s g)] w fun e w' => e = .returned (.agg (u8s (ofL g))) ∧ Below w.heap.size w w' := by
  have HL : Hid (g.length = 8) := hl
  have HV : Hid (∀ x ∈ g, 0 ≤ x ∧ x ≤ 65535) := fun x hx => by have := List.all_eq_true.1 hv x hx; simpa [okG] using this
  have hz := zadr
  clear hl hv
  go_enter Tryd.func15, Tryd.ntmps15
  go_wp2
  go_loopw [4] (fun i wr => ∃ k : Nat, k ≤ 8 ∧ i = .int .i64 k ∧ Hid (Row wr w.heap.size 23 (i64s g)) ∧ Hid (Row wr (w.heap.size + 1) 22 (u8s zeros)) ∧ Hid (Row wr (w.heap.size + 2) 22 (u8s (ofK g k))) ∧ Below w.heap.size w wr)
    (fun i _ => 8 - (intOf i).toNat)
  case atStart =>
    refine ⟨0, Nat.zero_le _, rfl, ?_, ?_, ?_, below_new3 w _ _ _⟩
    · exact ((Row.new w 23 (i64s g)).alloc _).alloc _
    · have := (Row.new (w.alloc (.cells (i64s g) 23)) 22 (u8s zeros)).alloc (.cells (u8s zeros) 22)
      rw [World.size_alloc] at this
      exact this
    · have := Row.new ((w.alloc (.cells (i64s g) 23)).alloc (.cells (u8s zeros) 22)) 22 (u8s zeros)
      rw [World.size_alloc, World.size_alloc] at this
      exact this
  case round =>
    obtain ⟨k, hk, rfl, HA, HR, HG, hb⟩ := hrel
    by_cases hlt : k < 8
    · have hkl : k < g.length := by rw [HL.out]; exact hlt
      have hc : wr.cell? ⟨w.heap.size, k, none⟩ = some (.int .i64 (g.getD k 0)) := by rw [HA.out.cell, i64s_at _ _ hkl]
      have hx := HV.out _ (getD_mem hkl)
      have f1 := HG.out.frozen (2 * k)
      have f2 := HG.out.frozen (2 * k + 1)
      have c1 : ∃ z, wr.cell? ⟨w.heap.size + 2, 2 * k, none⟩ = some (.int .u8 z) := ⟨_, by rw [HG.out.cell, u8s_at _ _ (by simp [ofK, ofL_len, HL.out]; omega)]⟩
      have c2 : ∃ z, wr.cell? ⟨w.heap.size + 2, 2 * k + 1, none⟩ = some (.int .u8 z) := ⟨_, by rw [HG.out.cell, u8s_at _ _ (by simp [ofK, ofL_len, HL.out]; omega)]⟩
      obtain ⟨z1, c1⟩ := c1
      obtain ⟨z2, c2⟩ := c2
      have HN : Hid (Row ((wr.setCell ⟨w.heap.size + 2, 2 * k, none⟩ (.int .u8 (g.getD k 0 / 256))).setCell ⟨w.heap.size + 2, 2 * k + 1, none⟩ (.int .u8 (g.getD k 0 % 256))) (w.heap.size + 2) 22 (u8s (ofK g (k + 1)))) := by
        rw [← ofK_next g k hkl hlt, ← u8s_set, ← u8s_set]; exact (HG.out.set _ _).set _ _
      have t1 : (2 * (k : Int)).toNat = 2 * k := by omega
      have t2 : (2 * (k : Int) + 1).toNat = 2 * k + 1 := by omega
      have t3 : (0 : Int) ≤ 2 * (k : Int) := by omega
      have t4 : 2 * (k : Int) < 16 := by omega
      have t5 : 2 * (k : Int) + 1 < 16 := by omega
      have t6 : (0 : Int) ≤ 2 * (k : Int) + 1 := by omega
      clear hkl
      generalize g.getD k 0 = x at *
      have d1 := tdiv256 x hx.1
      have d2 := tmod256 x hx.1
      have m1 : x / 256 % 256 = x / 256 := by omega
      have m2 : x % 256 % 256 = x % 256 := by omega
      go_wp2
      refine ⟨⟨k + 1, by omega, by go_num, ?_, ?_, ?_, ?_⟩, by simp [intOf]; omega⟩
      · exact (HA.out.other _ _ (by show w.heap.size ≠ w.heap.size + 1 + 1; omega)).other _ _ (by show w.heap.size ≠ w.heap.size + 1 + 1; omega)
      · exact (HR.out.other _ _ (by show w.heap.size + 1 ≠ w.heap.size + 1 + 1; omega)).other _ _ (by show w.heap.size + 1 ≠ w.heap.size + 1 + 1; omega)
      · exact HN.out
      · exact (hb.setCell (by show w.heap.size ≤ w.heap.size + 1 + 1; omega) _).setCell (by show w.heap.size ≤ w.heap.size + 1 + 1; omega) _
    · obtain rfl : k = 8 := by omega
      have hln : (ofL g).length = 16 := by rw [ofL_len, HL.out]
      have hG : Row wr (w.heap.size + 1 + 1) 22 (u8s (ofL g)) := HG.out.as (by rw [ofK, List.take_of_length_le (by rw [HL.out]; omega)]; simp)
      go_wp2_with (first
        | (refine ld22 _ rfl rfl (w.heap.size + 1 + 1) 0 rfl (ofL g) hln hG.part ?_)
        | (refine st22 _ _ rfl rfl (w.heap.size + 1) (ofL g) hln rfl rfl 22 _ (by rfl) HR.out ?_))
      refine bodyPost_ret (res22 rfl _ _ _ 22 (ofL g) hln rfl (HR.out.setRow _)) rfl ⟨rfl, ?_⟩
      exact below_setRow hb (by omega) _

/-- The first k numbers, and 0 behind them. -/
def numK (l : List Int) (k : Nat) : List Int := l.take k ++ List.replicate (8 - k) 0
theorem numK_next (l : List Int) (k : Nat) (h : k < l.length) (h8 : k < 8) : (numK l k).set k (l.getD k 0) = numK l (k + 1) := by
  obtain ⟨m, hm⟩ : ∃ m, 8 - k = m + 1 := ⟨7 - k, by omega⟩
  have hm' : 8 - (k + 1) = m := by omega
  have hl : (l.take k).length = k := by rw [List.length_take]; omega
  have e1 : numK l k = l.take k ++ (0 :: List.replicate m 0) := by rw [numK, hm, List.replicate_succ]
  have e2 : numK l (k + 1) = l.take k ++ (l.getD k 0 :: List.replicate m 0) := by rw [numK, hm', List.take_succ_eq_append_getElem h, List.append_assoc]; simp [h]
  rw [e1, e2, List.set_append_right _ _ (by omega), hl, Nat.sub_self]
  rfl
theorem row_range {w : World} {b : Nat} {t : TypeId} {l : List Int} (h : Row w b t (i64s l)) : w.rangeAt b 0 (i64c l) := fun j v hv => by
  rw [Nat.zero_add, h.cell]
  simpa [i64s, i64c] using hv

set_option maxRecDepth 1000000 in
set_option maxHeartbeats 3200000 in
theorem groups_walk (a : Option Addr) (len cap : Nat) (zs : List Int) (w : World) (hr : IsRow .i64 w a len cap zs) (hV : Vars w) :
    Calls Tryd.prog 4 #[.slice a len cap] w fun e w' => e = .returned (.bool true) ∧ Below w.heap.size w w' := by
  obtain ⟨hL0, hlc, hcm⟩ := hr.lies
  unfold maxLen at hcm
  obtain ⟨m, hm⟩ : ∃ m, min len 20 = m := ⟨_, rfl⟩
  have hm20 : m ≤ 20 := by omega
  have hml : m ≤ len := by omega
  have hL := hL0.pre m hml
  have hmin : min (len : Int) 20 = (m : Int) := by omega
  generalize (zs.take len).take m = L at *
  have hof := of_any a m cap L w hL (by omega)
  have HL : Hid (Lies w a m L) := hL
  have hLm : Hid (L.length = m) := hL.1
  have hbd : (m : Int) ≤ (cap : Int) := by omega
  have hz := zadr
  have z8 := z8
  have hAd := adr_ofA L
  have HB : Hid (ofB L = (decide (m = 8) && L.all okG)) := by show _ = _; rw [ofB, hLm.out]
  have HE : Hid (ofE L = if ofB L then 0 else 1) := rfl
  have HA : Hid (ofA L = if ofB L then ofL L else zeros) := rfl
  obtain ⟨b8, hb8⟩ : ∃ b8, ((m : Int) == 8) = b8 := ⟨_, rfl⟩
  have HB8 : Hid (b8 = decide (m = 8)) := by show _ = _; rw [← hb8]; by_cases h : m = 8 <;> simp [h]; omega
  generalize ofA L = A at *
  generalize ofE L = E at *
  clear hr hL0 hL hm hlc
  go_enter Tryd.func4, Tryd.ntmps4
  go_wp2_with fail
  refine hof.mono ?_
  rintro e w0 ⟨rfl, hb0⟩
  have B0 : Hid (Below w.heap.size w w0) := hb0
  clear hb0 hof
  have NA := Row.new w0 25 (u8s zeros)
  go_wp2_with (first
    | (refine st25 _ _ rfl rfl w0.heap.size A hAd.1 rfl rfl 25 _ (by rfl) NA ?_; have RA1 : Row ((w0.alloc (.cells (u8s zeros) 25)).setRow w0.heap.size (u8s A)) w0.heap.size 25 (u8s A) := NA.setRow _; have B1 : Hid (Below w.heap.size w ((w0.alloc (.cells (u8s zeros) 25)).setRow w0.heap.size (u8s A))) := below_setRow (B0.out.alloc B0.out.size _) B0.out.size _; generalize ((w0.alloc (.cells (u8s zeros) 25)).setRow w0.heap.size (u8s A)) = w2 at *))
  go_loopw [5, 7] (fun vo vi wr => ∃ (k : Nat) (ok : Bool), k ≤ m ∧ k ≤ 8 ∧ vo = .bool ok ∧ vi = .int .i64 (k : Int) ∧ Hid (ok = (b8 && (L.take k).all okG)) ∧ Hid (Row wr w2.heap.size 23 (i64s (numK L k))) ∧ Hid (Row wr w0.heap.size 25 (u8s A)) ∧ Hid (Below w.heap.size w wr))
    (fun _ vi _ => 8 - (intOf vi).toNat)
  case atStart =>
    refine ⟨0, b8, by omega, by omega, rfl, rfl, by simp [Hid], ?_, RA1.alloc _, B1.out.alloc B1.out.size _⟩
    exact Row.new w2 23 (i64s z8L)
  case round =>
    obtain ⟨k, ok, hkm, hk8, rfl, rfl, HOK, RG, RA, B4⟩ := hrel
    by_cases hlt : k < m ∧ k < 8
    · obtain ⟨hlt1, hlt2⟩ := hlt
      have i1 : (k : Int) < (m : Int) := by omega
      have i2 : (k : Int) < 8 := by omega
      obtain ⟨b, off, rfl, hcell, hbw⟩ := HL.out.2 k hlt1
      have hcell : wr.cell? ⟨b, off + k, none⟩ = some (.int .i64 (L.getD k 0)) := (B4.out.cell (p := ⟨b, off + k, none⟩) hbw).trans hcell
      have hs := all_take_succ L k (by rw [hLm.out]; exact hlt1) okG
      have f1 := RG.out.frozen k
      have c1 : ∃ z, wr.cell? ⟨w2.heap.size, k, none⟩ = some (.int .i64 z) := ⟨_, by rw [RG.out.cell, i64s_at _ _ (by simp [numK, hLm.out]; omega)]⟩
      obtain ⟨z1, c1⟩ := c1
      have HN : Hid (Row (wr.setCell ⟨w2.heap.size, k, none⟩ (.int .i64 (L.getD k 0))) w2.heap.size 23 (i64s (numK L (k + 1)))) := by
        rw [← numK_next L k (by rw [hLm.out]; exact hlt1) hlt2, ← i64s_set]; exact RG.out.set _ _
      have hokz : okG (L.getD k 0) = decide (0 ≤ L.getD k 0 ∧ L.getD k 0 ≤ 65535) := rfl
      generalize L.getD k 0 = x at *
      have HS : Hid ((L.take (k + 1)).all okG = ((L.take k).all okG && okG x)) := hs
      have HZ : Hid (okG x = decide (0 ≤ x ∧ x ≤ 65535)) := hokz
      clear hs hokz
      have hlow : w.heap.size ≤ w2.heap.size := B1.out.size
      have R9 : Hid (Row (wr.setCell ⟨w2.heap.size, k, none⟩ (.int .i64 x)) w0.heap.size 25 (u8s A)) := RA.out.other _ _ (Nat.ne_of_lt RA1.lt)
      have B9 : Hid (Below w.heap.size w (wr.setCell ⟨w2.heap.size, k, none⟩ (.int .i64 x))) := B4.out.setCell hlow _
      cases ok
      · have O9 : Hid (false = (b8 && (L.take (k + 1)).all okG)) := by rw [Hid, HS.out, ← Bool.and_assoc, ← HOK.out]; rfl
        go_wp2
        go_roundw
        case rel => exact ⟨k + 1, false, by omega, by omega, rfl, by go_num, O9, HN, R9, B9⟩
        case measure => simp [intOf]; omega
      · by_cases x0 : 0 ≤ x
        · by_cases x1 : x ≤ 65535
          · have O9 : Hid (true = (b8 && (L.take (k + 1)).all okG)) := by rw [Hid, HS.out, ← Bool.and_assoc, ← HOK.out, HZ.out]; simp [x0, x1]
            go_wp2
            go_roundw
            case rel => exact ⟨k + 1, true, by omega, by omega, rfl, by go_num, O9, HN, R9, B9⟩
            case measure => simp [intOf]; omega
          · have O9 : Hid (false = (b8 && (L.take (k + 1)).all okG)) := by rw [Hid, HS.out, ← Bool.and_assoc, ← HOK.out, HZ.out]; simp; omega
            have y1 : decide (x ≤ 65535) = false := decide_eq_false x1
            go_wp2
            go_roundw
            case rel => exact ⟨k + 1, false, by omega, by omega, rfl, by go_num, O9, HN, R9, B9⟩
            case measure => simp [intOf]; omega
        · have O9 : Hid (false = (b8 && (L.take (k + 1)).all okG)) := by rw [Hid, HS.out, ← Bool.and_assoc, ← HOK.out, HZ.out]; simp; omega
          have y1 : decide (0 ≤ x) = false := decide_eq_false x0
          go_wp2
          go_roundw
          case rel => exact ⟨k + 1, false, by omega, by omega, rfl, by go_num, O9, HN, R9, B9⟩
          case measure => simp [intOf]; omega
    · have HOB : Hid (ok = ofB L) := by
        show ok = ofB L
        rw [HOK.out, HB.out, HB8.out]
        by_cases h8 : m = 8
        · have : k = 8 := by omega
          subst this
          rw [List.take_of_length_le (by rw [hLm.out]; omega)]
        · simp [h8]
      have hex : ((k : Int) < (m : Int) ∧ decide ((k : Int) < 8) = false ∧ decide (k < 8) = false) ∨ (decide ((k : Int) < (m : Int)) = false ∧ decide (k < m) = false) := by
        by_cases h1 : k < m
        · exact Or.inl ⟨by omega, decide_eq_false (by omega), decide_eq_false (by omega)⟩
        · exact Or.inr ⟨decide_eq_false (by omega), decide_eq_false (by omega)⟩
      cases ok
      · have hE1 : E = 1 := by rw [HE.out, ← HOB.out]; rfl
        have hA1 : A = zeros := by rw [HA.out, ← HOB.out]; rfl
        subst hE1
        subst hA1
        have q := eq25 zeros zeros rfl rfl
        rw [beq_self_eq_true] at q
        rcases hex with ⟨x1, x2, x2'⟩ | ⟨x2, x2'⟩
        all_goals
          go_wp2_with (first
            | (go_at_call 14; refine (known_any _ (hV.grow B4.out)).mono ?_; rintro e w5 ⟨rfl, hb5⟩; have RA5 := RA.out.below hb5 RA.out.lt; have B5 : Hid (Below w.heap.size w w5) := B4.out.trans (hb5.mono B4.out.size); clear hb5)
            | (refine ld25 _ rfl rfl w0.heap.size 0 rfl zeros rfl RA5.part ?_))
          go_ret
          exact ⟨rfl, B5.out⟩
      · have hE1 : E = 0 := by rw [HE.out, ← HOB.out]; rfl
        have hA1 : A = ofL L := by rw [HA.out, ← HOB.out]; rfl
        subst hE1
        subst hA1
        have hob : ofB L = true := HOB.out.symm
        have h88 : m = 8 ∧ L.all okG = true := by rw [HB.out] at hob; simpa using hob
        have hL8 : L.length = 8 := by rw [hLm.out]; exact h88.1
        have hok := h88.2
        have hm8 : m = 8 := h88.1
        have hk : k = 8 := by omega
        clear hex hob h88
        subst hm8
        subst hk
        have RG8 : Hid (Row wr w2.heap.size 23 (i64s L)) := RG.out.as (by rw [numK, List.take_of_length_le (by omega)]; simp)
        have q := eq25 (ofL L) (ofL L) (by rw [ofL_len, hL8]) (by rw [ofL_len, hL8])
        rw [beq_self_eq_true] at q
        have sz1 : (Tryd.prog.info? 25).map (·.size) = some (cl (ofL L)).length := by rw [cl_len, ofL_len, hL8]; exact size25
        have sz2 : (Tryd.prog.info? 23).map (·.size) = some (i64c L).length := by rw [i64c, List.length_map, hL8]; exact size23
        have RL : Hid (w0.heap.size < wr.heap.size ∧ w2.heap.size < wr.heap.size) := ⟨RA.out.lt, RG.out.lt⟩
        clear RG
        go_wp2_with fail
        refine wp_region_held_drew (S := (fun w' => w'.rangeAt w0.heap.size 0 (cl (ofL L)) ∧ w'.rangeAt (w2.heap.size) 0 (i64c L) ∧ Vars w')) (by kernel_rfl) ?_ (fun hHeld => ?_)
        · exact ⟨RA.out.part.range, row_range RG8.out, hV.grow B4.out.drew⟩
        refine wpAnyH_ready (rs := [0]) (by kernel_rfl) (by simp) ?_
        refine AllReadyH.cons (o := _) rfl (fun K hK => ?_) AllReadyH.nil
        go_simp
        refine (known_any _ hHeld.2.2).mono ?_; rintro e w5 ⟨rfl, hb5⟩; have B5 : Hid (Below _ _ w5) := hb5; have s1 := range_below hHeld.1 B5.out RL.out.1; have s2 := range_below hHeld.2.1 B5.out RL.out.2; have s3 := hHeld.2.2.grow B5.out; have RL5 : Hid (w0.heap.size < w5.heap.size ∧ w2.heap.size < w5.heap.size) := ⟨Nat.lt_of_lt_of_le RL.out.1 B5.out.size, Nat.lt_of_lt_of_le RL.out.2 B5.out.size⟩; clear hb5 hHeld
        go_wp2_with fail
        refine hK.out _ _ ⟨s1, s2, s3⟩ (fun hHeld => ?_)
        clear hK K
        try simp only [Act.put, List.setIfInBounds_toArray, List.set_cons_zero, List.set_cons_succ]
        refine wpAnyH_take (i := 1) (oi := _) (v := ?v1) rfl (by kernel_rfl) (by kernel_rfl) (by kernel_rfl) (fun _ _ _ h => h) (Or.inl ⟨by rfl, ?hy1⟩) (by assumption) ?rest1
        case hy1 => (intro w hSw; (try dsimp only at hSw); go_split_ands; go_simp; try (with_reducible rfl))
        try simp only [List.getElem_toArray, List.getElem_cons_zero, List.getElem_cons_succ, Act.put, List.setIfInBounds_toArray, List.set_cons_zero, List.set_cons_succ]
        refine wpAnyH_take (i := 2) (oi := _) (v := ?v2) rfl (by kernel_rfl) (by kernel_rfl) (by kernel_rfl) (fun _ _ _ h => h) (Or.inl ⟨by rfl, ?hy2⟩) (by assumption) ?rest2
        case hy2 => (intro w hSw; (try dsimp only at hSw); go_split_ands; go_simp; try (with_reducible rfl))
        try simp only [List.getElem_toArray, List.getElem_cons_zero, List.getElem_cons_succ, Act.put, List.setIfInBounds_toArray, List.set_cons_zero, List.set_cons_succ]
        refine wpAnyH_take (i := 3) (oi := _) (v := ?v3) rfl (by kernel_rfl) (by kernel_rfl) (by kernel_rfl) (fun _ _ _ h => h) (Or.inl ⟨by rfl, ?hy3⟩) (by assumption) ?rest3
        case hy3 => (intro w hSw; (try dsimp only at hSw); go_split_ands; go_simp; try (with_reducible rfl))
        try simp only [List.getElem_toArray, List.getElem_cons_zero, List.getElem_cons_succ, Act.put, List.setIfInBounds_toArray, List.set_cons_zero, List.set_cons_succ]
        refine wpAnyH_take (i := 4) (oi := _) (v := ?v4) rfl (by kernel_rfl) (by kernel_rfl) (by kernel_rfl) (fun _ _ _ h => h) (Or.inl ⟨by rfl, ?hy4⟩) (by assumption) ?rest4
        case hy4 => (intro w hSw; (try dsimp only at hSw); go_split_ands; go_simp; try (with_reducible rfl))
        try simp only [List.getElem_toArray, List.getElem_cons_zero, List.getElem_cons_succ, Act.put, List.setIfInBounds_toArray, List.set_cons_zero, List.set_cons_succ]
        refine wpAnyH_take (i := 5) (oi := _) (v := ?v5) rfl (by kernel_rfl) (by kernel_rfl) (by kernel_rfl) (fun _ _ _ h => h) (Or.inl ⟨by rfl, ?hy5⟩) (by assumption) ?rest5
        case hy5 => (intro w hSw; (try dsimp only at hSw); go_split_ands; go_simp; try (with_reducible rfl))
        try simp only [List.getElem_toArray, List.getElem_cons_zero, List.getElem_cons_succ, Act.put, List.setIfInBounds_toArray, List.set_cons_zero, List.set_cons_succ]
        refine wpAnyH_take (i := 6) (oi := _) (v := .agg (u8s (ofL L))) rfl (by kernel_rfl) (by kernel_rfl) (by kernel_rfl) (fun _ _ _ h => h) (yieldsIf_load_mid (by rfl) 25 _ rfl w0.heap.size 0 rfl (cl (ofL L)) _ (fun w h => h.1) Tryd.underlying25 rfl sz1) (by assumption) ?_
        try simp only [List.getElem_toArray, List.getElem_cons_zero, List.getElem_cons_succ, Act.put, List.setIfInBounds_toArray, List.set_cons_zero, List.set_cons_succ]
        refine wpAnyH_take (i := 7) (oi := _) (v := .agg (i64s L)) rfl (by kernel_rfl) (by kernel_rfl) (by kernel_rfl) (fun _ _ _ h => h) (yieldsIf_load_mid (by rfl) 23 _ rfl w2.heap.size 0 rfl (i64c L) _ (fun w h => h.2.1) Tryd.underlying23 rfl sz2) (by assumption) ?_
        try simp only [List.getElem_toArray, List.getElem_cons_zero, List.getElem_cons_succ, Act.put, List.setIfInBounds_toArray, List.set_cons_zero, List.set_cons_succ]
        refine wpAnyH_ready (rs := [8]) (by kernel_rfl) (by simp) ?_
        refine AllReadyH.cons (o := _) rfl (fun K hK => ?_) AllReadyH.nil
        go_simp
        refine (refOf_any L _ hL8 hok).mono ?_; rintro e w6 ⟨rfl, hb6⟩; have B6 : Hid (Below _ _ w6) := hb6; have s4 := range_below hHeld.1 B6.out RL5.out.1; have s5 := range_below hHeld.2.1 B6.out RL5.out.2; have s6 := hHeld.2.2.grow B6.out; clear hb6 hHeld
        go_wp2_with fail
        refine hK.out _ _ ⟨s4, s5, s6⟩ (fun hHeld => ?_)
        clear hK K
        try simp only [Act.put, List.setIfInBounds_toArray, List.set_cons_zero, List.set_cons_succ]
        refine wpAnyH_take (i := 9) (oi := _) (v := ?v9) rfl (by kernel_rfl) (by kernel_rfl) (by kernel_rfl) (fun _ _ _ h => h) (Or.inl ⟨by rfl, ?hy9⟩) (by assumption) ?rest9
        case hy9 => (intro w hSw; (try dsimp only at hSw); go_split_ands; go_simp; try (with_reducible rfl))
        try simp only [List.getElem_toArray, List.getElem_cons_zero, List.getElem_cons_succ, Act.put, List.setIfInBounds_toArray, List.set_cons_zero, List.set_cons_succ]
        refine wpAnyH_take (i := 10) (oi := _) (v := ?v10) rfl (by kernel_rfl) (by kernel_rfl) (by kernel_rfl) (fun _ _ _ h => h) (Or.inl ⟨by rfl, ?hy10⟩) (by assumption) ?rest10
        case hy10 => (intro w hSw; (try dsimp only at hSw); go_split_ands; go_simp; try (with_reducible rfl))
        try simp only [List.getElem_toArray, List.getElem_cons_zero, List.getElem_cons_succ, Act.put, List.setIfInBounds_toArray, List.set_cons_zero, List.set_cons_succ]
        refine wpAnyH_take (i := 11) (oi := _) (v := ?v11) rfl (by kernel_rfl) (by kernel_rfl) (by kernel_rfl) (fun _ _ _ h => h) (Or.inl ⟨by rfl, ?hy11⟩) (by assumption) ?rest11
        case hy11 => (intro w hSw; (try dsimp only at hSw); go_split_ands; go_simp; try (with_reducible rfl))
        try simp only [List.getElem_toArray, List.getElem_cons_zero, List.getElem_cons_succ, Act.put, List.setIfInBounds_toArray, List.set_cons_zero, List.set_cons_succ]
        refine wpAnyH_done (by kernel_rfl) ?_ _
        go_wp2
        go_ret
        refine ⟨rfl, ?_⟩
        have b5 : Below wr.heap.size wr w5 := ⟨B5.out.os, B5.out.tape, B5.out.output, B5.out.size, B5.out.block⟩
        have b6 : Below w5.heap.size w5 w6 := ⟨B6.out.os, B6.out.tape, B6.out.output, B6.out.size, B6.out.block⟩
        have c5 := B4.out.trans (b5.mono B4.out.size)
        exact c5.trans (b6.mono c5.size)
end Go.Proofs.YtoijfnkbjdekoaaDoor
