/- The slice of prefixes that the law makes; the longest that has an address. -/
import Derived.Test.YtoijfnkbjdekoaaDoorEqp
import Derived.Test.YtoijfnkbjdekoaaDoorKnown
import Derived.Deep.RegionHeld3
namespace Go.Proofs.YtoijfnkbjdekoaaDoor
open Go.ChangeShapes Go.WideShapes Go.ChangeAt Go.RowKit
set_option linter.unusedVariables false
set_option linter.unusedSimpArgs false

set_option maxRecDepth 100000 in
theorem pre_of {w : World} {b off : Nat} {l : List Int} {n : Int} (h : Part w b off (pfx l n)) : Part w b off (u8s l) := fun j v hv => h j v (by
  have hj : j < (u8s l).size := (Array.getElem?_eq_some_iff.1 hv).1
  rw [pfx, Array.getElem?_push, if_neg (by omega)]; exact hv)
theorem bit_of {w : World} {b off : Nat} {l : List Int} {n : Int} (h : Part w b off (pfx l n)) (hl : l.length = 16) : w.cell? ⟨b, off + 16, none⟩ = some (.int .i64 n) := h 16 _ (by rw [pfx, Array.getElem?_push, u8s_size, hl]; rfl)

theorem yieldsIf_bd42 {ops : Array Oper} {S : World → Prop} {op : Oper} {a : Act} (hw : Region.wanted op (yielded ops a.tmps) = true) (x y : Operand) (ho : op.op = .build 42 #[(0, x), (1, y)])
    (l : List Int) (n : Int) (hl : l.length = 16) (hx : a.eval x = .agg (u8s l)) (hy : a.eval y = .int .i64 n) : YieldsIf Tryd.prog ops S op (.agg (pfx l n)) a :=
  .inl ⟨hw, fun w _ => by
    have hf : Tryd.prog.built 42 ((#[(0, x), (1, y)] : Array (Nat × Operand)).map fun (i, x) => (i, a.eval x)).toList = some (pfx l n) := by
      simp only [List.map_toArray, List.map_cons, List.map_nil, hx, hy]; exact built42 l n hl
    unfold execOp
    simp only [ho, Sem.run_bind, run_build w 42 _ (pfx l n) hf, Result.andThen_ok]
    rfl⟩
theorem bdrew {B : Nat} {w wr w' : World} (h : Below B w wr) (h2 : Below B wr.drew w') : Below B w w' := h.trans ⟨h2.os, h2.tape, h2.output, h2.size, h2.block⟩

set_option maxRecDepth 100000 in
set_option maxHeartbeats 1600000 in
theorem prefixes_any (a : Option Addr) (len cap : Nat) (z : List (List Int × Int)) (w : World) (hz : PfxsAt w a len cap z) :
    Calls Tryd.prog 23 #[.slice a len cap] w fun e w' => ∃ ao co, e = .returned (.slice ao (min len 20) co) ∧ PfxsAt w' ao (min len 20) co (z.take 20) ∧ Below w.heap.size w w' := by
  obtain ⟨hzl, hlc, hcm, hza, hcell⟩ := hz
  unfold maxLen at hcm
  have HC : Hid (∀ i, i < len → ∃ b off, a = some ⟨b, off, none⟩ ∧ b < w.heap.size ∧ Part w b (off + 17 * i) (pfx (z.getD i ([], 0)).1 (z.getD i ([], 0)).2)) := hcell
  have HA : Hid (∀ x ∈ z, Adr x.1 ∧ (Lit.int .i64 x.2).wf = true) := hza
  have HL : Hid (z.length = len) := hzl
  obtain ⟨m, hm⟩ : ∃ m, min len 20 = m := ⟨_, rfl⟩
  have m1 : m ≤ len := by omega
  have m2 : m ≤ 20 := by omega
  have m3 : ∀ k, k < m ↔ k < len ∧ k < 20 := by intro k; omega
  have HM : Hid (min len 20 = m) := hm
  have HM3 : Hid (∀ k, k < m ↔ k < len ∧ k < 20) := m3
  clear hcell hza hzl hm m3
  go_enter Tryd.func23, Tryd.ntmps23
  go_wp2_with fail
  go_loopw [3, 4] (fun v i wr => ∃ k : Nat, k ≤ m ∧ i = .int .i64 k ∧ Hid (wr.ownsRow w.heap.size 42 17 v k (flat (z.take k))) ∧ Hid (Below w.heap.size w wr))
    (fun _ i _ => m - (intOf i).toNat)
  case atStart => exact ⟨0, by omega, rfl, World.ownsRow_nil w _ 42 17, Below.refl _ _⟩
  case round =>
    obtain ⟨k, hk, rfl, HO, HB⟩ := hrel
    by_cases hlt : k < m
    · have i1 : (k : Int) < (len : Int) := by omega
      have i2 : (k : Int) < 20 := by omega
      have i3 : k < len := by omega
      obtain ⟨b, off, rfl, hblt, hpart⟩ := HC.out k i3
      have hmem : z.getD k ([], 0) ∈ z := by rw [List.getD_eq_getElem?_getD, List.getElem?_eq_getElem (by rw [HL.out]; omega)]; exact List.getElem_mem _
      have hAx := (HA.out _ hmem).1
      have HT : Hid (flat (z.take (k + 1)) = flat (z.take k) ++ (pfx (z.getD k ([], 0)).1 (z.getD k ([], 0)).2).toList) := by
        rw [Hid, flat, flat, List.take_add_one, List.getElem?_eq_getElem (by rw [HL.out]; omega), List.flatMap_append, List.getD_eq_getElem?_getD, List.getElem?_eq_getElem (by rw [HL.out]; omega)]
        simp
      clear hmem
      obtain ⟨L, hL⟩ : ∃ L, (z.getD k ([], 0)).1 = L := ⟨_, rfl⟩
      obtain ⟨M, hM⟩ : ∃ M, (z.getD k ([], 0)).2 = M := ⟨_, rfl⟩
      rw [hL, hM] at hpart
      rw [hL, hM] at HT
      rw [hL] at hAx
      clear hL hM
      rw [Nat.mul_comm] at hpart
      have hpart1 : Part wr b (off + k * 17) (pfx L M) := hpart.below HB.out hblt
      have hrange : wr.rangeAt b (off + k * 17) (cl L) := (pre_of hpart1).range
      have hbit : wr.cell? ⟨b, off + k * 17 + 16, none⟩ = some (.int .i64 M) := bit_of hpart1 hAx.1
      have szL : (Tryd.prog.info? 22).map (·.size) = some (cl L).length := by rw [cl_len, hAx.1]; exact size22
      clear hpart hpart1
      have hbase : w.heap.size ≤ wr.drew.heap.size := HB.out.size
      have hbw : b < wr.drew.heap.size := Nat.lt_of_lt_of_le hblt hbase
      go_wp2_with fail
      refine wp_region_held_drew (S := (fun w' => w'.rangeAt b (off + k * 17) (cl L) ∧ w'.cell? ⟨b, off + k * 17 + 16, none⟩ = some (.int .i64 M))) (by kernel_rfl) ?_ (fun hHeld => ?_)
      · exact ⟨hrange, hbit⟩
      refine wpAnyH_take (i := 0) (oi := _) (v := ?vp0) rfl (by kernel_rfl) (by kernel_rfl) (by kernel_rfl) (fun _ _ _ h => h) (Or.inl ⟨by rfl, ?hyp0⟩) (by assumption) ?restp0
      case hyp0 => (intro w hSw; (try dsimp only at hSw); go_split_ands; go_simp; try (with_reducible rfl))
      try simp only [List.getElem_toArray, List.getElem_cons_zero, List.getElem_cons_succ, Act.put, List.setIfInBounds_toArray, List.set_cons_zero, List.set_cons_succ]
      refine wpAnyH_take (i := 1) (oi := _) (v := ?vp1) rfl (by kernel_rfl) (by kernel_rfl) (by kernel_rfl) (fun _ _ _ h => h) (Or.inl ⟨by rfl, ?hyp1⟩) (by assumption) ?restp1
      case hyp1 => (intro w hSw; (try dsimp only at hSw); go_split_ands; go_simp; try (with_reducible rfl))
      try simp only [List.getElem_toArray, List.getElem_cons_zero, List.getElem_cons_succ, Act.put, List.setIfInBounds_toArray, List.set_cons_zero, List.set_cons_succ]
      refine wpAnyH_take (i := 2) (oi := _) (v := ?vp2) rfl (by kernel_rfl) (by kernel_rfl) (by kernel_rfl) (fun _ _ _ h => h) (Or.inl ⟨by rfl, ?hyp2⟩) (by assumption) ?restp2
      case hyp2 => (intro w hSw; (try dsimp only at hSw); go_split_ands; go_simp; try (with_reducible rfl))
      try simp only [List.getElem_toArray, List.getElem_cons_zero, List.getElem_cons_succ, Act.put, List.setIfInBounds_toArray, List.set_cons_zero, List.set_cons_succ]
      refine wpAnyH_take (i := 3) (oi := _) (v := ?vp3) rfl (by kernel_rfl) (by kernel_rfl) (by kernel_rfl) (fun _ _ _ h => h) (Or.inl ⟨by rfl, ?hyp3⟩) (by assumption) ?restp3
      case hyp3 => (intro w hSw; (try dsimp only at hSw); go_split_ands; go_simp; try (with_reducible rfl))
      try simp only [List.getElem_toArray, List.getElem_cons_zero, List.getElem_cons_succ, Act.put, List.setIfInBounds_toArray, List.set_cons_zero, List.set_cons_succ]
      refine wpAnyH_take (i := 4) (oi := _) (v := ?vp4) rfl (by kernel_rfl) (by kernel_rfl) (by kernel_rfl) (fun _ _ _ h => h) (Or.inl ⟨by rfl, ?hyp4⟩) (by assumption) ?restp4
      case hyp4 => (intro w hSw; (try dsimp only at hSw); go_split_ands; go_simp; try (with_reducible rfl))
      try simp only [List.getElem_toArray, List.getElem_cons_zero, List.getElem_cons_succ, Act.put, List.setIfInBounds_toArray, List.set_cons_zero, List.set_cons_succ]
      refine wpAnyH_take (i := 5) (oi := _) (v := .agg (u8s L)) rfl (by kernel_rfl) (by kernel_rfl) (by kernel_rfl) (fun _ _ _ h => h) (yieldsIf_load_mid (by rfl) 22 _ rfl b (off + k * 17) rfl (cl L) _ (fun w h => h.1) Tryd.underlying22 rfl szL) (by assumption) ?_
      try simp only [List.getElem_toArray, List.getElem_cons_zero, List.getElem_cons_succ, Act.put, List.setIfInBounds_toArray, List.set_cons_zero, List.set_cons_succ]
      refine wpAnyH_take (i := 6) (oi := _) (v := ?vp6) rfl (by kernel_rfl) (by kernel_rfl) (by kernel_rfl) (fun _ _ _ h => h) (Or.inl ⟨by rfl, ?hyp6⟩) (by assumption) ?restp6
      case hyp6 => (intro w hSw; (try dsimp only at hSw); go_split_ands; go_simp; try (with_reducible rfl))
      try simp only [List.getElem_toArray, List.getElem_cons_zero, List.getElem_cons_succ, Act.put, List.setIfInBounds_toArray, List.set_cons_zero, List.set_cons_succ]
      refine wpAnyH_take (i := 7) (oi := _) (v := ?vp7) rfl (by kernel_rfl) (by kernel_rfl) (by kernel_rfl) (fun _ _ _ h => h) (Or.inl ⟨by rfl, ?hyp7⟩) (by assumption) ?restp7
      case hyp7 => (intro w hSw; (try dsimp only at hSw); go_split_ands; go_simp; try (with_reducible rfl))
      try simp only [List.getElem_toArray, List.getElem_cons_zero, List.getElem_cons_succ, Act.put, List.setIfInBounds_toArray, List.set_cons_zero, List.set_cons_succ]
      refine wpAnyH_take (i := 8) (oi := _) (v := ?vp8) rfl (by kernel_rfl) (by kernel_rfl) (by kernel_rfl) (fun _ _ _ h => h) (Or.inl ⟨by rfl, ?hyp8⟩) (by assumption) ?restp8
      case hyp8 => (intro w hSw; (try dsimp only at hSw); go_split_ands; go_simp; try (with_reducible rfl))
      try simp only [List.getElem_toArray, List.getElem_cons_zero, List.getElem_cons_succ, Act.put, List.setIfInBounds_toArray, List.set_cons_zero, List.set_cons_succ]
      refine wpAnyH_take (i := 9) (oi := _) (v := ?vp9) rfl (by kernel_rfl) (by kernel_rfl) (by kernel_rfl) (fun _ _ _ h => h) (Or.inl ⟨by rfl, ?hyp9⟩) (by assumption) ?restp9
      case hyp9 => (intro w hSw; (try dsimp only at hSw); go_split_ands; go_simp; try (with_reducible rfl))
      try simp only [List.getElem_toArray, List.getElem_cons_zero, List.getElem_cons_succ, Act.put, List.setIfInBounds_toArray, List.set_cons_zero, List.set_cons_succ]
      refine wpAnyH_take (i := 10) (oi := _) (v := ?vp10) rfl (by kernel_rfl) (by kernel_rfl) (by kernel_rfl) (fun _ _ _ h => h) (Or.inl ⟨by rfl, ?hyp10⟩) (by assumption) ?restp10
      case hyp10 => (intro w hSw; (try dsimp only at hSw); go_split_ands; go_simp; try (with_reducible rfl))
      try simp only [List.getElem_toArray, List.getElem_cons_zero, List.getElem_cons_succ, Act.put, List.setIfInBounds_toArray, List.set_cons_zero, List.set_cons_succ]
      refine wpAnyH_take (i := 11) (oi := _) (v := .agg (pfx L M)) rfl (by kernel_rfl) (by kernel_rfl) (by kernel_rfl) (fun _ _ _ h => h) (yieldsIf_bd42 (by rfl) _ _ rfl L M hAx.1 rfl rfl) (by assumption) ?_
      try simp only [List.getElem_toArray, List.getElem_cons_zero, List.getElem_cons_succ, Act.put, List.setIfInBounds_toArray, List.set_cons_zero, List.set_cons_succ]
      refine wpAnyH_ready (rs := [12]) (by kernel_rfl) (by simp) ?_
      refine AllReadyH.cons (o := _) rfl (fun K hK => ?_) AllReadyH.nil
      refine step_bs rfl _ rfl L M hAx.1 rfl ?_
      refine hK.out _ _ ⟨range_below hHeld.1 (below_new wr.drew (.cells (pfx L M) 42)) hbw, (((below_new wr.drew (.cells (pfx L M) 42))).cell (p := ⟨b, off + k * 17 + 16, none⟩) hbw).trans hHeld.2⟩ (fun hHeld2 => ?_)
      clear hK K
      try simp only [List.getElem_toArray, List.getElem_cons_zero, List.getElem_cons_succ, Act.put, List.setIfInBounds_toArray, List.set_cons_zero, List.set_cons_succ]
      refine wpAnyH_ready (rs := [13]) (by kernel_rfl) (by simp) ?_
      refine AllReadyH.cons (o := _) rfl (fun K hK => ?_) AllReadyH.nil
      refine step_push rfl _ _ rfl w.heap.size k _ _ rfl HO.out L M hAx.1 rfl hbase (by omega) ?_
      intro v' w' hown hbel
      refine hK.out _ _ ⟨range_below hHeld.1 hbel hblt, (hbel.cell (p := ⟨b, off + k * 17 + 16, none⟩) hblt).trans hHeld.2⟩ (fun hHeld3 => ?_)
      have HO2 : Hid (w'.ownsRow w.heap.size 42 17 v' (k + 1) (flat (z.take (k + 1)))) := by rw [Hid, HT.out]; exact hown
      have HB2 : Hid (Below w.heap.size w w') := bdrew HB.out hbel
      clear hown hbel hHeld hHeld2
      clear hK K
      try simp only [List.getElem_toArray, List.getElem_cons_zero, List.getElem_cons_succ, Act.put, List.setIfInBounds_toArray, List.set_cons_zero, List.set_cons_succ]
      refine wpAnyH_take (i := 14) (oi := _) (v := ?vp14) rfl (by kernel_rfl) (by kernel_rfl) (by kernel_rfl) (fun _ _ _ h => h) (Or.inl ⟨by rfl, ?hyp14⟩) (by assumption) ?restp14
      case hyp14 => (intro w hSw; (try dsimp only at hSw); go_split_ands; go_simp; try (with_reducible rfl))
      try simp only [List.getElem_toArray, List.getElem_cons_zero, List.getElem_cons_succ, Act.put, List.setIfInBounds_toArray, List.set_cons_zero, List.set_cons_succ]
      refine wpAnyH_done (by kernel_rfl) ?_ _
      go_wp2_with fail
      go_roundw
      case rel => exact ⟨k + 1, by omega, by go_num, HO2, HB2⟩
      case measure => simp [intOf]; omega
    · obtain rfl : k = m := by omega
      have HO3 : Hid (wr.ownsRow w.heap.size 42 17 u3 k (flat (z.take 20))) := by
        have h := HO.out
        rw [show z.take k = z.take 20 by exact List.take_eq_take_iff.2 (by have := HM.out; have := HL.out; omega)] at h
        exact h
      have h1 := HM3.out k
      obtain ⟨ao, co, hv, hP⟩ := own_pfxs HO3.out (by rw [List.length_take, HL.out, Nat.min_comm]; exact HM.out) (fun x hx => HA.out x (List.mem_of_mem_take hx))
      subst hv
      have HP : Hid (PfxsAt wr ao k co (z.take 20)) := hP
      clear hP
      by_cases h2 : k < len
      · have h3 : ¬ (k : Int) < 20 := by omega
        have h4 : (k : Int) < (len : Int) := by omega
        clear h1
        go_wp2_with fail
        go_ret
        exact ⟨ao, co, by rw [HM.out]; rfl, by rw [HM.out]; exact HP.out, HB.out⟩
      · have h4 : ¬ (k : Int) < (len : Int) := by omega
        clear h1
        go_wp2_with fail
        go_ret
        exact ⟨ao, co, by rw [HM.out]; rfl, by rw [HM.out]; exact HP.out, HB.out⟩

/-- Where the longest of the first k that have the address lies, and its bits. -/
def lngK (l : List Int) (z : List (List Int × Int)) : Nat → Int × Int
  | 0 => (0, -1)
  | k + 1 => if (lngK l z k).2 < (z.getD k ([], 0)).2 ∧ hasB (z.getD k ([], 0)).1 (z.getD k ([], 0)).2 l = true then ((k : Int), (z.getD k ([], 0)).2) else lngK l z k
def lngP (l : List Int) (z : List (List Int × Int)) (m : Nat) : Int := if (lngK l z m).2 < 0 then 0 else (lngK l z m).1
def lngE (l : List Int) (z : List (List Int × Int)) (m : Nat) : Int := if (lngK l z m).2 < 0 then 8 else 0

set_option maxRecDepth 100000 in
set_option maxHeartbeats 1600000 in
theorem longest_any (l : List Int) (a : Option Addr) (len cap : Nat) (z : List (List Int × Int)) (w : World) (ha : Adr l) (hz : PfxsAt w a len cap z) :
    Calls Tryd.prog 28 #[.agg (u8s l), .slice a len cap] w fun e w' => e = .returned (.tuple #[.int .i64 (lngP l z len), .int .i64 (lngE l z len)]) ∧ Below w.heap.size w w' := by
  obtain ⟨hzl, hlc, hcm, hza, hcell⟩ := hz
  unfold maxLen at hcm
  have hzp := zpfx
  have HC : Hid (∀ i, i < len → ∃ b off, a = some ⟨b, off, none⟩ ∧ b < w.heap.size ∧ Part w b (off + 17 * i) (pfx (z.getD i ([], 0)).1 (z.getD i ([], 0)).2)) := hcell
  have HA : Hid (∀ x ∈ z, Adr x.1 ∧ (Lit.int .i64 x.2).wf = true) := hza
  have HL : Hid (z.length = len) := hzl
  have hA0 : Hid (Row (w.alloc (.cells (u8s l) 25)) w.heap.size 25 (u8s l)) := Row.new w 25 _
  have hB0 : Hid (Below w.heap.size w (w.alloc (.cells (u8s l) 25))) := below_new w _
  clear hcell hza hzl
  go_enter Tryd.func28, Tryd.ntmps28
  go_wp2_with fail
  go_loopw [6, 7, 12] (fun vp vm i wr => ∃ (k : Nat) (pl mo : Int), k ≤ len ∧ vp = .int .i64 pl ∧ vm = .int .i64 mo ∧ i = .int .i64 k ∧ Hid (lngK l z k = (pl, mo)) ∧ Hid (Row wr w.heap.size 25 (u8s l)) ∧ Hid (Below w.heap.size w wr))
    (fun _ _ i _ => len - (intOf i).toNat)
  case atStart => exact ⟨0, 0, -1, by omega, rfl, rfl, rfl, rfl, hA0, hB0⟩
  case round =>
    clear hA0 hB0
    obtain ⟨k, pl, mo, hk, rfl, rfl, rfl, HK, RA, HB⟩ := hrel
    by_cases hlt : k < len
    · have i1 : (k : Int) < (len : Int) := by omega
      obtain ⟨b, off, rfl, hblt, hpart⟩ := HC.out k hlt
      have hmem : z.getD k ([], 0) ∈ z := by rw [List.getD_eq_getElem?_getD, List.getElem?_eq_getElem (by rw [HL.out]; omega)]; exact List.getElem_mem _
      have hAx := (HA.out _ hmem).1
      have HN : Hid (lngK l z (k + 1) = if mo < (z.getD k ([], 0)).2 ∧ hasB (z.getD k ([], 0)).1 (z.getD k ([], 0)).2 l = true then ((k : Int), (z.getD k ([], 0)).2) else (pl, mo)) := by
        rw [Hid, lngK, HK.out]
      clear hmem
      obtain ⟨L, hL⟩ : ∃ L, (z.getD k ([], 0)).1 = L := ⟨_, rfl⟩
      obtain ⟨M, hM⟩ : ∃ M, (z.getD k ([], 0)).2 = M := ⟨_, rfl⟩
      rw [hL, hM] at hpart
      rw [hL, hM] at HN
      rw [hL] at hAx
      clear hL hM
      rw [Nat.mul_comm] at hpart
      have hpart1 : Hid (Part wr b (off + k * 17) (pfx L M)) := hpart.below HB.out hblt
      clear hpart
      have CH : Hid (∀ w' : World, Calls Tryd.prog 26 #[.agg (pfx L M), .agg (u8s l)] w' fun e w'' => e = .returned (.bool (hasB L M l)) ∧ Below w'.heap.size w' w'') := fun w' => has_any L M l w' hAx ha
      have HHas : Hid (∀ c, c = hasB L M l → lngK l z (k + 1) = if mo < M ∧ c = true then ((k : Int), M) else (pl, mo)) := by
        intro c hc; subst hc; exact HN.out
      obtain ⟨hb, hhb⟩ : ∃ hb, hasB L M l = hb := ⟨_, rfl⟩
      have HN1 := HHas.out hb hhb.symm
      rw [hhb] at CH
      have HN2 : Hid (lngK l z (k + 1) = if mo < M ∧ hb = true then ((k : Int), M) else (pl, mo)) := HN1
      clear HN HHas HN1 hhb
      by_cases hlt2 : mo < M
      · have i2 : decide (M > mo) = true := decide_eq_true hlt2
        cases hb
        · have HN3 : Hid (lngK l z (k + 1) = (pl, mo)) := by rw [Hid, HN2.out]; simp
          go_wp2_with (first
            | (refine ld42 _ rfl rfl b (off + k * 17) rfl L M hAx.1 hpart1.out ?_)
            | (refine st42 _ _ rfl rfl wr.heap.size L M hAx.1 rfl rfl 42 _ (by rfl) (Row.new wr 42 (pfx zeros 0)) ?_; have RQ : Hid (Row ((wr.alloc (.cells (pfx zeros 0) 42)).setRow wr.heap.size (pfx L M)) wr.heap.size 42 (pfx L M)) := (Row.new wr 42 _).setRow _; have RA2 : Hid (Row ((wr.alloc (.cells (pfx zeros 0) 42)).setRow wr.heap.size (pfx L M)) w.heap.size 25 (u8s l)) := (RA.out.alloc _).rowOther _ _ (Nat.ne_of_lt RA.out.lt); have B2 : Hid (Below w.heap.size w ((wr.alloc (.cells (pfx zeros 0) 42)).setRow wr.heap.size (pfx L M))) := below_setRow (HB.out.alloc HB.out.size _) HB.out.size _; generalize ((wr.alloc (.cells (pfx zeros 0) 42)).setRow wr.heap.size (pfx L M)) = w2 at *; have hbt := RQ.out.bits hAx.1)
            | (refine ld42 _ rfl rfl wr.heap.size 0 rfl L M hAx.1 RQ.out.part ?_)
            | (refine ld25 _ rfl rfl w.heap.size 0 rfl l ha.1 RA2.out.part ?_)
            | (go_at_call 26; refine (CH.out _).mono ?_; rintro e w3 ⟨rfl, hb3⟩; have RA3 : Hid (Row w3 w.heap.size 25 (u8s l)) := RA2.out.below hb3 RA2.out.lt; have RQ3 : Hid (Row w3 wr.heap.size 42 (pfx L M)) := RQ.out.below hb3 RQ.out.lt; have B3 : Hid (Below w.heap.size w w3) := B2.out.trans (hb3.mono B2.out.size); clear hb3; have hbt3 := RQ3.out.bits hAx.1))
          go_roundw
          case rel => exact ⟨k + 1, pl, mo, by omega, rfl, rfl, by go_num, HN3, RA3, B3⟩
          case measure => simp [intOf]; omega
        · have HN3 : Hid (lngK l z (k + 1) = ((k : Int), M)) := by rw [Hid, HN2.out, if_pos ⟨hlt2, rfl⟩]
          go_wp2_with (first
            | (refine ld42 _ rfl rfl b (off + k * 17) rfl L M hAx.1 hpart1.out ?_)
            | (refine st42 _ _ rfl rfl wr.heap.size L M hAx.1 rfl rfl 42 _ (by rfl) (Row.new wr 42 (pfx zeros 0)) ?_; have RQ : Hid (Row ((wr.alloc (.cells (pfx zeros 0) 42)).setRow wr.heap.size (pfx L M)) wr.heap.size 42 (pfx L M)) := (Row.new wr 42 _).setRow _; have RA2 : Hid (Row ((wr.alloc (.cells (pfx zeros 0) 42)).setRow wr.heap.size (pfx L M)) w.heap.size 25 (u8s l)) := (RA.out.alloc _).rowOther _ _ (Nat.ne_of_lt RA.out.lt); have B2 : Hid (Below w.heap.size w ((wr.alloc (.cells (pfx zeros 0) 42)).setRow wr.heap.size (pfx L M))) := below_setRow (HB.out.alloc HB.out.size _) HB.out.size _; generalize ((wr.alloc (.cells (pfx zeros 0) 42)).setRow wr.heap.size (pfx L M)) = w2 at *; have hbt := RQ.out.bits hAx.1)
            | (refine ld42 _ rfl rfl wr.heap.size 0 rfl L M hAx.1 RQ.out.part ?_)
            | (refine ld25 _ rfl rfl w.heap.size 0 rfl l ha.1 RA2.out.part ?_)
            | (go_at_call 26; refine (CH.out _).mono ?_; rintro e w3 ⟨rfl, hb3⟩; have RA3 : Hid (Row w3 w.heap.size 25 (u8s l)) := RA2.out.below hb3 RA2.out.lt; have RQ3 : Hid (Row w3 wr.heap.size 42 (pfx L M)) := RQ.out.below hb3 RQ.out.lt; have B3 : Hid (Below w.heap.size w w3) := B2.out.trans (hb3.mono B2.out.size); clear hb3; have hbt3 := RQ3.out.bits hAx.1))
          go_quiet (fail)
          go_wp2_with fail
          go_roundw
          case rel => exact ⟨k + 1, k, M, by omega, rfl, rfl, by go_num, HN3, RA3.out.drewN _, below_drewN B3.out _⟩
          case measure => simp [intOf]; omega
      · have i2 : ¬ M > mo := hlt2
        have i3 : decide (M > mo) = false := decide_eq_false hlt2
        have HN3 : Hid (lngK l z (k + 1) = (pl, mo)) := by rw [Hid, HN2.out, if_neg (fun h => hlt2 h.1)]
        go_wp2_with (first
          | (refine ld42 _ rfl rfl b (off + k * 17) rfl L M hAx.1 hpart1.out ?_)
          | (refine st42 _ _ rfl rfl wr.heap.size L M hAx.1 rfl rfl 42 _ (by rfl) (Row.new wr 42 (pfx zeros 0)) ?_; have RQ : Hid (Row ((wr.alloc (.cells (pfx zeros 0) 42)).setRow wr.heap.size (pfx L M)) wr.heap.size 42 (pfx L M)) := (Row.new wr 42 _).setRow _; have RA2 : Hid (Row ((wr.alloc (.cells (pfx zeros 0) 42)).setRow wr.heap.size (pfx L M)) w.heap.size 25 (u8s l)) := (RA.out.alloc _).rowOther _ _ (Nat.ne_of_lt RA.out.lt); have B2 : Hid (Below w.heap.size w ((wr.alloc (.cells (pfx zeros 0) 42)).setRow wr.heap.size (pfx L M))) := below_setRow (HB.out.alloc HB.out.size _) HB.out.size _; generalize ((wr.alloc (.cells (pfx zeros 0) 42)).setRow wr.heap.size (pfx L M)) = w2 at *; have hbt := RQ.out.bits hAx.1)
          | (refine ld42 _ rfl rfl wr.heap.size 0 rfl L M hAx.1 RQ.out.part ?_)
          | (refine ld25 _ rfl rfl w.heap.size 0 rfl l ha.1 RA2.out.part ?_)
          | (go_at_call 26; refine (CH.out _).mono ?_; rintro e w3 ⟨rfl, hb3⟩; have RA3 : Hid (Row w3 w.heap.size 25 (u8s l)) := RA2.out.below hb3 RA2.out.lt; have RQ3 : Hid (Row w3 wr.heap.size 42 (pfx L M)) := RQ.out.below hb3 RQ.out.lt; have B3 : Hid (Below w.heap.size w w3) := B2.out.trans (hb3.mono B2.out.size); clear hb3; have hbt3 := RQ3.out.bits hAx.1))
        go_roundw
        case rel => exact ⟨k + 1, pl, mo, by omega, rfl, rfl, by go_num, HN3, RA2, B2⟩
        case measure => simp [intOf]; omega
    · obtain rfl : k = len := by omega
      have i1 : ¬ (k : Int) < (k : Int) := by omega
      by_cases hneg : mo < 0
      · have e1 : Hid (lngP l z k = 0) := by rw [Hid, lngP, HK.out]; exact if_pos hneg
        have e2 : Hid (lngE l z k = 8) := by rw [Hid, lngE, HK.out]; exact if_pos hneg
        go_wp2_with fail
        go_ret2
        exact ⟨by rw [e1.out, e2.out]; rfl, HB.out⟩
      · have e1 : Hid (lngP l z k = pl) := by rw [Hid, lngP, HK.out]; exact if_neg hneg
        have e2 : Hid (lngE l z k = 0) := by rw [Hid, lngE, HK.out]; exact if_neg hneg
        go_wp2_with fail
        go_ret2
        exact ⟨by rw [e1.out, e2.out]; rfl, HB.out⟩
end Go.Proofs.YtoijfnkbjdekoaaDoor
