/- Addresses as arrays in memory, and what pseudoHeader answers. · What Pseudo and Check of package sum answer: contracts. · What Set of package sum answers: contracts. · What Set of package sum answers where all goes well: a contract. · Pairs of bytes4 set: what becomes of the sum. · What the document's own cursor answers: contracts. · What the document's own Many answers: contracts. · The document's cursor: zeros. · What the reader makes of each code's parts. · The reader: all that a message has. · control.Decode. -/
import Derived.Test.YtbklpelikaapoaaGreatDoorM11
import Derived.Deep.WholeRow
import Derived.Deep.RegionWith
import Derived.Deep.RegionHeld3
import Derived.Deep.Onto
import Derived.Laws.OwnMore
import Derived.Test.YtbklpelikaapoaaGreatDoorM5
import Derived.Test.YtbklpelikaapoaaGreatDoorM1
import Derived.Test.YtbklpelikaapoaaGreatDoorM8
import Derived.Test.YtbklpelikaapoaaGreatDoorM9
import Derived.Test.YtbklpelikaapoaaGreatDoorM7
namespace Go.Proofs.YtbklpelikaapoaaGreatDoor
open Go.ChangeShapes Go.WideShapes Go.ChangeAt Go.RowKit
set_option linter.unusedVariables false
set_option linter.unusedSimpArgs false

/-- Bytes as the cells of an array. -/
def arr4 (l : List Int) : Array Value := (u8s l).toArray
theorem arr_size4 (l : List Int) : (arr4 l).size = l.length := by simp [arr4, u8s]
theorem arr_at4 (l : List Int) (j : Nat) (h : j < l.length) : (arr4 l)[j]? = some (.int .u8 (l.getD j 0)) := by simp [arr4, u8s, h]
/-- An address. -/
def Adr4 (l : List Int) : Prop := l.length = 16 ∧ Oct l

/-- An array's cells in a block. -/
def Row4 (w : World) (b : Nat) (t : TypeId) (l : List Int) : Prop := w.heap[b]? = some (.cells (arr4 l) t (0, 0))
theorem Row4.cell {w : World} {b : Nat} {t : TypeId} {l : List Int} (h : Row4 w b t l) (j : Nat) : w.cell? ⟨b, j, none⟩ = (arr4 l)[j]? := cell_of_row w b j _ t (0, 0) h
theorem Row4.lt {w : World} {b : Nat} {t : TypeId} {l : List Int} (h : Row4 w b t l) : b < w.heap.size := (Array.getElem?_eq_some_iff.1 h).1
theorem Row4.new (w : World) (t : TypeId) (l : List Int) : Row4 (w.alloc (.cells (arr4 l) t)) w.heap.size t l := heap_alloc_new w _
theorem Row4.below {w w' : World} {b : Nat} {t : TypeId} {l : List Int} (h : Row4 w b t l) (hb : Below w.heap.size w w') : Row4 w' b t l := (hb.block b h.lt).trans h
theorem Row4.ok {w : World} {b : Nat} {t : TypeId} {l : List Int} (h : Row4 w b t l) (hl : Adr4 l) : Txt4.ok w ⟨some ⟨b, 0, none⟩, 16, 16, l⟩ := by
  have h1 : Lies .u8 w (some ⟨b, 0, none⟩) 16 16 l := by
    refine ⟨hl.1, Nat.le_refl _, by decide, (fun h => by cases h), fun k hk => ⟨b, 0, rfl, ?_⟩⟩
    rw [Nat.zero_add, h.cell, arr_at4 l k (by rw [hl.1]; exact hk)]
  exact ⟨h1, hl.2⟩

theorem size50 : (Tryz.prog.info? 33).map (·.size) = some 16 := by kernel_rfl
section
variable {ops : Array Oper} {rest : List Oper} {o : Oper} {a : Act} {w : World} {Q : Exit → Act → World → Prop}
/-- A load of a whole array, guarded or not. -/
theorem wp_ld4 {P : Program} (ty : TypeId) (x : Operand) (ho : o.op = .load ty x)
    (hw : Region.wanted o (yielded ops a.tmps) = true) (g : Nat) (hx : a.eval x = .pointer (some ⟨g, 0, none⟩)) (t : TypeId) (l : List Int) (d : TypeDesc)
    (hu : P.underlying ty = some d) (hd : (match d with | .struct _ | .array _ _ => true | _ => false) = true) (hi : (P.info? ty).map (·.size) = some (arr4 l).size) (hg : Row4 w g t l)
    (h : wpList P ops Q rest (a.put o.dst (.agg (arr4 l))) w) : wpList P ops Q (o :: rest) a w :=
  wpList_step fun K hK => by
    rw [if_pos hw]
    unfold Oper.wp execOp
    simp only [ho, hx, Instr.loadAt, Instr.sureAddr, Sem.run_bind, Sem.run_pure, Result.andThen_ok, run_loadVar_row w g t ty (arr4 l) (0, 0) d hg hu hd hi]
    exact hK _ _ h
theorem ld50 (x : Operand) (ho : o.op = .load 33 x) (hw : Region.wanted o (yielded ops a.tmps) = true) (g : Nat) (hx : a.eval x = .pointer (some ⟨g, 0, none⟩)) (t : TypeId) (l : List Int) (hl : Adr4 l) (hg : Row4 w g t l)
    (h : wpList Tryz.prog ops Q rest (a.put o.dst (.agg (arr4 l))) w) : wpList Tryz.prog ops Q (o :: rest) a w :=
  wp_ld4 33 x ho hw g hx t l _ Tryz.underlying33 rfl (by rw [arr_size4, hl.1]; exact size50) hg h
end

/-- The pseudo-header. -/
def hdr (f t : List Int) (next len : Int) : List Int := f ++ t ++ bytesOf 4 [len, next]
theorem hdr_len (f t : List Int) (next len : Int) (hf : Adr4 f) (ht : Adr4 t) : (hdr f t next len).length = 40 := by
  rw [hdr, List.length_append, List.length_append, hf.1, ht.1, bytesOf_length 4 _ (by decide)]; rfl
theorem hdr_oct (f t : List Int) (next len : Int) (hf : Adr4 f) (ht : Adr4 t) : Oct (hdr f t next len) := (hf.2.app ht.2).app (bytesOf_oct _ _)

theorem fits_two (next len : Int) (hn : 0 ≤ next ∧ next ≤ 255) (hl : 0 ≤ len ∧ len ≤ 2000) : fitsB 4 [len, next] = true := by
  have h1 : okB 4 len = true := by simp [okB, top]; omega
  have h2 : okB 4 next = true := by simp [okB, top]; omega
  simp [fitsB, h1, h2, show sizeB 4 = true by decide]

def two (g : Nat) (f t : List Int) : List Txt4 := [⟨some ⟨g, 0, none⟩, 16, 16, f⟩, ⟨some ⟨g + 1, 0, none⟩, 16, 16, t⟩]

set_option maxHeartbeats 800000 in
theorem pseudoHeader_any (f t : List Int) (next : Int) (len : Nat) (w : World) (hf : Adr4 f) (ht : Adr4 t) (hn : 0 ≤ next ∧ next ≤ 255) (hl : len ≤ 2000) :
    Calls Tryz.prog 98 #[.agg (arr4 f), .agg (arr4 t), .int .i64 next, .int .i64 len] w fun e w' => ∃ v, e = .returned v ∧ w'.ownsRow w.heap.size 5 1 v (hdr f t next len).length (u8s (hdr f t next len)) ∧ Below w.heap.size w w' := by
  have F0 := hid (Row4.new w 33 f)
  have b0 : Below w.heap.size w (w.alloc (.cells (arr4 f) 33)) := balloc (Below.refl _ _) _
  have hz0 : (w.alloc (.cells (arr4 f) 33)).heap.size = w.heap.size + 1 := by simp
  have T1 := hid (Row4.new (w.alloc (.cells (arr4 f) 33)) 33 t)
  have b1 : Below (w.alloc (.cells (arr4 f) 33)).heap.size (w.alloc (.cells (arr4 f) 33)) ((w.alloc (.cells (arr4 f) 33)).alloc (.cells (arr4 t) 33)) := balloc (Below.refl _ _) _
  have F1 := hid (F0.out.below b1)
  have B1 := hid (bthen b0 b1)
  rw [hz0] at T1
  have HZ1 : Hid (((w.alloc (.cells (arr4 f) 33)).alloc (.cells (arr4 t) 33)).heap.size = w.heap.size + 1 + 1) := by simp [Hid]
  have X1 := hid (F1.out.ok hf)
  have Y1 := hid (T1.out.ok ht)
  have HF := hid hf
  have HT := hid ht
  clear b0 b1 F0 hz0 F1 T1 hf ht
  go_enter Tryz.func98, Tryz.ntmps98
  go_wp2_with fail
  generalize (w.alloc (.cells (arr4 f) 33)).alloc (.cells (arr4 t) 33) = w1 at *
  obtain ⟨X, hX⟩ : ∃ X, X = Obj.cells #[.slice (some ⟨w.heap.size, 0, none⟩) 16 16, .slice (some ⟨w.heap.size + 1, 0, none⟩) 16 16] 30 := ⟨_, rfl⟩
  obtain ⟨I, hI⟩ : ∃ I, I = Obj.cells #[.int .i64 (len : Int), .int .i64 next] 3 := ⟨_, rfl⟩
  have mk : ∀ w2 : World, Below w1.heap.size w1 w2 → Texts4 (w2.alloc X) (some ⟨w2.heap.size, 0, none⟩) 2 2 (two w.heap.size f t) := fun w2 hb => by
    rw [hX]; exact texts_two w2 _ _ (X1.out.below hb) (Y1.out.below hb)
  have XA0 := mk w1 (Below.refl _ _)
  have XA : Hid (Texts4 (w1.alloc X).drew (some ⟨w1.heap.size, 0, none⟩) 2 2 (two w.heap.size f t)) := XA0
  have BA := hid (bdrew (balloc B1.out X) 1)
  have bI : Below w1.heap.size w1 (w1.alloc I) := balloc (Below.refl _ _) _
  have XB : Hid (Texts4 ((w1.alloc I).alloc X).drew (some ⟨w1.heap.size + 1, 0, none⟩) 2 2 (two w.heap.size f t)) := by have := mk (w1.alloc I) bI; rw [show (w1.alloc I).heap.size = w1.heap.size + 1 by simp] at this; exact this
  have XC : Hid (Texts4 ((w1.alloc X).alloc I).drew (some ⟨w1.heap.size, 0, none⟩) 2 2 (two w.heap.size f t)) := XA0.below (bdrew (balloc (Below.refl _ _) I) 1)
  have IB : Hid (Lies .i64 ((w1.alloc I).alloc X).drew (some ⟨w1.heap.size, 0, none⟩) 2 2 [(len : Int), next]) := by
    have : Lies .i64 (w1.alloc I) (some ⟨w1.heap.size, 0, none⟩) 2 2 [(len : Int), next] := by rw [hI]; exact lies_new .i64 w1 _ 3 [(len : Int), next] rfl (by simp)
    exact this.below (bdrew (balloc (Below.refl _ _) X) 1)
  have IC : Hid (Lies .i64 ((w1.alloc X).alloc I).drew (some ⟨w1.heap.size + 1, 0, none⟩) 2 2 [(len : Int), next]) := by
    have : Lies .i64 ((w1.alloc X).alloc I) (some ⟨(w1.alloc X).heap.size, 0, none⟩) 2 2 [(len : Int), next] := by rw [hI]; exact lies_new .i64 (w1.alloc X) _ 3 [(len : Int), next] rfl (by simp)
    rw [show (w1.alloc X).heap.size = w1.heap.size + 1 by simp] at this
    exact this
  have BB := hid (bdrew (balloc (balloc B1.out I) X) 1)
  have BC := hid (bdrew (balloc (balloc B1.out X) I) 1)
  have HbL : Hid (bytes4 (two w.heap.size f t) = f ++ t) := by simp [Hid, bytes4, two]
  have HbN : Hid ((f ++ t).length = 32) := by rw [Hid, List.length_append, HF.out.1, HT.out.1]
  have HFit := hid (fits_two next len hn ⟨by omega, by omega⟩)
  have NI : Hid (∀ w2 : World, Lies .i64 (w2.alloc I) (some ⟨w2.heap.size, 0, none⟩) 2 2 [(len : Int), next]) := fun w2 => by rw [hI]; exact lies_new .i64 w2 _ 3 [(len : Int), next] rfl (by simp)
  rw [hX] at XA XB XC BA BB BC IB IC
  rw [hI] at XB XC BB BC IB IC NI
  clear bI mk hX hI X1 Y1 XA0
  refine wp_region_held_drew (S := fun _ => True) (by kernel_rfl) ?_ (fun hHeld => ?_)
  · trivial
  refine wpAnyH_take (i := 0) (oi := _) (v := ?vz0) rfl (by kernel_rfl) (by kernel_rfl) (by kernel_rfl) (fun _ _ _ h => h) (Or.inl ⟨by rfl, ?hyz0⟩) (by assumption) ?restz0
  case hyz0 => (intro w hSw; (try dsimp only at hSw); go_split_ands; go_simp; try (with_reducible rfl))
  try simp only [List.getElem_toArray, List.getElem_cons_zero, List.getElem_cons_succ, Act.put, List.setIfInBounds_toArray, List.set_cons_zero, List.set_cons_succ]
  refine wpAnyH_take (i := 1) (oi := _) (v := ?vz1) rfl (by kernel_rfl) (by kernel_rfl) (by kernel_rfl) (fun _ _ _ h => h) (Or.inl ⟨by rfl, ?hyz1⟩) (by assumption) ?restz1
  case hyz1 => (intro w hSw; (try dsimp only at hSw); go_split_ands; go_simp; try (with_reducible rfl))
  try simp only [List.getElem_toArray, List.getElem_cons_zero, List.getElem_cons_succ, Act.put, List.setIfInBounds_toArray, List.set_cons_zero, List.set_cons_succ]
  refine wpAnyH_take (i := 4) (oi := _) (v := ?vz4) rfl (by kernel_rfl) (by kernel_rfl) (by kernel_rfl) (fun _ _ _ h => h) (Or.inl ⟨by rfl, ?hyz4⟩) (by assumption) ?restz4
  case hyz4 => (intro w hSw; (try dsimp only at hSw); go_split_ands; go_simp; try (with_reducible rfl))
  try simp only [List.getElem_toArray, List.getElem_cons_zero, List.getElem_cons_succ, Act.put, List.setIfInBounds_toArray, List.set_cons_zero, List.set_cons_succ]
  refine wpAnyH_take (i := 5) (oi := _) (v := ?vz5) rfl (by kernel_rfl) (by kernel_rfl) (by kernel_rfl) (fun _ _ _ h => h) (Or.inl ⟨by rfl, ?hyz5⟩) (by assumption) ?restz5
  case hyz5 => (intro w hSw; (try dsimp only at hSw); go_split_ands; go_simp; try (with_reducible rfl))
  try simp only [List.getElem_toArray, List.getElem_cons_zero, List.getElem_cons_succ, Act.put, List.setIfInBounds_toArray, List.set_cons_zero, List.set_cons_succ]
  refine wpAnyH_ready (rs := [2, 6]) (by kernel_rfl) (by simp) ?_
  refine AllReadyH.cons (o := _) rfl (fun K hK => ?_) (AllReadyH.cons (o := _) rfl (fun K hK => ?_) AllReadyH.nil)
  · go_simp
    refine hK.out _ _ trivial (fun hHeld => ?_)
    clear hK K
    try simp only [List.getElem_toArray, List.getElem_cons_zero, List.getElem_cons_succ, Act.put, List.setIfInBounds_toArray, List.set_cons_zero, List.set_cons_succ]
    refine wpAnyH_ready (rs := [3, 6]) (by kernel_rfl) (by simp) ?_
    refine AllReadyH.cons (o := _) rfl (fun K hK => ?_) (AllReadyH.cons (o := _) rfl (fun K hK => ?_) AllReadyH.nil)
    · go_simp
      refine (concat_any _ _ _ _ _ XA.out (by rw [HbL.out, HbN.out]; omega) (by rw [HbL.out, HbN.out]; omega)).mono ?_
      rintro e w2 ⟨v2, rfl, ho2, hb2⟩
      rw [HbL.out] at ho2
      obtain ⟨a2, cap2, rfl, hl2, _⟩ := owns_lies ho2
      rw [HbN.out] at hl2 ⊢
      have L2 := hid hl2
      have B2 := hid (bthen BA.out hb2)
      clear ho2 hb2 hl2
      go_wp2_with fail
      refine hK.out _ _ trivial (fun hHeld => ?_)
      clear hK K
      try simp only [List.getElem_toArray, List.getElem_cons_zero, List.getElem_cons_succ, Act.put, List.setIfInBounds_toArray, List.set_cons_zero, List.set_cons_succ]
      refine wpAnyH_ready (rs := [6]) (by kernel_rfl) (by simp) ?_
      refine AllReadyH.cons (o := _) rfl (fun K hK => ?_) AllReadyH.nil
      go_simp
      refine hK.out _ _ trivial (fun hHeld => ?_)
      clear hK K
      try simp only [List.getElem_toArray, List.getElem_cons_zero, List.getElem_cons_succ, Act.put, List.setIfInBounds_toArray, List.set_cons_zero, List.set_cons_succ]
      refine wpAnyH_ready (rs := [7]) (by kernel_rfl) (by simp) ?_
      refine AllReadyH.cons (o := _) rfl (fun K hK => ?_) AllReadyH.nil
      go_simp
      refine (put_ok _ _ _ _ _ _ 4 (f ++ t) [(len : Int), next] _ (L2.out.below (balloc (Below.refl _ _) _)) (NI.out w2) HFit.out (by decide)).mono ?_
      rintro e w3 ⟨v3, rfl, ho3, hb3⟩
      have O3 := hid (World.ownsRow.mono ho3 (balloc B2.out _).size)
      have B3 := hid (bthen (balloc B2.out _) hb3)
      clear ho3 hb3
      go_wp2_with fail
      refine hK.out _ _ trivial (fun hHeld => ?_)
      clear hK K
      try simp only [List.getElem_toArray, List.getElem_cons_zero, List.getElem_cons_succ, Act.put, List.setIfInBounds_toArray, List.set_cons_zero, List.set_cons_succ]
      refine wpAnyH_take (i := 8) (oi := _) (v := ?va8) rfl (by kernel_rfl) (by kernel_rfl) (by kernel_rfl) (fun _ _ _ h => h) (Or.inl ⟨by rfl, ?hya8⟩) (by assumption) ?resta8
      case hya8 => (intro w hSw; (try dsimp only at hSw); go_split_ands; go_simp; try (with_reducible rfl))
      try simp only [List.getElem_toArray, List.getElem_cons_zero, List.getElem_cons_succ, Act.put, List.setIfInBounds_toArray, List.set_cons_zero, List.set_cons_succ]
      refine wpAnyH_take (i := 9) (oi := _) (v := ?va9) rfl (by kernel_rfl) (by kernel_rfl) (by kernel_rfl) (fun _ _ _ h => h) (Or.inl ⟨by rfl, ?hya9⟩) (by assumption) ?resta9
      case hya9 => (intro w hSw; (try dsimp only at hSw); go_split_ands; go_simp; try (with_reducible rfl))
      try simp only [List.getElem_toArray, List.getElem_cons_zero, List.getElem_cons_succ, Act.put, List.setIfInBounds_toArray, List.set_cons_zero, List.set_cons_succ]
      refine wpAnyH_take (i := 10) (oi := _) (v := ?va10) rfl (by kernel_rfl) (by kernel_rfl) (by kernel_rfl) (fun _ _ _ h => h) (Or.inl ⟨by rfl, ?hya10⟩) (by assumption) ?resta10
      case hya10 => (intro w hSw; (try dsimp only at hSw); go_split_ands; go_simp; try (with_reducible rfl))
      try simp only [List.getElem_toArray, List.getElem_cons_zero, List.getElem_cons_succ, Act.put, List.setIfInBounds_toArray, List.set_cons_zero, List.set_cons_succ]
      refine wpAnyH_take (i := 11) (oi := _) (v := ?va11) rfl (by kernel_rfl) (by kernel_rfl) (by kernel_rfl) (fun _ _ _ h => h) (Or.inl ⟨by rfl, ?hya11⟩) (by assumption) ?resta11
      case hya11 => (intro w hSw; (try dsimp only at hSw); go_split_ands; go_simp; try (with_reducible rfl))
      try simp only [List.getElem_toArray, List.getElem_cons_zero, List.getElem_cons_succ, Act.put, List.setIfInBounds_toArray, List.set_cons_zero, List.set_cons_succ]
      refine wpAnyH_take (i := 12) (oi := _) (v := ?va12) rfl (by kernel_rfl) (by kernel_rfl) (by kernel_rfl) (fun _ _ _ h => h) (Or.inl ⟨by rfl, ?hya12⟩) (by assumption) ?resta12
      case hya12 => (intro w hSw; (try dsimp only at hSw); go_split_ands; go_simp; try (with_reducible rfl))
      try simp only [List.getElem_toArray, List.getElem_cons_zero, List.getElem_cons_succ, Act.put, List.setIfInBounds_toArray, List.set_cons_zero, List.set_cons_succ]
      refine wpAnyH_done (by kernel_rfl) ?_ _
      all_goals
        go_wp2_with fail
        go_ret
        exact ⟨_, rfl, O3.out, B3.out⟩
    · go_simp
      refine hK.out _ _ trivial (fun hHeld => ?_)
      clear hK K
      try simp only [List.getElem_toArray, List.getElem_cons_zero, List.getElem_cons_succ, Act.put, List.setIfInBounds_toArray, List.set_cons_zero, List.set_cons_succ]
      refine wpAnyH_ready (rs := [3]) (by kernel_rfl) (by simp) ?_
      refine AllReadyH.cons (o := _) rfl (fun K hK => ?_) AllReadyH.nil
      go_simp
      refine (concat_any _ _ _ _ _ XC.out (by rw [HbL.out, HbN.out]; omega) (by rw [HbL.out, HbN.out]; omega)).mono ?_
      rintro e w2 ⟨v2, rfl, ho2, hb2⟩
      rw [HbL.out] at ho2
      obtain ⟨a2, cap2, rfl, hl2, _⟩ := owns_lies ho2
      rw [HbN.out] at hl2 ⊢
      have L2 := hid hl2
      have B2 := hid (bthen BC.out hb2)
      have I2 := hid (Lies.below IC.out hb2)
      clear ho2 hb2 hl2
      go_wp2_with fail
      refine hK.out _ _ trivial (fun hHeld => ?_)
      clear hK K
      try simp only [List.getElem_toArray, List.getElem_cons_zero, List.getElem_cons_succ, Act.put, List.setIfInBounds_toArray, List.set_cons_zero, List.set_cons_succ]
      refine wpAnyH_ready (rs := [7]) (by kernel_rfl) (by simp) ?_
      refine AllReadyH.cons (o := _) rfl (fun K hK => ?_) AllReadyH.nil
      go_simp
      refine (put_ok _ _ _ _ _ _ 4 (f ++ t) [(len : Int), next] _ L2.out I2.out HFit.out (by decide)).mono ?_
      rintro e w3 ⟨v3, rfl, ho3, hb3⟩
      have O3 := hid (World.ownsRow.mono ho3 B2.out.size)
      have B3 := hid (bthen B2.out hb3)
      clear ho3 hb3
      go_wp2_with fail
      refine hK.out _ _ trivial (fun hHeld => ?_)
      clear hK K
      try simp only [List.getElem_toArray, List.getElem_cons_zero, List.getElem_cons_succ, Act.put, List.setIfInBounds_toArray, List.set_cons_zero, List.set_cons_succ]
      refine wpAnyH_take (i := 8) (oi := _) (v := ?vb8) rfl (by kernel_rfl) (by kernel_rfl) (by kernel_rfl) (fun _ _ _ h => h) (Or.inl ⟨by rfl, ?hyb8⟩) (by assumption) ?restb8
      case hyb8 => (intro w hSw; (try dsimp only at hSw); go_split_ands; go_simp; try (with_reducible rfl))
      try simp only [List.getElem_toArray, List.getElem_cons_zero, List.getElem_cons_succ, Act.put, List.setIfInBounds_toArray, List.set_cons_zero, List.set_cons_succ]
      refine wpAnyH_take (i := 9) (oi := _) (v := ?vb9) rfl (by kernel_rfl) (by kernel_rfl) (by kernel_rfl) (fun _ _ _ h => h) (Or.inl ⟨by rfl, ?hyb9⟩) (by assumption) ?restb9
      case hyb9 => (intro w hSw; (try dsimp only at hSw); go_split_ands; go_simp; try (with_reducible rfl))
      try simp only [List.getElem_toArray, List.getElem_cons_zero, List.getElem_cons_succ, Act.put, List.setIfInBounds_toArray, List.set_cons_zero, List.set_cons_succ]
      refine wpAnyH_take (i := 10) (oi := _) (v := ?vb10) rfl (by kernel_rfl) (by kernel_rfl) (by kernel_rfl) (fun _ _ _ h => h) (Or.inl ⟨by rfl, ?hyb10⟩) (by assumption) ?restb10
      case hyb10 => (intro w hSw; (try dsimp only at hSw); go_split_ands; go_simp; try (with_reducible rfl))
      try simp only [List.getElem_toArray, List.getElem_cons_zero, List.getElem_cons_succ, Act.put, List.setIfInBounds_toArray, List.set_cons_zero, List.set_cons_succ]
      refine wpAnyH_take (i := 11) (oi := _) (v := ?vb11) rfl (by kernel_rfl) (by kernel_rfl) (by kernel_rfl) (fun _ _ _ h => h) (Or.inl ⟨by rfl, ?hyb11⟩) (by assumption) ?restb11
      case hyb11 => (intro w hSw; (try dsimp only at hSw); go_split_ands; go_simp; try (with_reducible rfl))
      try simp only [List.getElem_toArray, List.getElem_cons_zero, List.getElem_cons_succ, Act.put, List.setIfInBounds_toArray, List.set_cons_zero, List.set_cons_succ]
      refine wpAnyH_take (i := 12) (oi := _) (v := ?vb12) rfl (by kernel_rfl) (by kernel_rfl) (by kernel_rfl) (fun _ _ _ h => h) (Or.inl ⟨by rfl, ?hyb12⟩) (by assumption) ?restb12
      case hyb12 => (intro w hSw; (try dsimp only at hSw); go_split_ands; go_simp; try (with_reducible rfl))
      try simp only [List.getElem_toArray, List.getElem_cons_zero, List.getElem_cons_succ, Act.put, List.setIfInBounds_toArray, List.set_cons_zero, List.set_cons_succ]
      refine wpAnyH_done (by kernel_rfl) ?_ _
      all_goals
        go_wp2_with fail
        go_ret
        exact ⟨_, rfl, O3.out, B3.out⟩
  · go_simp
    refine hK.out _ _ trivial (fun hHeld => ?_)
    clear hK K
    try simp only [List.getElem_toArray, List.getElem_cons_zero, List.getElem_cons_succ, Act.put, List.setIfInBounds_toArray, List.set_cons_zero, List.set_cons_succ]
    refine wpAnyH_ready (rs := [2]) (by kernel_rfl) (by simp) ?_
    refine AllReadyH.cons (o := _) rfl (fun K hK => ?_) AllReadyH.nil
    go_simp
    refine hK.out _ _ trivial (fun hHeld => ?_)
    clear hK K
    try simp only [List.getElem_toArray, List.getElem_cons_zero, List.getElem_cons_succ, Act.put, List.setIfInBounds_toArray, List.set_cons_zero, List.set_cons_succ]
    refine wpAnyH_ready (rs := [3]) (by kernel_rfl) (by simp) ?_
    refine AllReadyH.cons (o := _) rfl (fun K hK => ?_) AllReadyH.nil
    go_simp
    refine (concat_any _ _ _ _ _ XB.out (by rw [HbL.out, HbN.out]; omega) (by rw [HbL.out, HbN.out]; omega)).mono ?_
    rintro e w2 ⟨v2, rfl, ho2, hb2⟩
    rw [HbL.out] at ho2
    obtain ⟨a2, cap2, rfl, hl2, _⟩ := owns_lies ho2
    rw [HbN.out] at hl2 ⊢
    have L2 := hid hl2
    have B2 := hid (bthen BB.out hb2)
    have I2 := hid (Lies.below IB.out hb2)
    clear ho2 hb2 hl2
    go_wp2_with fail
    refine hK.out _ _ trivial (fun hHeld => ?_)
    clear hK K
    try simp only [List.getElem_toArray, List.getElem_cons_zero, List.getElem_cons_succ, Act.put, List.setIfInBounds_toArray, List.set_cons_zero, List.set_cons_succ]
    refine wpAnyH_ready (rs := [7]) (by kernel_rfl) (by simp) ?_
    refine AllReadyH.cons (o := _) rfl (fun K hK => ?_) AllReadyH.nil
    go_simp
    refine (put_ok _ _ _ _ _ _ 4 (f ++ t) [(len : Int), next] _ L2.out I2.out HFit.out (by decide)).mono ?_
    rintro e w3 ⟨v3, rfl, ho3, hb3⟩
    have O3 := hid (World.ownsRow.mono ho3 B2.out.size)
    have B3 := hid (bthen B2.out hb3)
    clear ho3 hb3
    go_wp2_with fail
    refine hK.out _ _ trivial (fun hHeld => ?_)
    clear hK K
    try simp only [List.getElem_toArray, List.getElem_cons_zero, List.getElem_cons_succ, Act.put, List.setIfInBounds_toArray, List.set_cons_zero, List.set_cons_succ]
    refine wpAnyH_take (i := 8) (oi := _) (v := ?vc8) rfl (by kernel_rfl) (by kernel_rfl) (by kernel_rfl) (fun _ _ _ h => h) (Or.inl ⟨by rfl, ?hyc8⟩) (by assumption) ?restc8
    case hyc8 => (intro w hSw; (try dsimp only at hSw); go_split_ands; go_simp; try (with_reducible rfl))
    try simp only [List.getElem_toArray, List.getElem_cons_zero, List.getElem_cons_succ, Act.put, List.setIfInBounds_toArray, List.set_cons_zero, List.set_cons_succ]
    refine wpAnyH_take (i := 9) (oi := _) (v := ?vc9) rfl (by kernel_rfl) (by kernel_rfl) (by kernel_rfl) (fun _ _ _ h => h) (Or.inl ⟨by rfl, ?hyc9⟩) (by assumption) ?restc9
    case hyc9 => (intro w hSw; (try dsimp only at hSw); go_split_ands; go_simp; try (with_reducible rfl))
    try simp only [List.getElem_toArray, List.getElem_cons_zero, List.getElem_cons_succ, Act.put, List.setIfInBounds_toArray, List.set_cons_zero, List.set_cons_succ]
    refine wpAnyH_take (i := 10) (oi := _) (v := ?vc10) rfl (by kernel_rfl) (by kernel_rfl) (by kernel_rfl) (fun _ _ _ h => h) (Or.inl ⟨by rfl, ?hyc10⟩) (by assumption) ?restc10
    case hyc10 => (intro w hSw; (try dsimp only at hSw); go_split_ands; go_simp; try (with_reducible rfl))
    try simp only [List.getElem_toArray, List.getElem_cons_zero, List.getElem_cons_succ, Act.put, List.setIfInBounds_toArray, List.set_cons_zero, List.set_cons_succ]
    refine wpAnyH_take (i := 11) (oi := _) (v := ?vc11) rfl (by kernel_rfl) (by kernel_rfl) (by kernel_rfl) (fun _ _ _ h => h) (Or.inl ⟨by rfl, ?hyc11⟩) (by assumption) ?restc11
    case hyc11 => (intro w hSw; (try dsimp only at hSw); go_split_ands; go_simp; try (with_reducible rfl))
    try simp only [List.getElem_toArray, List.getElem_cons_zero, List.getElem_cons_succ, Act.put, List.setIfInBounds_toArray, List.set_cons_zero, List.set_cons_succ]
    refine wpAnyH_take (i := 12) (oi := _) (v := ?vc12) rfl (by kernel_rfl) (by kernel_rfl) (by kernel_rfl) (fun _ _ _ h => h) (Or.inl ⟨by rfl, ?hyc12⟩) (by assumption) ?restc12
    case hyc12 => (intro w hSw; (try dsimp only at hSw); go_split_ands; go_simp; try (with_reducible rfl))
    try simp only [List.getElem_toArray, List.getElem_cons_zero, List.getElem_cons_succ, Act.put, List.setIfInBounds_toArray, List.set_cons_zero, List.set_cons_succ]
    refine wpAnyH_done (by kernel_rfl) ?_ _
    all_goals
      go_wp2_with fail
      go_ret
      exact ⟨_, rfl, O3.out, B3.out⟩
end Go.Proofs.YtbklpelikaapoaaGreatDoor

namespace Go.Proofs.YtbklpelikaapoaaGreatDoor
open Go.ChangeShapes Go.WideShapes Go.ChangeAt Go.RowKit
set_option linter.unusedVariables false
set_option linter.unusedSimpArgs false

/-- What is wrong with a next header and a length. -/
def psE (next : Int) (n : Nat) : Int := if 0 ≤ next ∧ next ≤ 255 then (if 1280 < n then 2 else 0) else 1
/-- The checksum of a text with its pseudo-header. -/
def psV (f t : List Int) (next : Int) (l : List Int) : Int := if psE next l.length = 0 then 65535 - sumV (hdr f t next l.length ++ l) else 0

theorem box2 (w : World) (ty : TypeId) (f t : List Int) : Row4 ((w.alloc (.cells (arr4 f) ty)).alloc (.cells (arr4 t) ty)) w.heap.size ty f ∧ Row4 ((w.alloc (.cells (arr4 f) ty)).alloc (.cells (arr4 t) ty)) (w.heap.size + 1) ty t ∧
    Below w.heap.size w ((w.alloc (.cells (arr4 f) ty)).alloc (.cells (arr4 t) ty)) ∧ ((w.alloc (.cells (arr4 f) ty)).alloc (.cells (arr4 t) ty)).heap.size = w.heap.size + 1 + 1 := by
  have h1 := Row4.new (w.alloc (.cells (arr4 f) ty)) ty t
  rw [show (w.alloc (.cells (arr4 f) ty)).heap.size = w.heap.size + 1 by simp] at h1
  exact ⟨(Row4.new w ty f).below (balloc (Below.refl _ _) _), h1, balloc (balloc (Below.refl _ _) _) _, by simp⟩
theorem fits_one4 (next : Int) : fitsB 1 [next] = decide (0 ≤ next ∧ next ≤ 255) := by
  rw [Bool.eq_iff_iff]
  simp [fitsB, okB, top, show sizeB 1 = true by decide]
  omega
theorem ret_two {a b : Int} {k : IntKind} {c d : Int} (h : a = b) (h' : c = d) : Ending.returned (.tuple #[.int .i64 a, .int k c]) = .returned (.tuple #[.int .i64 b, .int k d]) := by rw [h, h']

set_option maxHeartbeats 800000 in
theorem pseudo_any (f t : List Int) (next : Int) (a : Option Addr) (n cap : Nat) (l : List Int) (w : World) (hf : Adr4 f) (ht : Adr4 t) (h : Lies .u8 w a n cap l) (ho : Oct l) :
    Calls Tryz.prog 96 #[.agg (arr4 f), .agg (arr4 t), .int .i64 next, .slice a n cap] w fun e w' => e = .returned (.tuple #[.int .i64 (psV f t next l), .int .i64 (psE next l.length)]) ∧ Below w.heap.size w w' := by
  obtain ⟨f1, t1, b1, z1⟩ := box2 w 33 f t
  have hln := h.1
  have F1 := hid f1
  have T1 := hid t1
  have B1 := hid b1
  have L1 := hid (h.below b1)
  have HF := hid hf
  have HT := hid ht
  have HO := hid ho
  have HV : Hid (∀ x, psE next l.length = x → x ≠ 0 → psV f t next l = 0) := by intro x hx h0; rw [psV, if_neg (by rw [hx]; exact h0)]
  have hnm : n ≤ maxLen := Nat.le_trans h.2.1 h.2.2.1
  unfold maxLen at hnm
  have NI := hid (lies_new .i64 ((w.alloc (.cells (arr4 f) 33)).alloc (.cells (arr4 t) 33)) #[.int .i64 next] 3 [next] rfl (by simp))
  rw [z1, show [next].length = 1 from rfl] at NI
  clear f1 t1 b1 z1 hf ht ho h
  by_cases hx : 0 ≤ next ∧ next ≤ 255
  · have HFit : Hid (fitsB 1 [next] = true) := by rw [Hid, fits_one4]; simpa using hx
    by_cases hlong : 1280 < n
    · have HE : Hid (psE next l.length = 2) := by rw [Hid, psE, if_pos hx, if_pos (by omega)]
      clear HO
      go_enter Tryz.func96, Tryz.ntmps96
      go_wp2_with fail
      generalize (w.alloc (.cells (arr4 f) 33)).alloc (.cells (arr4 t) 33) = w1 at *
      refine (fits_any _ _ _ _ _ _ NI.out).mono ?_
      rintro e w2 ⟨rfl, rfl⟩
      rw [HFit.out]
      have B2 := hid (balloc B1.out (.cells #[.int .i64 next] 3))
      generalize w1.alloc (.cells #[.int .i64 next] 3) = w2 at *
      go_wp2_with fail
      go_ret2
      exact ⟨ret_two (HV.out 2 HE.out (by decide)).symm HE.out.symm, B2.out⟩
    · have HE : Hid (psE next l.length = 0) := by rw [Hid, psE, if_pos hx, if_neg (by omega)]
      have HE2 : Hid (65535 - sumV (hdr f t next l.length ++ l) = psV f t next l) := by rw [Hid, psV, if_pos HE.out]
      have HHl := hid (hdr_len f t next n HF.out HT.out)
      have HHo := hid (hdr_oct f t next n HF.out HT.out)
      rw [hln] at HE2
      clear HV
      go_enter Tryz.func96, Tryz.ntmps96
      go_wp2_with fail
      generalize (w.alloc (.cells (arr4 f) 33)).alloc (.cells (arr4 t) 33) = w1 at *
      refine (fits_any _ _ _ _ _ _ NI.out).mono ?_
      rintro e w2 ⟨rfl, rfl⟩
      rw [HFit.out]
      have b2 : Below w1.heap.size w1 (w1.alloc (.cells #[.int .i64 next] 3)) := balloc (Below.refl _ _) _
      have B2 := hid (bthen B1.out b2)
      have F2 := hid (F1.out.below b2)
      have T2 := hid (T1.out.below b2)
      have L2 := hid (L1.out.below b2)
      clear b2 F1 T1 L1 B1
      generalize w1.alloc (.cells #[.int .i64 next] 3) = w2 at *
      have hd : decide ((1280 : Int) < (n : Int)) = false := by simp; omega
      go_wp2_with (first
        | (refine ld50 _ rfl rfl w.heap.size rfl 33 f HF.out F2.out ?_)
        | (refine ld50 _ rfl rfl (w.heap.size + 1) rfl 33 t HT.out T2.out ?_))
      refine (pseudoHeader_any f t next n _ HF.out HT.out hx (by omega)).mono ?_
      rintro e w3 ⟨v3, rfl, ho3, hb3⟩
      obtain ⟨a3, cap3, rfl, hl3, _⟩ := owns_lies ho3
      rw [HHl.out] at hl3 ⊢
      have X3 : Hid (Txt4.ok w3 ⟨a3, 40, cap3, hdr f t next n⟩) := ⟨hl3, HHo.out⟩
      have Y3 : Hid (Txt4.ok w3 ⟨a, n, cap, l⟩) := ⟨L2.out.below hb3, HO.out⟩
      have B3 := hid (bthen B2.out hb3)
      clear ho3 hb3 hl3 F2 T2 L2 B2
      have Z4 := hid (texts_two w3 _ _ X3.out Y3.out)
      have B4 := hid (balloc B3.out (.cells #[(⟨a3, 40, cap3, hdr f t next n⟩ : Txt4).v, (⟨a, n, cap, l⟩ : Txt4).v] 30))
      simp only [Txt4.v] at Z4 B4
      generalize hH : hdr f t next n = H at *
      have HH := hid hH
      clear hH X3 Y3 B3
      go_wp2_with fail
      refine (of_any _ _ _ _ _ Z4.out (by simp [bytes4, HHl.out]; omega)).mono ?_
      rintro e w5 ⟨rfl, hb5⟩
      have B5 := hid (bthen B4.out hb5)
      have HB : Hid (bytes4 [⟨a3, 40, cap3, H⟩, ⟨a, n, cap, l⟩] = H ++ l) := by simp [Hid, bytes4]
      rw [HB.out, HE2.out]
      clear hb5 B4
      go_wp2_with fail
      go_ret2
      exact ⟨ret_two rfl HE.out.symm, B5.out⟩
  · have HFit : Hid (fitsB 1 [next] = false) := by rw [Hid, fits_one4]; simpa using hx
    have HE : Hid (psE next l.length = 1) := by rw [Hid, psE, if_neg hx]
    clear HO
    go_enter Tryz.func96, Tryz.ntmps96
    go_wp2_with fail
    generalize (w.alloc (.cells (arr4 f) 33)).alloc (.cells (arr4 t) 33) = w1 at *
    refine (fits_any _ _ _ _ _ _ NI.out).mono ?_
    rintro e w2 ⟨rfl, rfl⟩
    rw [HFit.out]
    have B2 := hid (balloc B1.out (.cells #[.int .i64 next] 3))
    generalize w1.alloc (.cells #[.int .i64 next] 3) = w2 at *
    go_wp2_with fail
    go_ret2
    exact ⟨ret_two (HV.out 1 HE.out (by decide)).symm HE.out.symm, B2.out⟩

/-- Is the checksum right? -/
def chkB (f t : List Int) (next : Int) (l : List Int) : Bool := psE next l.length == 0 && psV f t next l == 0

set_option maxHeartbeats 400000 in
theorem check_any (f t : List Int) (next : Int) (a : Option Addr) (n cap : Nat) (l : List Int) (w : World) (hf : Adr4 f) (ht : Adr4 t) (h : Lies .u8 w a n cap l) (ho : Oct l) :
    Calls Tryz.prog 107 #[.agg (arr4 f), .agg (arr4 t), .int .i64 next, .slice a n cap] w fun e w' => e = .returned (.bool (chkB f t next l)) ∧ Below w.heap.size w w' := by
  obtain ⟨f1, t1, b1, z1⟩ := box2 w 33 f t
  have F1 := hid f1
  have T1 := hid t1
  have B1 := hid b1
  have L1 := hid (h.below b1)
  have HF := hid hf
  have HT := hid ht
  have HO := hid ho
  clear f1 t1 b1 z1 hf ht ho h
  have HC : Hid ((psE next l.length == 0 && psV f t next l == 0) = chkB f t next l) := rfl
  cases hE : (psE next l.length == 0)
  all_goals
    rw [hE] at HC
    have HE := hid hE
    clear hE
    go_enter Tryz.func107, Tryz.ntmps107
    go_wp2_with (first
      | (refine ld50 _ rfl rfl w.heap.size rfl 33 f HF.out F1.out ?_)
      | (refine ld50 _ rfl rfl (w.heap.size + 1) rfl 33 t HT.out T1.out ?_))
    generalize (w.alloc (.cells (arr4 f) 33)).alloc (.cells (arr4 t) 33) = w1 at *
    refine (pseudo_any f t next a n cap l _ HF.out HT.out L1.out HO.out).mono ?_
    rintro e w2 ⟨rfl, hb2⟩
    have B2 := hid (bthen B1.out hb2)
    have hq := HE.out
    clear hb2
    generalize psE next l.length = E at *
    generalize psV f t next l = V at *
    go_wp2_with fail
    go_ret
    exact ⟨ret_bool (by simpa using HC.out), B2.out⟩
end Go.Proofs.YtbklpelikaapoaaGreatDoor

namespace Go.Proofs.YtbklpelikaapoaaGreatDoor
open Go.ChangeShapes Go.WideShapes Go.ChangeAt Go.RowKit
set_option linter.unusedVariables false
set_option linter.unusedSimpArgs false

end Go.Proofs.YtbklpelikaapoaaGreatDoor

namespace Go.Proofs.YtbklpelikaapoaaGreatDoor
open Go.ChangeShapes Go.WideShapes Go.ChangeAt Go.RowKit
set_option linter.unusedVariables false
set_option linter.unusedSimpArgs false

/-- Bytes with a pair set. -/
def set2 (l : List Int) (k : Nat) (x y : Int) : List Int := (l.set k x).set (k + 1) y
/-- The checksum of bytes4 whose pair is 0. -/
def zeroC (f t : List Int) (next : Int) (l : List Int) (k : Nat) : Int := 65535 - sumV (hdr f t next l.length ++ set2 l k 0 0)
/-- A text with its checksum at a place. -/
def setL (f t : List Int) (next : Int) (l : List Int) (k : Nat) : List Int := set2 (set2 l k 0 0) k (zeroC f t next l k / 256) (zeroC f t next l k % 256)
theorem set2_len (l : List Int) (k : Nat) (x y : Int) : (set2 l k x y).length = l.length := by simp [set2]
theorem oct_set {l : List Int} (h : Oct l) (k : Nat) (x : Int) (hx : 0 ≤ x ∧ x < 256) : Oct (l.set k x) := by
  intro y hy
  rcases List.mem_or_eq_of_mem_set hy with h' | rfl
  · exact h y h'
  · exact hx
theorem set2_oct {l : List Int} (h : Oct l) (k : Nat) (x y : Int) (hx : 0 ≤ x ∧ x < 256) (hy : 0 ≤ y ∧ y < 256) : Oct (set2 l k x y) := oct_set (oct_set h k x hx) (k + 1) y hy
theorem u8s_set (l : List Int) (k : Nat) (x : Int) : (u8s l).set k (.int .u8 x) = u8s (l.set k x) := by simp [u8s, List.map_set]
theorem zeroC_bd (f t : List Int) (next : Int) (l : List Int) (k : Nat) : 0 ≤ zeroC f t next l k ∧ zeroC f t next l k ≤ 65535 := by
  have := sumV_bd (hdr f t next l.length ++ set2 l k 0 0); unfold zeroC; omega

/-- Two stores into a row of the call's own. -/
theorem own_set2 {w : World} {base g n cap : Nat} {l : List Int} (h : w.ownsRow base 5 1 (.slice (some ⟨g, 0, none⟩) n cap) n (u8s l)) (k : Nat) (x y : Int) :
    ((w.setCell ⟨g, k, none⟩ (.int .u8 x)).setCell ⟨g, k + 1, none⟩ (.int .u8 y)).ownsRow base 5 1 (.slice (some ⟨g, 0, none⟩) n cap) n (u8s (set2 l k x y)) ∧ w.grownBy ((w.setCell ⟨g, k, none⟩ (.int .u8 x)).setCell ⟨g, k + 1, none⟩ (.int .u8 y)) (some g) := by
  obtain ⟨h1, g1⟩ := h.stored k (.int .u8 x)
  obtain ⟨h2, g2⟩ := h1.stored (k + 1) (.int .u8 y)
  rw [u8s_set, u8s_set] at h2
  exact ⟨h2, g1.trans g2⟩
theorem own_cells {w : World} {base g n cap : Nat} {l : List Int} (h : w.ownsRow base 5 1 (.slice (some ⟨g, 0, none⟩) n cap) n (u8s l)) (k : Nat) (hk : k < n) : w.cell? ⟨g, k, none⟩ = some (.int .u8 (l.getD k 0)) := by
  have hl : l.length = n := by have := h.1; simpa [u8s] using this
  rw [h.cellAt k (by omega)]; simp [u8s, hl, hk]

theorem Row4.kept {w w' : World} {b : Nat} {t : TypeId} {l : List Int} {row : Option Nat} (h : Row4 w b t l) (hg : w.grownBy w' row) (hne : row ≠ some b) : Row4 w' b t l := by
  unfold Row4 at *; rw [hg.block b (Array.getElem?_eq_some_iff.1 h).1 (fun e => hne e.symm)]; exact h

theorem ownsRow_kept4 {w w' : World} {base : Nat} {e : TypeId} {size : Nat} {v : Value} {n : Nat} {xs : List Value} (h : w.ownsRow base e size v n xs) (hb : Below w.heap.size w w') : w'.ownsRow base e size v n xs := by
  refine ⟨h.1, ?_⟩
  rcases h.2 with hn | ⟨g, cap, cur, rfl, hbb, hgg, rest⟩
  · exact .inl hn
  · exact .inr ⟨g, cap, cur, rfl, hbb, by rw [hb.block g (Array.getElem?_eq_some_iff.1 hgg).1]; exact hgg, rest⟩

set_option maxHeartbeats 1600000 in
theorem set_ok (f t : List Int) (next : Int) (k : Nat) (a : Option Addr) (n cap : Nat) (l : List Int) (w : World) (hf : Adr4 f) (ht : Adr4 t) (h : Lies .u8 w a n cap l) (ho : Oct l) (hE : psE next l.length = 0) (hp : k % 2 = 0 ∧ k + 2 ≤ n) :
    Calls Tryz.prog 56 #[.agg (arr4 f), .agg (arr4 t), .int .i64 next, .slice a n cap, .int .i64 k] w fun e w' => ∃ v, e = .returned (.tuple #[v, .int .i64 0]) ∧ w'.ownsRow w.heap.size 5 1 v n (u8s (setL f t next l k)) ∧ Below w.heap.size w w' := by
  obtain ⟨f1, t1, b1, z1⟩ := box2 w 33 f t
  have hn : (0 ≤ next ∧ next ≤ 255) ∧ n ≤ 1280 := by
    have hl := h.1
    unfold psE at hE
    split at hE
    · split at hE
      · omega
      · rename_i h1 h2; exact ⟨h1, by omega⟩
    · omega
  obtain ⟨hn0, hnn⟩ := hn
  have HN0 := hid hn0
  have F1 := hid f1
  have T1 := hid t1
  have B1 := hid b1
  have L1 := hid (h.below b1)
  have HLn := hid h.1
  have HF := hid hf
  have HT := hid ht
  have HO := hid ho
  have HE := hid hE
  have hr : ((k : Int) % 2 != 0) = false := by simp; omega
  have hd : decide ((n : Int) - 2 < (k : Int)) = false := by simp; omega
  clear f1 t1 b1 z1 hf ht ho h hE
  go_enter Tryz.func56, Tryz.ntmps56
  go_wp2_with (first
    | (refine ld50 _ rfl rfl w.heap.size rfl 33 f HF.out F1.out ?_)
    | (refine ld50 _ rfl rfl (w.heap.size + 1) rfl 33 t HT.out T1.out ?_))
  generalize (w.alloc (.cells (arr4 f) 33)).alloc (.cells (arr4 t) 33) = w1 at *
  refine (pseudo_any f t next a n cap l _ HF.out HT.out L1.out HO.out).mono ?_
  rintro e w2 ⟨rfl, hb2⟩
  have B2 := hid (bthen B1.out hb2)
  have F2 := hid (F1.out.below hb2)
  have T2 := hid (T1.out.below hb2)
  have L2 := hid (L1.out.below hb2)
  rw [HE.out]
  clear hb2 F1 T1 L1 B1
  generalize psV f t next l = V at *
  go_wp2_with fail
  refine (clone_any a n cap l _ L2.out (by omega)).mono ?_
  rintro e w3 ⟨v3, rfl, ho3, hb3⟩
  rw [HLn.out] at ho3
  obtain ⟨g, cap3, cur, rfl, hg3, hgg, -⟩ := ho3.2.resolve_left (by rintro ⟨_, h0⟩; omega)
  have hgw : w.heap.size ≤ g := Nat.le_trans B2.out.size hg3
  have F3 := hid (F2.out.below hb3)
  have T3 := hid (T2.out.below hb3)
  have B3 := hid (bthen B2.out hb3)
  have O3 := hid ho3
  have c30 := own_cells ho3 k (by omega)
  have c31 := own_cells ho3 (k + 1) (by omega)
  have z30 := ho3.frozenAt k
  have z31 := ho3.frozenAt (k + 1)
  have hcap3 : n ≤ cap3 ∧ cap3 ≤ maxLen := ⟨(ho3.2.resolve_left (by rintro ⟨_, h0⟩; omega)).elim (fun g' hh => by obtain ⟨c', _, e, _, _, h5, _⟩ := hh; simp at e; omega), (ho3.2.resolve_left (by rintro ⟨_, h0⟩; omega)).elim (fun g' hh => by obtain ⟨c', _, e, _, _, _, h6, _⟩ := hh; simp at e; omega)⟩
  have hgf := F2.out.lt
  have hgt := T2.out.lt
  obtain ⟨ho4, hg4⟩ := own_set2 ho3 k 0 0
  have F4 := hid (F3.out.kept hg4 (fun e => by simp at e; omega))
  have T4 := hid (T3.out.kept hg4 (fun e => by simp at e; omega))
  have O4 := hid (World.ownsRow.mono ho4 B2.out.size)
  have B4 := hid (bgrown B3.out hg4 hgw)
  clear ho3 hb3 hgg hg3 cur F2 T2 L2 B2 F3 T3 B3 O3 hgf hgt ho4 hg4
  generalize l.getD k 0 = x0 at *
  generalize l.getD (k + 1) 0 = x1 at *
  unfold maxLen at hcap3
  go_wp2_with (first
    | (refine ld50 _ rfl rfl w.heap.size rfl 33 f HF.out F4.out ?_)
    | (refine ld50 _ rfl rfl (w.heap.size + 1) rfl 33 t HT.out T4.out ?_))
  generalize (w3.setCell ⟨g, k, none⟩ (.int .u8 0)).setCell ⟨g, k + 1, none⟩ (.int .u8 0) = w4 at *
  refine (pseudoHeader_any f t next n _ HF.out HT.out HN0.out (by omega)).mono ?_
  rintro e w5 ⟨v5, rfl, ho5, hb5⟩
  obtain ⟨a5, cap5, rfl, hl5, _⟩ := owns_lies ho5
  have HHl := hid (hdr_len f t next n HF.out HT.out)
  have HHo := hid (hdr_oct f t next n HF.out HT.out)
  rw [HHl.out] at hl5 ⊢
  have HZo := hid (set2_oct HO.out k 0 0 (by omega) (by omega))
  have HZl : Hid ((set2 l k 0 0).length = n) := by rw [Hid, set2_len]; exact HLn.out
  have hC := zeroC_bd f t next l k
  have HC : Hid (65535 - sumV (hdr f t next n ++ set2 l k 0 0) = zeroC f t next l k) := by rw [Hid, zeroC, HLn.out]
  have HR : Hid (setL f t next l k = set2 (set2 l k 0 0) k (zeroC f t next l k / 256) (zeroC f t next l k % 256)) := rfl
  generalize hZ : set2 l k 0 0 = Z at *
  clear hZ
  have O5 := hid (ownsRow_kept4 O4.out hb5)
  have X5 : Hid (Txt4.ok w5 ⟨a5, 40, cap5, hdr f t next n⟩) := ⟨hl5, HHo.out⟩
  have hYo : w5.ownsRow w.heap.size 5 1 (.slice (some ⟨g, 0, none⟩) n cap3) Z.length (u8s Z) := by rw [HZl.out]; exact O5.out
  have Y5 : Hid (Txt4.ok w5 ⟨some ⟨g, 0, none⟩, n, cap3, Z⟩) := by
    obtain ⟨a', c', he, hl', _⟩ := owns_lies hYo
    rw [HZl.out] at he hl'
    simp at he
    obtain ⟨rfl, rfl⟩ := he
    exact ⟨hl', HZo.out⟩
  have B5 := hid (bthen B4.out hb5)
  clear ho5 hb5 hl5 hYo O4 B4 F4 T4 c30 c31 z30 z31
  have Z6 := hid (texts_two w5 _ _ X5.out Y5.out)
  have b6 : Below w5.heap.size w5 (w5.alloc (.cells #[(⟨a5, 40, cap5, hdr f t next n⟩ : Txt4).v, (⟨some ⟨g, 0, none⟩, n, cap3, Z⟩ : Txt4).v] 30)) := balloc (Below.refl _ _) _
  have O6 := hid (ownsRow_kept4 O5.out b6)
  have B6 := hid (bthen B5.out b6)
  simp only [Txt4.v] at Z6 B6 O6
  clear b6 X5 Y5 O5 B5
  generalize hdr f t next n = H at *
  go_wp2_with fail
  generalize w5.alloc (.cells #[.slice a5 40 cap5, .slice (some ⟨g, 0, none⟩) n cap3] 30) = w6 at *
  refine (of_any _ _ _ _ _ Z6.out (by simp [bytes4, HHl.out, HZl.out]; omega)).mono ?_
  rintro e w7 ⟨rfl, hb7⟩
  have HBy : Hid (bytes4 [⟨a5, 40, cap5, H⟩, ⟨some ⟨g, 0, none⟩, n, cap3, Z⟩] = H ++ Z) := by simp [Hid, bytes4]
  rw [HBy.out, HC.out]
  have o7 := ownsRow_kept4 O6.out hb7
  have B7 := hid (bthen B6.out hb7)
  have c70 := own_cells o7 k (by omega)
  have c71 := own_cells o7 (k + 1) (by omega)
  have z70 := o7.frozenAt k
  have z71 := o7.frozenAt (k + 1)
  have O7 := hid o7
  clear o7 hb7 Z6 O6 B6
  generalize Z.getD k 0 = y0 at *
  generalize Z.getD (k + 1) 0 = y1 at *
  generalize zeroC f t next l k = C at *
  have hc1 : 0 ≤ C / 256 ∧ C / 256 < 256 := by omega
  go_wp2_with fail
  go_ret2
  obtain ⟨o8, g8⟩ := own_set2 O7.out k (C / 256) (C % 256)
  exact ⟨_, rfl, by rw [HR.out]; exact o8, bgrown B7.out g8 hgw⟩
end Go.Proofs.YtbklpelikaapoaaGreatDoor

namespace Go.Proofs.YtbklpelikaapoaaGreatDoor
open Go.ChangeShapes Go.WideShapes Go.ChangeAt Go.RowKit
set_option linter.unusedVariables false
set_option linter.unusedSimpArgs false

theorem set2_split (l : List Int) (k : Nat) (x y : Int) (h : k + 2 ≤ l.length) : set2 l k x y = l.take k ++ ([x, y] ++ l.drop (k + 2)) := by
  apply List.ext_getElem?
  intro i
  unfold set2
  rw [List.getElem?_set, List.getElem?_set, List.getElem?_append]
  simp only [List.length_set, List.length_take, Nat.min_eq_left (show k ≤ l.length by omega)]
  by_cases h1 : i < k
  · rw [if_neg (by omega), if_neg (by omega), if_pos h1, List.getElem?_take, if_pos h1]
  · rw [if_neg h1]
    by_cases h2 : i = k
    · subst h2
      rw [if_neg (by omega), if_pos rfl, if_pos (by omega)]
      simp
    · by_cases h3 : i = k + 1
      · subst h3
        rw [if_pos rfl, if_pos (by omega)]
        simp [show k + 1 - k = 1 by omega]
      · rw [if_neg (by omega), if_neg (by omega), List.getElem?_append, if_neg (by simp; omega), List.getElem?_drop]
        congr 1
        simp; omega
theorem wsum_even (k : Nat) (h : k % 2 = 0) (l : List Int) : wsum k l = wsum 0 l := by
  obtain ⟨m, rfl⟩ : ∃ m, k = 2 * m := ⟨k / 2, by omega⟩
  clear h
  induction m with
  | zero => rfl
  | succ m ih => rw [show 2 * (m + 1) = 2 * m + 2 by omega, wsum_two, ih]
theorem wsum_pair2 (P R : List Int) (x y : Int) (h : P.length % 2 = 0) : wsum 0 (P ++ ([x, y] ++ R)) = wsum 0 P + (256 * x + y) + wsum 0 R := by
  rw [wsum_app, wsum_app, wsum_even (0 + P.length) (by omega), wsum_even (0 + P.length + [x, y].length) (by simp; omega)]
  simp [wsum, wt]; omega
theorem wsum_set2 (l : List Int) (k : Nat) (x y : Int) (hk : k % 2 = 0) (h : k + 2 ≤ l.length) : wsum 0 (set2 l k x y) = wsum 0 (set2 l k 0 0) + (256 * x + y) := by
  have hl : (l.take k).length % 2 = 0 := by simp; omega
  rw [set2_split l k x y h, set2_split l k 0 0 h, wsum_pair2 _ _ _ _ hl, wsum_pair2 _ _ _ _ hl]; omega
theorem set2_set2 (l : List Int) (k : Nat) (x y x' y' : Int) : set2 (set2 l k x y) k x' y' = set2 l k x' y' := by
  unfold set2
  rw [List.set_comm (l := l.set k x) (a := y) (b := x') (show k + 1 ≠ k by omega), List.set_set, List.set_set]

theorem norm_full (S : Int) (h : 0 ≤ S) : norm (S + (65535 - norm S)) = 65535 := by
  unfold norm; split <;> split <;> omega

theorem setL_eq (f t : List Int) (next : Int) (l : List Int) (k : Nat) : setL f t next l k = set2 l k (zeroC f t next l k / 256) (zeroC f t next l k % 256) := by
  unfold setL; rw [set2_set2]
theorem setL_len (f t : List Int) (next : Int) (l : List Int) (k : Nat) : (setL f t next l k).length = l.length := by rw [setL_eq, set2_len]
theorem setL_oct (f t : List Int) (next : Int) (l : List Int) (k : Nat) (ho : Oct l) : Oct (setL f t next l k) := by
  have := zeroC_bd f t next l k
  rw [setL_eq]; exact set2_oct ho k _ _ (by omega) (by omega)
theorem setL_right (f t : List Int) (next : Int) (l : List Int) (k : Nat) (hf : Adr4 f) (ht : Adr4 t) (ho : Oct l) (hE : psE next l.length = 0) (hk : k % 2 = 0) (h : k + 2 ≤ l.length) : chkB f t next (setL f t next l k) = true := by
  have hV : psV f t next (setL f t next l k) = 0 := by
    rw [psV, setL_len, if_pos hE]
    have hh := hdr_len f t next l.length hf ht
    have e1 : ∀ M, wsum 0 (hdr f t next l.length ++ M) = wsum 0 (hdr f t next l.length) + wsum 0 M := fun M => by rw [wsum_app, wsum_even (0 + (hdr f t next l.length).length) (by omega)]
    have hC : zeroC f t next l k = 65535 - norm (wsum 0 (hdr f t next l.length ++ set2 l k 0 0)) := rfl
    have hS := (wsum_bd 0 _ ((hdr_oct f t next l.length hf ht).app (set2_oct ho k 0 0 (by omega) (by omega)))).1
    have hw : wsum 0 (hdr f t next l.length ++ setL f t next l k) = wsum 0 (hdr f t next l.length ++ set2 l k 0 0) + zeroC f t next l k := by
      rw [e1, e1, setL_eq, wsum_set2 l k _ _ hk h]; omega
    have : sumV (hdr f t next l.length ++ setL f t next l k) = 65535 := by
      rw [sumV, hw, hC, norm_full _ hS]
    rw [this]; rfl
  rw [chkB, setL_len, hE, hV]; rfl
theorem setL_take (f t : List Int) (next : Int) (l : List Int) (k : Nat) (h : k + 2 ≤ l.length) : (setL f t next l k).take k = l.take k := by
  rw [setL_eq, set2_split l k _ _ h, List.take_left' (by simp; omega)]
theorem setL_drop (f t : List Int) (next : Int) (l : List Int) (k : Nat) (h : k + 2 ≤ l.length) : (setL f t next l k).drop (k + 2) = l.drop (k + 2) := by
  rw [setL_eq, set2_split l k _ _ h, ← List.append_assoc, List.drop_left' (by simp; omega)]
end Go.Proofs.YtbklpelikaapoaaGreatDoor

namespace Go.Proofs.YtbklpelikaapoaaGreatDoor
open Go.ChangeShapes Go.WideShapes Go.ChangeAt Go.RowKit
set_option linter.unusedVariables false
set_option linter.unusedSimpArgs false

/-- The document's cursor in memory: the bytes that are left, how many were read, what was wrong. -/
structure RefAt (w : World) (d : Nat) (a : Option Addr) (len cap : Nat) (l : List Int) (at_ : Nat) (er : Int) : Prop where
  block : w.heap[d]? = some (.cells #[.slice a len cap, .int .i64 at_, .int .i64 er] 134 (0, 0))
  lies : Lies .u8 w a len cap l
  oct : Oct l
  small : len ≤ 100000
  at_small : at_ + len ≤ 100000

section
variable {w : World} {d : Nat} {a : Option Addr} {len cap : Nat} {l : List Int} {at_ : Nat} {er : Int}
theorem RefAt.cell0 (h : RefAt w d a len cap l at_ er) : w.cell? ⟨d, 0, none⟩ = some (.slice a len cap) := by rw [cell_of_row w d 0 _ _ _ h.block]; rfl
theorem RefAt.cell1 (h : RefAt w d a len cap l at_ er) : w.cell? ⟨d, 1, none⟩ = some (.int .i64 at_) := by rw [cell_of_row w d 1 _ _ _ h.block]; rfl
theorem RefAt.cell2 (h : RefAt w d a len cap l at_ er) : w.cell? ⟨d, 2, none⟩ = some (.int .i64 er) := by rw [cell_of_row w d 2 _ _ _ h.block]; rfl
theorem RefAt.soft (h : RefAt w d a len cap l at_ er) : ∀ j, w.frozen? ⟨d, j, none⟩ = false := by intro j; simp [World.frozen?, h.block]
theorem RefAt.noU8 (h : RefAt w d a len cap l at_ er) : NoU8 w d := noU8_of h.block
theorem RefAt.lt (h : RefAt w d a len cap l at_ er) : d < w.heap.size := (Array.getElem?_eq_some_iff.1 h.block).1
theorem RefAt.drewN (h : RefAt w d a len cap l at_ er) (q : Nat) : RefAt (w.drewN q) d a len cap l at_ er := ⟨h.block, h.lies, h.oct, h.small, h.at_small⟩
theorem RefAt.below {w' : World} (h : RefAt w d a len cap l at_ er) (hb : Below w.heap.size w w') : RefAt w' d a len cap l at_ er :=
  ⟨(hb.block d h.lt).trans h.block, h.lies.below hb, h.oct, h.small, h.at_small⟩
theorem RefAt.grown {w' : World} {c : Nat} (h : RefAt w d a len cap l at_ er) (hn : NoU8 w c) (hcd : d ≠ c) (hg : w.grownBy w' (some c)) : RefAt w' d a len cap l at_ er :=
  ⟨(hg.block d h.lt (fun e => hcd (Option.some.inj e))).trans h.block, h.lies.grown hn hg, h.oct, h.small, h.at_small⟩
theorem RefAt.setEr (h : RefAt w d a len cap l at_ er) (n : Int) : RefAt (w.setCell ⟨d, 2, none⟩ (.int .i64 n)) d a len cap l at_ n :=
  ⟨by rw [heap_setCell_same w d 2 _ _ _ h.block]; rfl, h.lies.grown h.noU8 (grownBy_setCell ..), h.oct, h.small, h.at_small⟩
end

end Go.Proofs.YtbklpelikaapoaaGreatDoor

namespace Go.Proofs.YtbklpelikaapoaaGreatDoor
open Go.ChangeShapes Go.WideShapes Go.ChangeAt Go.RowKit
set_option linter.unusedVariables false
set_option linter.unusedSimpArgs false

end Go.Proofs.YtbklpelikaapoaaGreatDoor

namespace Go.Proofs.YtbklpelikaapoaaGreatDoor
open Go.ChangeShapes Go.WideShapes Go.ChangeAt Go.RowKit Go.Deep
set_option linter.unusedVariables false
set_option linter.unusedSimpArgs false

/-- What is wrong behind bytes that should be 0. -/
def zE (l : List Int) (len : Nat) (er : Int) (size : Int) : Int := if numOf (l.take (rdN size 1 len er)) = 0 then rdE size 1 len er else spE (rdE size 1 len er) 3
end Go.Proofs.YtbklpelikaapoaaGreatDoor

namespace Go.Proofs.YtbklpelikaapoaaGreatDoor
open Go.ChangeShapes Go.WideShapes Go.ChangeAt Go.RowKit Go.Deep
set_option linter.unusedVariables false
set_option linter.unusedSimpArgs false

theorem takeV_bd1 (l : List Int) (ho : Oct l) (z : Nat) (at_ len : Nat) (er : Int) (hz : z = 1 ∨ z = 2) : 0 ≤ takeV z l at_ len er ∧ takeV z l at_ len er < 65536 ∧ (z = 1 → takeV z l at_ len er < 256) := by
  have ho : Oct ((l.drop at_).take (rdN z 1 (len - at_) er)) := ho.cut _ _
  have hb := numOf_bd _ ho _ (Nat.le_refl _)
  rw [List.take_of_length_le (Nat.le_refl _)] at hb
  have hle : ((l.drop at_).take (rdN z 1 (len - at_) er)).length ≤ z := by
    rw [List.length_take]
    have : rdN z 1 (len - at_) er ≤ z := by
      unfold rdN
      split
      · rcases hz with rfl | rfl <;> simp
      · omega
    omega
  unfold takeV
  generalize (l.drop at_).take (rdN z 1 (len - at_) er) = ml at *
  have h3 : ml.length = 0 ∨ ml.length = 1 ∨ ml.length = 2 := by omega
  rcases h3 with e | e | e
  · rw [e] at hb; refine ⟨hb.1, by omega, fun _ => by omega⟩
  · rw [e] at hb
    have : (256 : Int) ^ 1 = 256 := by decide
    refine ⟨hb.1, by omega, fun _ => by omega⟩
  · rw [e] at hb
    have : (256 : Int) ^ 2 = 65536 := by decide
    refine ⟨hb.1, by omega, fun h1 => by omega⟩
theorem ptStep_eq (l : List Int) (s : Nat × Int × List Int) (p : Pa) (n : Int) (v : List Int) (h : rdFs p.f (takeV p.z l s.1 l.length s.2.1, s.2.2) = (n, v)) :
    ptStep l s p = (s.1 + rdN p.z 1 (l.length - s.1) s.2.1, if n = 0 then rdE p.z 1 (l.length - s.1) s.2.1 else spE (rdE p.z 1 (l.length - s.1) s.2.1) 3, v) := by
  unfold ptStep ptA ptE ptS ptN
  rw [h]
theorem rdF1 (f : Fl) (n : Int) (v : List Int) : rdFs [f] (n, v) = (fleft n f, v.set f.p (fval n f)) := rfl
theorem rdF2 (f g : Fl) (n : Int) (v : List Int) : rdFs [f, g] (n, v) = rdFs [g] (fleft n f, v.set f.p (fval n f)) := rfl
theorem rdF3 (f g h : Fl) (n : Int) (v : List Int) : rdFs [f, g, h] (n, v) = rdFs [g, h] (fleft n f, v.set f.p (fval n f)) := rfl
theorem pt_full (l : List Int) (ho : Oct l) (s : Nat × Int × List Int) (z j lst : Nat) (hz : (z = 1 ∧ lst = 255) ∨ (z = 2 ∧ lst = 65535)) :
    ptStep l s ⟨z, [⟨j, 0, lst⟩]⟩ = (s.1 + rdN z 1 (l.length - s.1) s.2.1, rdE z 1 (l.length - s.1) s.2.1, s.2.2.set j (takeV z l s.1 l.length s.2.1)) := by
  have hb := takeV_bd1 l ho z s.1 l.length s.2.1 (by omega)
  have e1 : fval (takeV z l s.1 l.length s.2.1) ⟨j, 0, lst⟩ = takeV z l s.1 l.length s.2.1 := by
    generalize takeV (z : Int) l s.1 l.length s.2.1 = x at *
    unfold fval
    rcases hz with ⟨rfl, rfl⟩ | ⟨rfl, rfl⟩ <;> simp <;> omega
  have e2 : fleft (takeV z l s.1 l.length s.2.1) ⟨j, 0, lst⟩ = 0 := by unfold fleft; rw [e1]; simp
  rw [ptStep_eq l s _ 0 (s.2.2.set j (takeV z l s.1 l.length s.2.1)) (by show rdFs [_] _ = _; rw [rdF1, e1, e2]), if_pos rfl]
theorem pt_none (l : List Int) (s : Nat × Int × List Int) (z : Nat) :
    ptStep l s ⟨z, []⟩ = (s.1 + rdN z 1 (l.length - s.1) s.2.1, zE (l.drop s.1) (l.length - s.1) s.2.1 z, s.2.2) := rfl
theorem pt_fl1 (l : List Int) (ho : Oct l) (s : Nat × Int × List Int) (b : Int) (hb : takeV 1 l s.1 l.length s.2.1 = b) :
    ptStep l s ⟨1, [⟨3, 7, 1⟩, ⟨4, 3, 7⟩, ⟨5, 0, 7⟩]⟩ = (s.1 + rdN 1 1 (l.length - s.1) s.2.1, if b / 64 % 2 = 1 then spE (rdE 1 1 (l.length - s.1) s.2.1) 3 else rdE 1 1 (l.length - s.1) s.2.1, ((s.2.2.set 3 (b / 128)).set 4 (b / 8 % 8)).set 5 (b % 8)) := by
  have hB := takeV_bd1 l ho 1 s.1 l.length s.2.1 (.inl rfl)
  have hB2 : 0 ≤ b ∧ b < 256 := by rw [← hb]; exact ⟨hB.1, hB.2.2 rfl⟩
  have e1 : fval b ⟨3, 7, 1⟩ = b / 128 := by unfold fval; simp; omega
  have f1 : fleft b ⟨3, 7, 1⟩ = b - b / 128 * 128 := by unfold fleft; rw [e1]; rfl
  have e2 : fval (b - b / 128 * 128) ⟨4, 3, 7⟩ = b / 8 % 8 := by unfold fval; simp; omega
  have f2 : fleft (b - b / 128 * 128) ⟨4, 3, 7⟩ = b - b / 128 * 128 - b / 8 % 8 * 8 := by unfold fleft; rw [e2]; rfl
  have e3 : fval (b - b / 128 * 128 - b / 8 % 8 * 8) ⟨5, 0, 7⟩ = b % 8 := by unfold fval; simp; omega
  have f3 : fleft (b - b / 128 * 128 - b / 8 % 8 * 8) ⟨5, 0, 7⟩ = b - b / 128 * 128 - b / 8 % 8 * 8 - b % 8 := by unfold fleft; rw [e3]; simp
  have e4 : (b - b / 128 * 128 - b / 8 % 8 * 8 - b % 8 = 0) = ¬ (b / 64 % 2 = 1) := by rw [eq_iff_iff]; omega
  rw [ptStep_eq l s _ (b - b / 128 * 128 - b / 8 % 8 * 8 - b % 8) (((s.2.2.set 3 (b / 128)).set 4 (b / 8 % 8)).set 5 (b % 8)) (by
    show rdFs [_, _, _] (takeV 1 l s.1 l.length s.2.1, _) = _
    rw [hb, rdF3, f1, e1, rdF2, f2, e2, rdF1, f3, e3])]
  by_cases h : b / 64 % 2 = 1
  · rw [if_pos h, if_neg (by rw [e4]; exact fun k => k h)]; rfl
  · rw [if_neg h, if_pos (by rw [e4]; exact h)]; rfl
theorem pt_fl2 (l : List Int) (ho : Oct l) (s : Nat × Int × List Int) (b : Int) (hb : takeV 1 l s.1 l.length s.2.1 = b) :
    ptStep l s ⟨1, [⟨7, 7, 1⟩, ⟨10, 6, 1⟩]⟩ = (s.1 + rdN 1 1 (l.length - s.1) s.2.1, if b % 64 = 0 then rdE 1 1 (l.length - s.1) s.2.1 else spE (rdE 1 1 (l.length - s.1) s.2.1) 3, (s.2.2.set 7 (b / 128)).set 10 (b / 64 % 2)) := by
  have hB := takeV_bd1 l ho 1 s.1 l.length s.2.1 (.inl rfl)
  have hB2 : 0 ≤ b ∧ b < 256 := by rw [← hb]; exact ⟨hB.1, hB.2.2 rfl⟩
  have e1 : fval b ⟨7, 7, 1⟩ = b / 128 := by unfold fval; simp; omega
  have f1 : fleft b ⟨7, 7, 1⟩ = b - b / 128 * 128 := by unfold fleft; rw [e1]; rfl
  have e2 : fval (b - b / 128 * 128) ⟨10, 6, 1⟩ = b / 64 % 2 := by unfold fval; simp; omega
  have f2 : fleft (b - b / 128 * 128) ⟨10, 6, 1⟩ = b % 64 := by unfold fleft; rw [e2]; simp; omega
  rw [ptStep_eq l s _ (b % 64) ((s.2.2.set 7 (b / 128)).set 10 (b / 64 % 2)) (by
    show rdFs [_, _] (takeV 1 l s.1 l.length s.2.1, _) = _
    rw [hb, rdF2, f1, e1, rdF1, f2, e2])]
  rfl
theorem pt_fl3 (l : List Int) (ho : Oct l) (s : Nat × Int × List Int) (b : Int) (hb : takeV 1 l s.1 l.length s.2.1 = b) :
    ptStep l s ⟨1, [⟨10, 7, 1⟩]⟩ = (s.1 + rdN 1 1 (l.length - s.1) s.2.1, if b % 128 = 0 then rdE 1 1 (l.length - s.1) s.2.1 else spE (rdE 1 1 (l.length - s.1) s.2.1) 3, s.2.2.set 10 (b / 128)) := by
  have hB := takeV_bd1 l ho 1 s.1 l.length s.2.1 (.inl rfl)
  have hB2 : 0 ≤ b ∧ b < 256 := by rw [← hb]; exact ⟨hB.1, hB.2.2 rfl⟩
  have e1 : fval b ⟨10, 7, 1⟩ = b / 128 := by unfold fval; simp; omega
  have f1 : fleft b ⟨10, 7, 1⟩ = b % 128 := by unfold fleft; rw [e1]; simp; omega
  rw [ptStep_eq l s _ (b % 128) (s.2.2.set 10 (b / 128)) (by
    show rdFs [_] (takeV 1 l s.1 l.length s.2.1, _) = _
    rw [hb, rdF1, f1, e1])]
  rfl
end Go.Proofs.YtbklpelikaapoaaGreatDoor

namespace Go.Proofs.YtbklpelikaapoaaGreatDoor
open Go.ChangeShapes Go.WideShapes Go.ChangeAt Go.RowKit Go.Deep
set_option linter.unusedVariables false
set_option linter.unusedSimpArgs false

set_option maxRecDepth 100000 in
set_option maxHeartbeats 6400000 in
theorem rmsg_any {B : Nat} (W w : World) (c : Nat) (a : Option Addr) (cap : Nat) (l : List Int) (k : Nat) (hk : k < 4) (h : DAt W w c a l.length cap l 0 0) (hV : CV B W) :
    Calls Tryz.prog 135 #[.agg #[.pointer (some ⟨c, 0, none⟩)], .int .i64 k] w fun x w' => ∃ m at3, x = .returned (.agg m.cs) ∧ Hid (MOwn w.heap.size w' m) ∧ Hid (m.p = dcM k l) ∧ Hid (DAt W w' c a l.length cap l at3 (ctE k l)) ∧ Hid (Oth c c w w') := by
  have hz := zmv
  have hz2 := zvl
  have HV := hid hV
  have hB := hid hV.le
  have HK4 := hid hk
  have hk4' : (k : Int) < 4 := by omega
  have hcl : c < w.heap.size := h.cur.lt
  have hW : W.heap.size ≤ w.heap.size := h.below.size
  have hL := hid (cpa_len k hk)
  have hFOK := hid (cpa_fok k hk)
  obtain ⟨pa, pn, pc, c1, hP0⟩ := hV.c.parts k hk
  have hpn : pn ≤ 6 := by rw [← hP0.len]; exact hL.out.1
  have hPL := hid hP0.len
  have C1 := hid c1
  have HP := hid hP0
  have C2 := hid (hV.c.root k hk)
  have hs1 : (w.alloc (.cells #[.pointer (some ⟨c, 0, none⟩)] 213)).heap.size = w.heap.size + 1 := World.size_alloc ..
  have hs2 : ((w.alloc (.cells #[.pointer (some ⟨c, 0, none⟩)] 213)).alloc (.cells Mv.zero.cs 38)).heap.size = w.heap.size + 2 := by rw [World.size_alloc, hs1]
  have R1 := hid (((Row.new w 213 #[.pointer (some ⟨c, 0, none⟩)]).alloc (.cells Mv.zero.cs 38)).alloc (.cells (nArr zer11) 103))
  have Z1 := hid ((Row.new (w.alloc (.cells #[.pointer (some ⟨c, 0, none⟩)] 213)) 38 Mv.zero.cs).alloc (.cells (nArr zer11) 103))
  have V1 := hid (Row.new ((w.alloc (.cells #[.pointer (some ⟨c, 0, none⟩)] 213)).alloc (.cells Mv.zero.cs 38)) 103 (nArr zer11))
  rw [hs1] at Z1
  rw [hs2] at V1
  have B1 := hid (balloc (balloc (balloc (Below.refl w.heap.size w) (.cells #[.pointer (some ⟨c, 0, none⟩)] 213)) (.cells Mv.zero.cs 38)) (.cells (nArr zer11) 103))
  have D1 := hid (h.on B1.out)
  have T1 : Hid (Oth c c w _) := hid (Oth.below B1.out)
  clear hV hk hP0 c1 h
  go_enter Tryz.func135, Tryz.ntmps135
  go_upto_region 2 with fail
  generalize ((w.alloc (.cells #[.pointer (some ⟨c, 0, none⟩)] 213)).alloc (.cells Mv.zero.cs 38)).alloc (.cells (nArr zer11) 103) = w1 at *
  generalize hg0 : w.heap.size = g0 at *
  have hg0 := hid hg0
  clear hs1 hs2 B1
  have P1 : Hid (PAt W w1 c a l.length cap l 0 0 (g0 + 2) zer11) := ⟨D1.out, V1.out, rfl, by omega, by omega⟩
  have c1 : w1.cell? ⟨0, k * 4 + 1, none⟩ = _ := (cells_below D1.out.below hB.out _ _ HV.out.c.pos).trans C1.out
  clear D1 V1
  go_wp2_with fail
  go_loopw [14] (fun i wr => ∃ j : Nat, j ≤ pn ∧ i = .int .i64 j ∧ Hid (PAt W wr c a l.length cap l (rdP l ((cpa k).take j)).1 (rdP l ((cpa k).take j)).2.1 (g0 + 2) (rdP l ((cpa k).take j)).2.2) ∧ Hid (Row wr g0 213 #[.pointer (some ⟨c, 0, none⟩)]) ∧ Hid (Row wr (g0 + 1) 38 Mv.zero.cs) ∧ Hid (Oth c c w wr)) (fun i _ => pn - (intOf i).toNat)
  case atStart => exact ⟨0, Nat.zero_le _, rfl, P1.out, R1.out, Z1.out, T1.out⟩
  case round =>
    obtain ⟨j, hj, rfl, HPt, HR, HZ, HT⟩ := hrel
    clear c1
    by_cases hlt : j < pn
    · have hlt' : (j : Int) < (pn : Int) := by omega
      obtain ⟨b, off, ha, hbB, hcz, fa, fn, fc, hcf, hF0⟩ := (HP.out.same (cells_below HPt.out.d.below hB.out)).cell j hlt
      have hjl : j < (cpa k).length := by rw [hPL.out]; exact hlt
      have HS2 := hid (rdP_succ l (cpa k) j hjl)
      have hLj := hid (hL.out.2 j hjl)
      have hFj := hid (hFOK.out _ (getDm (cpa k) Pa.none j hjl))
      generalize (cpa k).getD j Pa.none = p at *
      generalize rdP l ((cpa k).take j) = s at *
      have HF := hid (hF0.same (w' := W) (fun b o h => ((cells_below HPt.out.d.below hB.out) b o h).symm))
      obtain ⟨at1, e1, v1⟩ := s
      simp only at HPt HS2
      subst ha
      have BA := hid (balloc (Below.refl wr.heap.size wr) (.cells #[.int .i64 p.z, .slice fa fn fc] 200))
      have RP := hid (Row.new wr 200 #[.int .i64 p.z, .slice fa fn fc])
      have P5 := hid (HPt.out.on BA.out)
      have R5 := hid (HR.out.below BA.out)
      have Z5 := hid (HZ.out.below BA.out)
      have T5 := hid (HT.out.trans (Oth.below BA.out))
      have h3l : g0 + 2 < wr.heap.size := HPt.out.r3.lt
      clear hjl hF0
      go_upto_region 5 with fail
      generalize wr.alloc (.cells #[.int .i64 p.z, .slice fa fn fc] 200) = w5 at *
      generalize wr.heap.size = g5 at *
      clear hcz hcf BA HPt HR HZ HT
      have r0 := (R5.out.cell 0).trans rfl
      have q0 := (RP.out.cell 0).trans rfl
      have q1 := (RP.out.cell 1).trans rfl
      go_wp2_with fail
      refine (part_any W _ c a l.length cap l at1 e1 (g0 + 2) v1 p fa fn fc P5.out HF.out hB.out hFj.out.1 hFj.out.2 hLj.out.2 hLj.out.1).mono ?_
      rintro e w6 ⟨rfl, HP6, T6'⟩
      have T6 := hid (T5.out.news (by omega) T6'.out)
      have R6 := hid (T6'.out.row R5.out (by omega) (by omega))
      have Z6 := hid (T6'.out.row Z5.out (by omega) (by omega))
      clear r0 q0 q1 T6' P5 R5 Z5 T5 RP
      go_wp2_with fail
      go_roundw
      case rel => exact ⟨j + 1, by omega, by go_num, by rw [HS2.out]; exact HP6.out, R6.out, Z6.out, T6.out⟩
      case measure => simp [intOf]; omega
    · obtain rfl : j = pn := by omega
      rw [List.take_of_length_le (by rw [hPL.out]; exact Nat.le_refl _)] at HPt
      generalize hss : rdP l (cpa k) = s at *
      have HS := hid hss
      clear hss
      obtain ⟨at1, e1, v1⟩ := s
      simp only at HPt
      have HV11 := hid HPt.out.len11
      go_wp2_with (refine ld74 _ rfl rfl _ _ rfl v1 HV11.out HPt.out.r3.part ?_)
      refine (vmsg_any v1 HV11.out k _).mono ?_
      rintro e w2 ⟨rfl, hb2⟩
      have P2 := hid (HPt.out.on hb2)
      have R2 := hid (HR.out.below hb2)
      have Z2 := hid (HZ.out.below hb2)
      have T2 := hid (HT.out.trans (Oth.below hb2))
      clear hb2 HPt HR HZ HT
      have M3 := hid (layM_new w2 38 (vm v1 k))
      have B3 := hid (layM_below w2 38 (vm v1 k))
      have P3 := hid (P2.out.on B3.out)
      have R3 := hid (R2.out.below B3.out)
      have Z3 := hid (Z2.out.below B3.out)
      have T3 := hid (T2.out.trans (Oth.below B3.out))
      have h3l : g0 + 2 < w2.heap.size := P2.out.r3.lt
      go_upto_region 8 with (refine stM m29 _ _ rfl rfl w2.heap.size (vm v1 k) adr_zeros rfl rfl 38 Mv.zero adr_zeros (Row.new w2 38 _) ?_)
      generalize (w2.alloc (.cells Mv.zero.cs 38)).setRow w2.heap.size (vm v1 k).cs = w3 at *
      generalize w2.heap.size = g7 at *
      clear P2 R2 Z2 T2 B3 hz hz2
      have c2 : w3.cell? ⟨0, k * 4 + 2, none⟩ = _ := (cells_below P3.out.d.below hB.out _ _ HV.out.c.pos).trans C2.out
      have c10 := P3.out.cell 10 (by decide)
      have r0 := (R3.out.cell 0).trans rfl
      have HRB : Hid (rdB k (at1, e1, v1) = (crt k || v1.getD 10 0 == 1)) := rfl
      cases hcr : crt k
      · rw [hcr] at c2 HRB
        generalize v1.getD 10 0 = x10 at c10 HRB
        by_cases h10 : x10 = 1
        · rw [h10] at c10 HRB
          have HRB : Hid (rdB k (at1, e1, v1) = true) := HRB.out.trans rfl
          clear h10 hcr
          go_upto_region 9 with fail
          have HRT : Hid (rdT k l = (adA l at1 e1, adE l at1 e1, adR l at1 e1)) := by rw [Hid, rdT, HS.out, if_pos (by rw [HRB.out])]
          go_wp2_with fail
          refine (address_any W _ c a cap l at1 e1 P3.out.d).mono ?_
          rintro e w4 ⟨rfl, HA4, D4, T4'⟩
          have T4 := hid (T3.out.trans T4'.out)
          have R4 := hid (T4'.out.row R3.out (by omega) (by omega))
          have Z4 := hid (T4'.out.row Z3.out (by omega) (by omega))
          have M4 := hid (T4'.out.row M3.out (by omega) (by omega))
          clear T4' r0 c2 c10 R3 Z3 M3 T3 P3
          generalize adR l at1 e1 = ro2 at *
          generalize adE l at1 e1 = e2 at *
          generalize adA l at1 e1 = at2 at *
          have M5 := hid (Row.setCells (arr ro2).toList 11 _ _ M4.out)
          rw [putA_ro (vm v1 k) ro2 rfl HA4.out.1] at M5
          have G5 := hid (grownBy_setCells g7 (arr ro2).toList 11 w4)
          have D5 := hid (D4.out.other M4.out (by decide) (by omega) (by omega) G5.out)
          have T5 := hid (T4.out.new G5.out (by omega))
          have R5 := hid (R4.out.kept G5.out (fun e => by have := Option.some.inj e; omega))
          have Z5 := hid (Z4.out.kept G5.out (fun e => by have := Option.some.inj e; omega))
          go_upto_region 10 with ((with_reducible refine wpl_id ?_); refine stRo _ _ rfl rfl g7 (vm v1 k) ro2 adr_zeros HA4.out.1 rfl rfl 38 M4.out ?_)
          generalize w4.setCells g7 11 (arr ro2).toList = w5 at *
          clear G5 D4 T4 R4 Z4 M4
          have HMV : Hid (({ vm v1 k with ro := ro2 } : Mv) = { vm v1 k with ro := ro2 }) := rfl
          have r0 := (R5.out.cell 0).trans rfl
          have hs5 : w.heap.size ≤ w5.heap.size := T5.out.1
          go_wp2_with fail
          refine (options_any W _ c a l.length cap l at2 e2 k D5.out HV.out).mono ?_
          rintro e w6 ⟨v6, rfl, HO6, D6, T6'⟩
          obtain ⟨L, own6, own62, hp6, h166⟩ := HO6.out
          obtain ⟨oa, oc, rfl⟩ := owns_len own6
          have O6 := hid (own_mono own6 hs5)
          have X6 := hid (fun o ho => (own62 o ho).mono hs5)
          have HP6 := hid hp6
          have T6 := hid (T5.out.trans T6'.out)
          have R6 := hid (T6'.out.row R5.out (by omega) (by omega))
          have Z6 := hid (T6'.out.row Z5.out (by omega) (by omega))
          have M6 := hid (T6'.out.row M5.out (by omega) (by omega))
          clear own6 own62 hp6 HO6 T6' r0 R5 Z5 M5 T5 D5
          have c27 := (M6.out.cell 27).trans (Mv.at27 HA4.out)
          have f27 := M6.out.frozen 27
          have M7 := hid (M6.out.set 27 (.slice oa L.length oc))
          rw [put27 _ HA4.out.1 oa L.length oc L] at M7
          have D7 := hid (D6.out.other M6.out (by decide) (by omega) (by omega) (grownBy_setCell w6 g7 27 (.slice oa L.length oc)))
          have T7 := hid (T6.out.new (grownBy_setCell w6 g7 27 (.slice oa L.length oc)) (by omega))
          have Z7 := hid (Z6.out.kept (grownBy_setCell w6 g7 27 (.slice oa L.length oc)) (fun e => by have := Option.some.inj e; omega))
          have O7 := hid (O6.out.kept (grownBy_setCell w6 g7 27 (.slice oa L.length oc)) (.inr (own_row O6.out M6.out (by decide))))
          have X7 := hid (fun o ho => (X6.out o ho).row M6.out (by decide) (by decide) (grownBy_setCell w6 g7 27 (.slice oa L.length oc)))
          go_upto_region 11 with fail
          generalize w6.setCell ⟨g7, 27, none⟩ (.slice oa L.length oc) = w7 at *
          clear c27 f27 M6 D6 T6 R6 Z6 O6 X6
          have hmp : ({ vm v1 k with ro := ro2, oa := oa, on := L.length, oc := oc, L := L } : Mv).p = dcM k l := by
            rw [dcM, dcP, HS.out, HRT.out]
            show _ = ({ (vm v1 k).p with ro := ro2, o := opP l at2 e2 } : Pm)
            rw [← HP6.out]
            rfl
          have hme : ctE k l = opE k l at2 e2 := by rw [ctE, HRT.out]
          have HMP := hid hmp
          have HME := hid hme
          have HA7 : Hid (Adr ({ vm v1 k with ro := ro2, oa := oa, on := L.length, oc := oc, L := L } : Mv).ro) := HA4.out
          have HL7 : Hid (({ vm v1 k with ro := ro2, oa := oa, on := L.length, oc := oc, L := L } : Mv).L.length = ({ vm v1 k with ro := ro2, oa := oa, on := L.length, oc := oc, L := L } : Mv).on) := rfl
          have HO7 : Hid (({ vm v1 k with ro := ro2, oa := oa, on := L.length, oc := oc, L := L } : Mv).on ≤ 16) := h166
          have O7 : Hid (w7.ownsRow w.heap.size 140 19 (.slice ({ vm v1 k with ro := ro2, oa := oa, on := L.length, oc := oc, L := L } : Mv).oa ({ vm v1 k with ro := ro2, oa := oa, on := L.length, oc := oc, L := L } : Mv).on ({ vm v1 k with ro := ro2, oa := oa, on := L.length, oc := oc, L := L } : Mv).oc) ({ vm v1 k with ro := ro2, oa := oa, on := L.length, oc := oc, L := L } : Mv).on (ocs ({ vm v1 k with ro := ro2, oa := oa, on := L.length, oc := oc, L := L } : Mv).L)) := O7.out
          have X7 : Hid (∀ o ∈ ({ vm v1 k with ro := ro2, oa := oa, on := L.length, oc := oc, L := L } : Mv).L, Own2 w.heap.size w7 o) := X7.out
          clear hmp hme HRT HP6 h166 HA4
          generalize ({ vm v1 k with ro := ro2, oa := oa, on := L.length, oc := oc, L := L } : Mv) = m at *
          have G8 := hid (grownBy_setRow w7 (g0 + 1) m.cs)
          have D8 := hid (D7.out.other Z7.out (by decide) (by omega) (by omega) G8.out)
          have T8 := hid (T7.out.new G8.out (by omega))
          have O8 := hid (O7.out.kept G8.out (.inr (own_row O7.out Z7.out (by decide))))
          have X8 := hid (fun o ho => (X7.out o ho).row Z7.out (by decide) (by decide) G8.out)
          go_wp2_with (first | ((with_reducible refine wpl_id ?_); refine ldM m29 _ rfl rfl _ _ rfl m HA7.out M7.out.part ?_) | ((with_reducible refine wpl_id ?_); refine stM m29 _ _ rfl rfl (g0 + 1) m HA7.out rfl rfl 38 Mv.zero adr_zeros Z7.out ?_))
          exact bodyPost_ret (resM m29 rfl _ _ (g0 + 1) 38 m HA7.out rfl (Z7.out.setRow _)) rfl ⟨m, _, rfl, hid ⟨HA7.out, O8.out, X8.out, HL7.out, HO7.out⟩, HMP, by rw [HME.out]; exact D8, T8⟩
        · have e10 : (x10 == 1) = false := beq_eq_false_iff_ne.2 h10
          rw [e10] at HRB
          have HRB : Hid (rdB k (at1, e1, v1) = false) := HRB.out.trans rfl
          clear h10 hcr
          have HRT : Hid (rdT k l = (at1, e1, zeros)) := by rw [Hid, rdT, HS.out, if_neg (by rw [HRB.out]; decide)]
          have HA4 : Hid (Adr zeros) := adr_zeros
          have M5 : Hid (Row w3 g7 38 ({ vm v1 k with ro := zeros } : Mv).cs) := M3.out
          have D5 := hid P3.out.d
          have T5 := T3
          have R5 := R3
          have Z5 := Z3
          clear r0 P3
          go_upto_region 10 with fail
          clear M3 T3 R3 Z3 c2 c10
          generalize w3 = w5 at *
          have r0 := (R5.out.cell 0).trans rfl
          have hs5 : w.heap.size ≤ w5.heap.size := T5.out.1
          go_wp2_with fail
          refine (options_any W _ c a l.length cap l at1 e1 k D5.out HV.out).mono ?_
          rintro e w6 ⟨v6, rfl, HO6, D6, T6'⟩
          obtain ⟨L, own6, own62, hp6, h166⟩ := HO6.out
          obtain ⟨oa, oc, rfl⟩ := owns_len own6
          have O6 := hid (own_mono own6 hs5)
          have X6 := hid (fun o ho => (own62 o ho).mono hs5)
          have HP6 := hid hp6
          have T6 := hid (T5.out.trans T6'.out)
          have R6 := hid (T6'.out.row R5.out (by omega) (by omega))
          have Z6 := hid (T6'.out.row Z5.out (by omega) (by omega))
          have M6 := hid (T6'.out.row M5.out (by omega) (by omega))
          clear own6 own62 hp6 HO6 T6' r0 R5 Z5 M5 T5 D5
          have c27 := (M6.out.cell 27).trans (Mv.at27 HA4.out)
          have f27 := M6.out.frozen 27
          have M7 := hid (M6.out.set 27 (.slice oa L.length oc))
          rw [put27 _ HA4.out.1 oa L.length oc L] at M7
          have D7 := hid (D6.out.other M6.out (by decide) (by omega) (by omega) (grownBy_setCell w6 g7 27 (.slice oa L.length oc)))
          have T7 := hid (T6.out.new (grownBy_setCell w6 g7 27 (.slice oa L.length oc)) (by omega))
          have Z7 := hid (Z6.out.kept (grownBy_setCell w6 g7 27 (.slice oa L.length oc)) (fun e => by have := Option.some.inj e; omega))
          have O7 := hid (O6.out.kept (grownBy_setCell w6 g7 27 (.slice oa L.length oc)) (.inr (own_row O6.out M6.out (by decide))))
          have X7 := hid (fun o ho => (X6.out o ho).row M6.out (by decide) (by decide) (grownBy_setCell w6 g7 27 (.slice oa L.length oc)))
          go_upto_region 11 with fail
          generalize w6.setCell ⟨g7, 27, none⟩ (.slice oa L.length oc) = w7 at *
          clear c27 f27 M6 D6 T6 R6 Z6 O6 X6
          have hmp : ({ vm v1 k with ro := zeros, oa := oa, on := L.length, oc := oc, L := L } : Mv).p = dcM k l := by
            rw [dcM, dcP, HS.out, HRT.out]
            show _ = ({ (vm v1 k).p with ro := zeros, o := opP l at1 e1 } : Pm)
            rw [← HP6.out]
            rfl
          have hme : ctE k l = opE k l at1 e1 := by rw [ctE, HRT.out]
          have HMP := hid hmp
          have HME := hid hme
          have HA7 : Hid (Adr ({ vm v1 k with ro := zeros, oa := oa, on := L.length, oc := oc, L := L } : Mv).ro) := HA4.out
          have HL7 : Hid (({ vm v1 k with ro := zeros, oa := oa, on := L.length, oc := oc, L := L } : Mv).L.length = ({ vm v1 k with ro := zeros, oa := oa, on := L.length, oc := oc, L := L } : Mv).on) := rfl
          have HO7 : Hid (({ vm v1 k with ro := zeros, oa := oa, on := L.length, oc := oc, L := L } : Mv).on ≤ 16) := h166
          have O7 : Hid (w7.ownsRow w.heap.size 140 19 (.slice ({ vm v1 k with ro := zeros, oa := oa, on := L.length, oc := oc, L := L } : Mv).oa ({ vm v1 k with ro := zeros, oa := oa, on := L.length, oc := oc, L := L } : Mv).on ({ vm v1 k with ro := zeros, oa := oa, on := L.length, oc := oc, L := L } : Mv).oc) ({ vm v1 k with ro := zeros, oa := oa, on := L.length, oc := oc, L := L } : Mv).on (ocs ({ vm v1 k with ro := zeros, oa := oa, on := L.length, oc := oc, L := L } : Mv).L)) := O7.out
          have X7 : Hid (∀ o ∈ ({ vm v1 k with ro := zeros, oa := oa, on := L.length, oc := oc, L := L } : Mv).L, Own2 w.heap.size w7 o) := X7.out
          clear hmp hme HRT HP6 h166 HA4
          generalize ({ vm v1 k with ro := zeros, oa := oa, on := L.length, oc := oc, L := L } : Mv) = m at *
          have G8 := hid (grownBy_setRow w7 (g0 + 1) m.cs)
          have D8 := hid (D7.out.other Z7.out (by decide) (by omega) (by omega) G8.out)
          have T8 := hid (T7.out.new G8.out (by omega))
          have O8 := hid (O7.out.kept G8.out (.inr (own_row O7.out Z7.out (by decide))))
          have X8 := hid (fun o ho => (X7.out o ho).row Z7.out (by decide) (by decide) G8.out)
          go_wp2_with (first | ((with_reducible refine wpl_id ?_); refine ldM m29 _ rfl rfl _ _ rfl m HA7.out M7.out.part ?_) | ((with_reducible refine wpl_id ?_); refine stM m29 _ _ rfl rfl (g0 + 1) m HA7.out rfl rfl 38 Mv.zero adr_zeros Z7.out ?_))
          exact bodyPost_ret (resM m29 rfl _ _ (g0 + 1) 38 m HA7.out rfl (Z7.out.setRow _)) rfl ⟨m, _, rfl, hid ⟨HA7.out, O8.out, X8.out, HL7.out, HO7.out⟩, HMP, by rw [HME.out]; exact D8, T8⟩
      · rw [hcr] at c2 HRB
        have HRB : Hid (rdB k (at1, e1, v1) = true) := HRB.out.trans (by simp)
        clear hcr
        go_upto_region 9 with fail
        have HRT : Hid (rdT k l = (adA l at1 e1, adE l at1 e1, adR l at1 e1)) := by rw [Hid, rdT, HS.out, if_pos (by rw [HRB.out])]
        go_wp2_with fail
        refine (address_any W _ c a cap l at1 e1 P3.out.d).mono ?_
        rintro e w4 ⟨rfl, HA4, D4, T4'⟩
        have T4 := hid (T3.out.trans T4'.out)
        have R4 := hid (T4'.out.row R3.out (by omega) (by omega))
        have Z4 := hid (T4'.out.row Z3.out (by omega) (by omega))
        have M4 := hid (T4'.out.row M3.out (by omega) (by omega))
        clear T4' r0 c2 c10 R3 Z3 M3 T3 P3
        generalize adR l at1 e1 = ro2 at *
        generalize adE l at1 e1 = e2 at *
        generalize adA l at1 e1 = at2 at *
        have M5 := hid (Row.setCells (arr ro2).toList 11 _ _ M4.out)
        rw [putA_ro (vm v1 k) ro2 rfl HA4.out.1] at M5
        have G5 := hid (grownBy_setCells g7 (arr ro2).toList 11 w4)
        have D5 := hid (D4.out.other M4.out (by decide) (by omega) (by omega) G5.out)
        have T5 := hid (T4.out.new G5.out (by omega))
        have R5 := hid (R4.out.kept G5.out (fun e => by have := Option.some.inj e; omega))
        have Z5 := hid (Z4.out.kept G5.out (fun e => by have := Option.some.inj e; omega))
        go_upto_region 10 with ((with_reducible refine wpl_id ?_); refine stRo _ _ rfl rfl g7 (vm v1 k) ro2 adr_zeros HA4.out.1 rfl rfl 38 M4.out ?_)
        generalize w4.setCells g7 11 (arr ro2).toList = w5 at *
        clear G5 D4 T4 R4 Z4 M4
        have HMV : Hid (({ vm v1 k with ro := ro2 } : Mv) = { vm v1 k with ro := ro2 }) := rfl
        have r0 := (R5.out.cell 0).trans rfl
        have hs5 : w.heap.size ≤ w5.heap.size := T5.out.1
        go_wp2_with fail
        refine (options_any W _ c a l.length cap l at2 e2 k D5.out HV.out).mono ?_
        rintro e w6 ⟨v6, rfl, HO6, D6, T6'⟩
        obtain ⟨L, own6, own62, hp6, h166⟩ := HO6.out
        obtain ⟨oa, oc, rfl⟩ := owns_len own6
        have O6 := hid (own_mono own6 hs5)
        have X6 := hid (fun o ho => (own62 o ho).mono hs5)
        have HP6 := hid hp6
        have T6 := hid (T5.out.trans T6'.out)
        have R6 := hid (T6'.out.row R5.out (by omega) (by omega))
        have Z6 := hid (T6'.out.row Z5.out (by omega) (by omega))
        have M6 := hid (T6'.out.row M5.out (by omega) (by omega))
        clear own6 own62 hp6 HO6 T6' r0 R5 Z5 M5 T5 D5
        have c27 := (M6.out.cell 27).trans (Mv.at27 HA4.out)
        have f27 := M6.out.frozen 27
        have M7 := hid (M6.out.set 27 (.slice oa L.length oc))
        rw [put27 _ HA4.out.1 oa L.length oc L] at M7
        have D7 := hid (D6.out.other M6.out (by decide) (by omega) (by omega) (grownBy_setCell w6 g7 27 (.slice oa L.length oc)))
        have T7 := hid (T6.out.new (grownBy_setCell w6 g7 27 (.slice oa L.length oc)) (by omega))
        have Z7 := hid (Z6.out.kept (grownBy_setCell w6 g7 27 (.slice oa L.length oc)) (fun e => by have := Option.some.inj e; omega))
        have O7 := hid (O6.out.kept (grownBy_setCell w6 g7 27 (.slice oa L.length oc)) (.inr (own_row O6.out M6.out (by decide))))
        have X7 := hid (fun o ho => (X6.out o ho).row M6.out (by decide) (by decide) (grownBy_setCell w6 g7 27 (.slice oa L.length oc)))
        go_upto_region 11 with fail
        generalize w6.setCell ⟨g7, 27, none⟩ (.slice oa L.length oc) = w7 at *
        clear c27 f27 M6 D6 T6 R6 Z6 O6 X6
        have hmp : ({ vm v1 k with ro := ro2, oa := oa, on := L.length, oc := oc, L := L } : Mv).p = dcM k l := by
          rw [dcM, dcP, HS.out, HRT.out]
          show _ = ({ (vm v1 k).p with ro := ro2, o := opP l at2 e2 } : Pm)
          rw [← HP6.out]
          rfl
        have hme : ctE k l = opE k l at2 e2 := by rw [ctE, HRT.out]
        have HMP := hid hmp
        have HME := hid hme
        have HA7 : Hid (Adr ({ vm v1 k with ro := ro2, oa := oa, on := L.length, oc := oc, L := L } : Mv).ro) := HA4.out
        have HL7 : Hid (({ vm v1 k with ro := ro2, oa := oa, on := L.length, oc := oc, L := L } : Mv).L.length = ({ vm v1 k with ro := ro2, oa := oa, on := L.length, oc := oc, L := L } : Mv).on) := rfl
        have HO7 : Hid (({ vm v1 k with ro := ro2, oa := oa, on := L.length, oc := oc, L := L } : Mv).on ≤ 16) := h166
        have O7 : Hid (w7.ownsRow w.heap.size 140 19 (.slice ({ vm v1 k with ro := ro2, oa := oa, on := L.length, oc := oc, L := L } : Mv).oa ({ vm v1 k with ro := ro2, oa := oa, on := L.length, oc := oc, L := L } : Mv).on ({ vm v1 k with ro := ro2, oa := oa, on := L.length, oc := oc, L := L } : Mv).oc) ({ vm v1 k with ro := ro2, oa := oa, on := L.length, oc := oc, L := L } : Mv).on (ocs ({ vm v1 k with ro := ro2, oa := oa, on := L.length, oc := oc, L := L } : Mv).L)) := O7.out
        have X7 : Hid (∀ o ∈ ({ vm v1 k with ro := ro2, oa := oa, on := L.length, oc := oc, L := L } : Mv).L, Own2 w.heap.size w7 o) := X7.out
        clear hmp hme HRT HP6 h166 HA4
        generalize ({ vm v1 k with ro := ro2, oa := oa, on := L.length, oc := oc, L := L } : Mv) = m at *
        have G8 := hid (grownBy_setRow w7 (g0 + 1) m.cs)
        have D8 := hid (D7.out.other Z7.out (by decide) (by omega) (by omega) G8.out)
        have T8 := hid (T7.out.new G8.out (by omega))
        have O8 := hid (O7.out.kept G8.out (.inr (own_row O7.out Z7.out (by decide))))
        have X8 := hid (fun o ho => (X7.out o ho).row Z7.out (by decide) (by decide) G8.out)
        go_wp2_with (first | ((with_reducible refine wpl_id ?_); refine ldM m29 _ rfl rfl _ _ rfl m HA7.out M7.out.part ?_) | ((with_reducible refine wpl_id ?_); refine stM m29 _ _ rfl rfl (g0 + 1) m HA7.out rfl rfl 38 Mv.zero adr_zeros Z7.out ?_))
        exact bodyPost_ret (resM m29 rfl _ _ (g0 + 1) 38 m HA7.out rfl (Z7.out.setRow _)) rfl ⟨m, _, rfl, hid ⟨HA7.out, O8.out, X8.out, HL7.out, HO7.out⟩, HMP, by rw [HME.out]; exact D8, T8⟩
end Go.Proofs.YtbklpelikaapoaaGreatDoor

namespace Go.Proofs.YtbklpelikaapoaaGreatDoor
open Go.ChangeShapes Go.WideShapes Go.ChangeAt Go.RowKit Go.Deep
set_option linter.unusedVariables false
set_option linter.unusedSimpArgs false

/-- What Decode tells, and its message. -/
def dE (code : Int) (l : List Int) : Int := if codB code = true then ctE code.toNat l else 6
def dM (code : Int) (l : List Int) : Pm := if codB code = true then (if ctE code.toNat l = 0 then dcM code.toNat l else Pm.zero) else Pm.zero
theorem zero_own (base : Nat) (w : World) : MOwn base w Mv.zero := ⟨adr_zeros, World.ownsRow_nil _ _ _ _, fun o ho => (by cases ho), rfl, by decide⟩
set_option maxRecDepth 100000 in
set_option maxHeartbeats 3200000 in
theorem cDecode_any {B : Nat} (code : Int) (a : Option Addr) (len cap : Nat) (l : List Int) (w : World) (h : Lies .u8 w a len cap l) (ho : Oct l) (hl : len ≤ 100000) (hV : CV B w) :
    Calls Tryz.prog 108 #[.int .i64 code, .slice a len cap] w fun x w' => ∃ m, x = .returned (.tuple #[.agg m.cs, .int .i64 (dE code l)]) ∧ Hid (MOwn w.heap.size w' m) ∧ Hid (m.p = dM code l) ∧ Hid (Below w.heap.size w w') := by
  have hz := zmv
  obtain rfl := h.1
  have HO := hid ho
  have HV := hid hV
  have Z1 := hid (Row.new w 38 Mv.zero.cs)
  have B1 := hid (balloc (Below.refl w.heap.size w) (.cells Mv.zero.cs 38))
  have H1 := hid (h.below B1.out)
  have HEE : Hid (dE code l = if codB code = true then ctE code.toNat l else 6) := rfl
  have HMM : Hid (dM code l = if codB code = true then (if ctE code.toNat l = 0 then dcM code.toNat l else Pm.zero) else Pm.zero) := rfl
  cases hcb : codB code
  · have HC := hid hcb
    rw [hcb] at HEE HMM
    have HE : Hid (dE code l = 6) := HEE.out.trans rfl
    have HM : Hid (dM code l = Pm.zero) := HMM.out.trans rfl
    clear hcb HEE HMM h ho hV
    go_enter Tryz.func108, Tryz.ntmps108
    go_upto_region 1 with fail
    generalize w.alloc (.cells Mv.zero.cs 38) = w1 at *
    generalize hg0 : w.heap.size = g0 at *
    have HG0 := hid hg0
    clear hz hg0
    go_wp2_with fail
    refine (isCode_any code _).mono ?_
    rw [HC.out]
    rintro e w2 ⟨rfl, rfl⟩
    go_wp2_with (first | ((with_reducible refine wpl_id ?_); refine bdMz m29 rfl rfl ?_) | ((with_reducible refine wpl_id ?_); refine stM m29 _ _ rfl rfl g0 Mv.zero adr_zeros rfl rfl 38 Mv.zero adr_zeros Z1.out ?_))
    exact bodyPost_ret (resMe m29 rfl _ _ g0 38 Mv.zero adr_zeros (.int .i64 6) rfl rfl (Z1.out.setRow _)) rfl ⟨Mv.zero, by rw [HE.out], zero_own _ _, by rw [HM.out]; rfl, by rw [HG0.out]; exact below_setRow' B1.out (Nat.le_refl _) _⟩
  · have HC := hid hcb
    obtain ⟨k, e, hk4⟩ := cod_nat hcb
    rw [hcb, show code.toNat = k by omega] at HEE HMM
    have HE : Hid (dE code l = ctE k l) := HEE.out.trans rfl
    have HM : Hid (dM code l = if ctE k l = 0 then dcM k l else Pm.zero) := HMM.out.trans rfl
    have HK := hid e
    clear hcb HEE HMM h ho hV e
    go_enter Tryz.func108, Tryz.ntmps108
    go_upto_region 1 with fail
    generalize w.alloc (.cells Mv.zero.cs 38) = w1 at *
    generalize hg0 : w.heap.size = g0 at *
    have HG0 := hid hg0
    clear hg0
    go_wp2_with fail
    refine (isCode_any code _).mono ?_
    rw [HC.out]
    rintro e w2 ⟨rfl, rfl⟩
    go_wp2_with fail
    refine (over_own a l.length cap l w2 H1.out HO.out hl).mono ?_
    rintro e w3 ⟨c, a2, cap2, rfl, hc3, hb3, hc1, hc2, how3⟩
    have h12 : g0 < w2.heap.size := Z1.out.lt
    have D3 : Hid (DAt w w3 c a2 l.length cap2 l 0 0) := ⟨hc3, own_mono how3 (by rw [HG0.out]; omega), bthen (by rw [HG0.out]; exact B1.out) hb3, by rw [HG0.out]; omega⟩
    have Z3 := hid (Z1.out.below hb3)
    have h13 : w2.heap.size ≤ w3.heap.size := hb3.size
    clear hc3 hb3 how3 Z1 B1 H1
    have R4 := hid (Row.new w3 213 #[.pointer (some ⟨c, 0, none⟩)])
    have B4 := hid (balloc (Below.refl w3.heap.size w3) (.cells #[.pointer (some ⟨c, 0, none⟩)] 213))
    have D4 := hid (D3.out.on B4.out)
    have Z4 := hid (Z3.out.below B4.out)
    go_upto_region 4 with fail
    generalize w3.alloc (.cells #[.pointer (some ⟨c, 0, none⟩)] 213) = w4 at *
    generalize w3.heap.size = g4 at *
    clear B4 D3 Z3
    have r0 := (R4.out.cell 0).trans rfl
    have kk := HK.out
    have h14 : g4 < w4.heap.size := R4.out.lt
    go_wp2_with fail
    rw [HK.out]
    refine (rmsg_any w w4 c a2 cap2 l k hk4 D4.out HV.out).mono ?_
    rintro e w5 ⟨m, at3, rfl, HO5, HMP, D5, T5⟩
    have R5 := hid (T5.out.row R4.out (by omega) (by omega))
    have Z5 := hid (T5.out.row Z4.out (by omega) (by omega))
    have HO5 : Hid (MOwn g0 w5 m) := ⟨HO5.out.ro, own_mono HO5.out.own (by omega), fun o ho => (HO5.out.own2 o ho).mono (by omega), HO5.out.len, HO5.out.le⟩
    have HA := hid HO5.out.ro
    clear T5 R4 Z4 D4 r0 kk
    have M6 := hid (layM_new w5 38 m)
    have B6 := hid (layM_below w5 38 m)
    have R6 := hid (R5.out.below B6.out)
    have Z6 := hid (Z5.out.below B6.out)
    have D6 := hid (D5.out.on B6.out)
    have O6 := hid (own_below HO5.out.own B6.out)
    have X6 := hid (fun o ho => (HO5.out.own2 o ho).below B6.out)
    have h15 : g4 < w5.heap.size := R5.out.lt
    go_upto_region 5 with ((with_reducible refine wpl_id ?_); refine stM m29 _ _ rfl rfl w5.heap.size m HA.out rfl rfl 38 Mv.zero adr_zeros (Row.new w5 38 _) ?_)
    generalize (w5.alloc (.cells Mv.zero.cs 38)).setRow w5.heap.size m.cs = w6 at *
    generalize w5.heap.size = g5 at *
    clear B6 R5 Z5 D5 hz
    have r0 := (R6.out.cell 0).trans rfl
    go_wp2_with fail
    refine (err_any _ _ (ctE k l) D6.out.cur.cell2).mono ?_
    rintro e w7 ⟨rfl, rfl⟩
    by_cases he : ctE k l = 0
    · rw [he] at HE ⊢
      have HM : Hid (dM code l = dcM k l) := by rw [Hid, HM.out, if_pos he]
      clear he r0
      have G8 := hid (grownBy_setRow w7 g0 m.cs)
      have O8 := hid (O6.out.kept G8.out (.inr (own_row O6.out Z6.out (by decide))))
      have X8 := hid (fun o ho => (X6.out o ho).row Z6.out (by decide) (by decide) G8.out)
      have B8 := hid (bgrown D6.out.below G8.out (by rw [HG0.out]; exact Nat.le_refl _))
      go_wp2_with (first | ((with_reducible refine wpl_id ?_); refine ldM m29 _ rfl rfl _ _ rfl m HA.out M6.out.part ?_) | ((with_reducible refine wpl_id ?_); refine stM m29 _ _ rfl rfl g0 m HA.out rfl rfl 38 Mv.zero adr_zeros Z6.out ?_))
      exact bodyPost_ret (resMe m29 rfl _ _ g0 38 m HA.out (.int .i64 0) rfl rfl (Z6.out.setRow _)) rfl ⟨m, by rw [HE.out], by rw [HG0.out]; exact hid ⟨HA.out, O8.out, X8.out, HO5.out.len, HO5.out.le⟩, by rw [HM.out]; exact HMP, B8⟩
    · have HM2 : Hid (dM code l = Pm.zero) := by rw [Hid, HM.out, if_neg he]
      clear HM
      have he' : (ctE k l != 0) = true := by rw [bne_iff_ne]; exact he
      generalize ctE k l = er at *
      clear he r0
      have G8 := hid (grownBy_setRow w7 g0 Mv.zero.cs)
      have B8 := hid (bgrown D6.out.below G8.out (by rw [HG0.out]; exact Nat.le_refl _))
      go_wp2_with (first | ((with_reducible refine wpl_id ?_); refine bdMz m29 rfl rfl ?_) | ((with_reducible refine wpl_id ?_); refine stM m29 _ _ rfl rfl g0 Mv.zero adr_zeros rfl rfl 38 Mv.zero adr_zeros Z6.out ?_))
      exact bodyPost_ret (resMe m29 rfl _ _ g0 38 Mv.zero adr_zeros (.int .i64 er) rfl rfl (Z6.out.setRow _)) rfl ⟨Mv.zero, by rw [HE.out], zero_own _ _, by rw [HM2.out]; rfl, B8⟩
end Go.Proofs.YtbklpelikaapoaaGreatDoor
