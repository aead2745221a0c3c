/- Addresses as arrays in memory, and what pseudoHeader answers. -/
import Derived.Test.YtinfkjnneibklaaCat
import Derived.Deep.WholeRow
import Derived.Deep.RegionWith
import Derived.Deep.RegionHeld3
import Derived.Deep.Onto
namespace Go.Proofs.Ytinfkjnneibklaa
open Go.ChangeShapes Go.WideShapes Go.ChangeAt Go.RowKit
set_option linter.unusedVariables false
set_option linter.unusedSimpArgs false

/-- Bytes as the cells of an array. -/
def arr (l : List Int) : Array Value := (u8s l).toArray
theorem arr_size (l : List Int) : (arr l).size = l.length := by simp [arr, u8s]
theorem arr_at (l : List Int) (j : Nat) (h : j < l.length) : (arr l)[j]? = some (.int .u8 (l.getD j 0)) := by simp [arr, u8s, h]
/-- An address. -/
def Adr (l : List Int) : Prop := l.length = 16 ∧ Oct l

/-- An array's cells in a block. -/
def Row (w : World) (b : Nat) (t : TypeId) (l : List Int) : Prop := w.heap[b]? = some (.cells (arr l) t (0, 0))
theorem Row.cell {w : World} {b : Nat} {t : TypeId} {l : List Int} (h : Row w b t l) (j : Nat) : w.cell? ⟨b, j, none⟩ = (arr l)[j]? := cell_of_row w b j _ t (0, 0) h
theorem Row.lt {w : World} {b : Nat} {t : TypeId} {l : List Int} (h : Row w b t l) : b < w.heap.size := (Array.getElem?_eq_some_iff.1 h).1
theorem Row.new (w : World) (t : TypeId) (l : List Int) : Row (w.alloc (.cells (arr l) t)) w.heap.size t l := heap_alloc_new w _
theorem Row.below {w w' : World} {b : Nat} {t : TypeId} {l : List Int} (h : Row w b t l) (hb : Below w.heap.size w w') : Row w' b t l := (hb.block b h.lt).trans h
theorem Row.ok {w : World} {b : Nat} {t : TypeId} {l : List Int} (h : Row w b t l) (hl : Adr l) : Txt.ok w ⟨some ⟨b, 0, none⟩, 16, 16, l⟩ := by
  have h1 : Lies .u8 w (some ⟨b, 0, none⟩) 16 16 l := by
    refine ⟨hl.1, Nat.le_refl _, by decide, (fun h => by cases h), fun k hk => ⟨b, 0, rfl, ?_⟩⟩
    rw [Nat.zero_add, h.cell, arr_at l k (by rw [hl.1]; exact hk)]
  exact ⟨h1, hl.2⟩

theorem size50 : (Try.prog.info? 50).map (·.size) = some 16 := by kernel_rfl
theorem size34 : (Try.prog.info? 34).map (·.size) = some 16 := by kernel_rfl

section
variable {ops : Array Oper} {rest : List Oper} {o : Oper} {a : Act} {w : World} {Q : Exit → Act → World → Prop}
/-- A load of a whole array, guarded or not. -/
theorem wp_ld {P : Program} (ty : TypeId) (x : Operand) (ho : o.op = .load ty x)
    (hw : Region.wanted o (yielded ops a.tmps) = true) (g : Nat) (hx : a.eval x = .pointer (some ⟨g, 0, none⟩)) (t : TypeId) (l : List Int) (d : TypeDesc)
    (hu : P.underlying ty = some d) (hd : (match d with | .struct _ | .array _ _ => true | _ => false) = true) (hi : (P.info? ty).map (·.size) = some (arr l).size) (hg : Row w g t l)
    (h : wpList P ops Q rest (a.put o.dst (.agg (arr l))) w) : wpList P ops Q (o :: rest) a w :=
  wpList_step fun K hK => by
    rw [if_pos hw]
    unfold Oper.wp execOp
    simp only [ho, hx, Instr.loadAt, Instr.sureAddr, Sem.run_bind, Sem.run_pure, Result.andThen_ok, run_loadVar_row w g t ty (arr l) (0, 0) d hg hu hd hi]
    exact hK _ _ h
theorem ld50 (x : Operand) (ho : o.op = .load 50 x) (hw : Region.wanted o (yielded ops a.tmps) = true) (g : Nat) (hx : a.eval x = .pointer (some ⟨g, 0, none⟩)) (t : TypeId) (l : List Int) (hl : Adr l) (hg : Row w g t l)
    (h : wpList Try.prog ops Q rest (a.put o.dst (.agg (arr l))) w) : wpList Try.prog ops Q (o :: rest) a w :=
  wp_ld 50 x ho hw g hx t l _ Try.underlying50 rfl (by rw [arr_size, hl.1]; exact size50) hg h
theorem ld34 (x : Operand) (ho : o.op = .load 34 x) (hw : Region.wanted o (yielded ops a.tmps) = true) (g : Nat) (hx : a.eval x = .pointer (some ⟨g, 0, none⟩)) (t : TypeId) (l : List Int) (hl : Adr l) (hg : Row w g t l)
    (h : wpList Try.prog ops Q rest (a.put o.dst (.agg (arr l))) w) : wpList Try.prog ops Q (o :: rest) a w :=
  wp_ld 34 x ho hw g hx t l _ Try.underlying34 rfl (by rw [arr_size, hl.1]; exact size34) hg h
end

/-- The pseudo-header. -/
def hdr (f t : List Int) (next len : Int) : List Int := f ++ t ++ bytesOf 4 [len, next]
theorem hdr_len (f t : List Int) (next len : Int) (hf : Adr f) (ht : Adr t) : (hdr f t next len).length = 40 := by
  rw [hdr, List.length_append, List.length_append, hf.1, ht.1, bytesOf_length 4 _ (by decide)]; rfl
theorem hdr_oct (f t : List Int) (next len : Int) (hf : Adr f) (ht : Adr t) : Oct (hdr f t next len) := (hf.2.app ht.2).app (bytesOf_oct _ _)

theorem fits_two (next len : Int) (hn : 0 ≤ next ∧ next ≤ 255) (hl : 0 ≤ len ∧ len ≤ 2000) : fitsB 4 [len, next] = true := by
  have h1 : okB 4 len = true := by simp [okB, top]; omega
  have h2 : okB 4 next = true := by simp [okB, top]; omega
  simp [fitsB, h1, h2, show sizeB 4 = true by decide]

def two (g : Nat) (f t : List Int) : List Txt := [⟨some ⟨g, 0, none⟩, 16, 16, f⟩, ⟨some ⟨g + 1, 0, none⟩, 16, 16, t⟩]

set_option maxHeartbeats 800000 in
theorem pseudoHeader_any (f t : List Int) (next : Int) (len : Nat) (w : World) (hf : Adr f) (ht : Adr t) (hn : 0 ≤ next ∧ next ≤ 255) (hl : len ≤ 2000) :
    Calls Try.prog 20 #[.agg (arr f), .agg (arr t), .int .i64 next, .int .i64 len] w fun e w' => ∃ v, e = .returned v ∧ w'.ownsRow w.heap.size 5 1 v (hdr f t next len).length (u8s (hdr f t next len)) ∧ Below w.heap.size w w' := by
  have F0 := hid (Row.new w 50 f)
  have b0 : Below w.heap.size w (w.alloc (.cells (arr f) 50)) := balloc (Below.refl _ _) _
  have hz0 : (w.alloc (.cells (arr f) 50)).heap.size = w.heap.size + 1 := by simp
  have T1 := hid (Row.new (w.alloc (.cells (arr f) 50)) 50 t)
  have b1 : Below (w.alloc (.cells (arr f) 50)).heap.size (w.alloc (.cells (arr f) 50)) ((w.alloc (.cells (arr f) 50)).alloc (.cells (arr t) 50)) := balloc (Below.refl _ _) _
  have F1 := hid (F0.out.below b1)
  have B1 := hid (bthen b0 b1)
  rw [hz0] at T1
  have HZ1 : Hid (((w.alloc (.cells (arr f) 50)).alloc (.cells (arr t) 50)).heap.size = w.heap.size + 1 + 1) := by simp [Hid]
  have X1 := hid (F1.out.ok hf)
  have Y1 := hid (T1.out.ok ht)
  have HF := hid hf
  have HT := hid ht
  clear b0 b1 F0 hz0 F1 T1 hf ht
  go_enter Try.func20, Try.ntmps20
  go_wp2_with fail
  generalize (w.alloc (.cells (arr f) 50)).alloc (.cells (arr t) 50) = w1 at *
  obtain ⟨X, hX⟩ : ∃ X, X = Obj.cells #[.slice (some ⟨w.heap.size, 0, none⟩) 16 16, .slice (some ⟨w.heap.size + 1, 0, none⟩) 16 16] 27 := ⟨_, rfl⟩
  obtain ⟨I, hI⟩ : ∃ I, I = Obj.cells #[.int .i64 (len : Int), .int .i64 next] 3 := ⟨_, rfl⟩
  have mk : ∀ w2 : World, Below w1.heap.size w1 w2 → Texts (w2.alloc X) (some ⟨w2.heap.size, 0, none⟩) 2 2 (two w.heap.size f t) := fun w2 hb => by
    rw [hX]; exact texts_two w2 _ _ (X1.out.below hb) (Y1.out.below hb)
  have XA0 := mk w1 (Below.refl _ _)
  have XA : Hid (Texts (w1.alloc X).drew (some ⟨w1.heap.size, 0, none⟩) 2 2 (two w.heap.size f t)) := XA0
  have BA := hid (bdrew (balloc B1.out X) 1)
  have bI : Below w1.heap.size w1 (w1.alloc I) := balloc (Below.refl _ _) _
  have XB : Hid (Texts ((w1.alloc I).alloc X).drew (some ⟨w1.heap.size + 1, 0, none⟩) 2 2 (two w.heap.size f t)) := by have := mk (w1.alloc I) bI; rw [show (w1.alloc I).heap.size = w1.heap.size + 1 by simp] at this; exact this
  have XC : Hid (Texts ((w1.alloc X).alloc I).drew (some ⟨w1.heap.size, 0, none⟩) 2 2 (two w.heap.size f t)) := XA0.below (bdrew (balloc (Below.refl _ _) I) 1)
  have IB : Hid (Lies .i64 ((w1.alloc I).alloc X).drew (some ⟨w1.heap.size, 0, none⟩) 2 2 [(len : Int), next]) := by
    have : Lies .i64 (w1.alloc I) (some ⟨w1.heap.size, 0, none⟩) 2 2 [(len : Int), next] := by rw [hI]; exact lies_new .i64 w1 _ 3 [(len : Int), next] rfl (by simp)
    exact this.below (bdrew (balloc (Below.refl _ _) X) 1)
  have IC : Hid (Lies .i64 ((w1.alloc X).alloc I).drew (some ⟨w1.heap.size + 1, 0, none⟩) 2 2 [(len : Int), next]) := by
    have : Lies .i64 ((w1.alloc X).alloc I) (some ⟨(w1.alloc X).heap.size, 0, none⟩) 2 2 [(len : Int), next] := by rw [hI]; exact lies_new .i64 (w1.alloc X) _ 3 [(len : Int), next] rfl (by simp)
    rw [show (w1.alloc X).heap.size = w1.heap.size + 1 by simp] at this
    exact this
  have BB := hid (bdrew (balloc (balloc B1.out I) X) 1)
  have BC := hid (bdrew (balloc (balloc B1.out X) I) 1)
  have HbL : Hid (bytes (two w.heap.size f t) = f ++ t) := by simp [Hid, bytes, two]
  have HbN : Hid ((f ++ t).length = 32) := by rw [Hid, List.length_append, HF.out.1, HT.out.1]
  have HFit := hid (fits_two next len hn ⟨by omega, by omega⟩)
  have NI : Hid (∀ w2 : World, Lies .i64 (w2.alloc I) (some ⟨w2.heap.size, 0, none⟩) 2 2 [(len : Int), next]) := fun w2 => by rw [hI]; exact lies_new .i64 w2 _ 3 [(len : Int), next] rfl (by simp)
  rw [hX] at XA XB XC BA BB BC IB IC
  rw [hI] at XB XC BB BC IB IC NI
  clear bI mk hX hI X1 Y1 XA0
  refine wp_region_held_drew (S := fun _ => True) (by kernel_rfl) ?_ (fun hHeld => ?_)
  · trivial
  refine wpAnyH_take (i := 0) (oi := _) (v := ?vz0) rfl (by kernel_rfl) (by kernel_rfl) (by kernel_rfl) (fun _ _ _ h => h) (Or.inl ⟨by rfl, ?hyz0⟩) (by assumption) ?restz0
  case hyz0 => (intro w hSw; (try dsimp only at hSw); go_split_ands; go_simp; try (with_reducible rfl))
  try simp only [List.getElem_toArray, List.getElem_cons_zero, List.getElem_cons_succ, Act.put, List.setIfInBounds_toArray, List.set_cons_zero, List.set_cons_succ]
  refine wpAnyH_take (i := 1) (oi := _) (v := ?vz1) rfl (by kernel_rfl) (by kernel_rfl) (by kernel_rfl) (fun _ _ _ h => h) (Or.inl ⟨by rfl, ?hyz1⟩) (by assumption) ?restz1
  case hyz1 => (intro w hSw; (try dsimp only at hSw); go_split_ands; go_simp; try (with_reducible rfl))
  try simp only [List.getElem_toArray, List.getElem_cons_zero, List.getElem_cons_succ, Act.put, List.setIfInBounds_toArray, List.set_cons_zero, List.set_cons_succ]
  refine wpAnyH_take (i := 4) (oi := _) (v := ?vz4) rfl (by kernel_rfl) (by kernel_rfl) (by kernel_rfl) (fun _ _ _ h => h) (Or.inl ⟨by rfl, ?hyz4⟩) (by assumption) ?restz4
  case hyz4 => (intro w hSw; (try dsimp only at hSw); go_split_ands; go_simp; try (with_reducible rfl))
  try simp only [List.getElem_toArray, List.getElem_cons_zero, List.getElem_cons_succ, Act.put, List.setIfInBounds_toArray, List.set_cons_zero, List.set_cons_succ]
  refine wpAnyH_take (i := 5) (oi := _) (v := ?vz5) rfl (by kernel_rfl) (by kernel_rfl) (by kernel_rfl) (fun _ _ _ h => h) (Or.inl ⟨by rfl, ?hyz5⟩) (by assumption) ?restz5
  case hyz5 => (intro w hSw; (try dsimp only at hSw); go_split_ands; go_simp; try (with_reducible rfl))
  try simp only [List.getElem_toArray, List.getElem_cons_zero, List.getElem_cons_succ, Act.put, List.setIfInBounds_toArray, List.set_cons_zero, List.set_cons_succ]
  refine wpAnyH_ready (rs := [2, 6]) (by kernel_rfl) (by simp) ?_
  refine AllReadyH.cons (o := _) rfl (fun K hK => ?_) (AllReadyH.cons (o := _) rfl (fun K hK => ?_) AllReadyH.nil)
  · go_simp
    refine hK.out _ _ trivial (fun hHeld => ?_)
    clear hK K
    try simp only [List.getElem_toArray, List.getElem_cons_zero, List.getElem_cons_succ, Act.put, List.setIfInBounds_toArray, List.set_cons_zero, List.set_cons_succ]
    refine wpAnyH_ready (rs := [3, 6]) (by kernel_rfl) (by simp) ?_
    refine AllReadyH.cons (o := _) rfl (fun K hK => ?_) (AllReadyH.cons (o := _) rfl (fun K hK => ?_) AllReadyH.nil)
    · go_simp
      refine (concat_any _ _ _ _ _ XA.out (by rw [HbL.out, HbN.out]; omega) (by rw [HbL.out, HbN.out]; omega)).mono ?_
      rintro e w2 ⟨v2, rfl, ho2, hb2⟩
      rw [HbL.out] at ho2
      obtain ⟨a2, cap2, rfl, hl2, _⟩ := owns_lies ho2
      rw [HbN.out] at hl2 ⊢
      have L2 := hid hl2
      have B2 := hid (bthen BA.out hb2)
      clear ho2 hb2 hl2
      go_wp2_with fail
      refine hK.out _ _ trivial (fun hHeld => ?_)
      clear hK K
      try simp only [List.getElem_toArray, List.getElem_cons_zero, List.getElem_cons_succ, Act.put, List.setIfInBounds_toArray, List.set_cons_zero, List.set_cons_succ]
      refine wpAnyH_ready (rs := [6]) (by kernel_rfl) (by simp) ?_
      refine AllReadyH.cons (o := _) rfl (fun K hK => ?_) AllReadyH.nil
      go_simp
      refine hK.out _ _ trivial (fun hHeld => ?_)
      clear hK K
      try simp only [List.getElem_toArray, List.getElem_cons_zero, List.getElem_cons_succ, Act.put, List.setIfInBounds_toArray, List.set_cons_zero, List.set_cons_succ]
      refine wpAnyH_ready (rs := [7]) (by kernel_rfl) (by simp) ?_
      refine AllReadyH.cons (o := _) rfl (fun K hK => ?_) AllReadyH.nil
      go_simp
      refine (put_ok _ _ _ _ _ _ 4 (f ++ t) [(len : Int), next] _ (L2.out.below (balloc (Below.refl _ _) _)) (NI.out w2) HFit.out (by decide)).mono ?_
      rintro e w3 ⟨v3, rfl, ho3, hb3⟩
      have O3 := hid (World.ownsRow.mono ho3 (balloc B2.out _).size)
      have B3 := hid (bthen (balloc B2.out _) hb3)
      clear ho3 hb3
      go_wp2_with fail
      refine hK.out _ _ trivial (fun hHeld => ?_)
      clear hK K
      try simp only [List.getElem_toArray, List.getElem_cons_zero, List.getElem_cons_succ, Act.put, List.setIfInBounds_toArray, List.set_cons_zero, List.set_cons_succ]
      refine wpAnyH_take (i := 8) (oi := _) (v := ?va8) rfl (by kernel_rfl) (by kernel_rfl) (by kernel_rfl) (fun _ _ _ h => h) (Or.inl ⟨by rfl, ?hya8⟩) (by assumption) ?resta8
      case hya8 => (intro w hSw; (try dsimp only at hSw); go_split_ands; go_simp; try (with_reducible rfl))
      try simp only [List.getElem_toArray, List.getElem_cons_zero, List.getElem_cons_succ, Act.put, List.setIfInBounds_toArray, List.set_cons_zero, List.set_cons_succ]
      refine wpAnyH_take (i := 9) (oi := _) (v := ?va9) rfl (by kernel_rfl) (by kernel_rfl) (by kernel_rfl) (fun _ _ _ h => h) (Or.inl ⟨by rfl, ?hya9⟩) (by assumption) ?resta9
      case hya9 => (intro w hSw; (try dsimp only at hSw); go_split_ands; go_simp; try (with_reducible rfl))
      try simp only [List.getElem_toArray, List.getElem_cons_zero, List.getElem_cons_succ, Act.put, List.setIfInBounds_toArray, List.set_cons_zero, List.set_cons_succ]
      refine wpAnyH_take (i := 10) (oi := _) (v := ?va10) rfl (by kernel_rfl) (by kernel_rfl) (by kernel_rfl) (fun _ _ _ h => h) (Or.inl ⟨by rfl, ?hya10⟩) (by assumption) ?resta10
      case hya10 => (intro w hSw; (try dsimp only at hSw); go_split_ands; go_simp; try (with_reducible rfl))
      try simp only [List.getElem_toArray, List.getElem_cons_zero, List.getElem_cons_succ, Act.put, List.setIfInBounds_toArray, List.set_cons_zero, List.set_cons_succ]
      refine wpAnyH_take (i := 11) (oi := _) (v := ?va11) rfl (by kernel_rfl) (by kernel_rfl) (by kernel_rfl) (fun _ _ _ h => h) (Or.inl ⟨by rfl, ?hya11⟩) (by assumption) ?resta11
      case hya11 => (intro w hSw; (try dsimp only at hSw); go_split_ands; go_simp; try (with_reducible rfl))
      try simp only [List.getElem_toArray, List.getElem_cons_zero, List.getElem_cons_succ, Act.put, List.setIfInBounds_toArray, List.set_cons_zero, List.set_cons_succ]
      refine wpAnyH_take (i := 12) (oi := _) (v := ?va12) rfl (by kernel_rfl) (by kernel_rfl) (by kernel_rfl) (fun _ _ _ h => h) (Or.inl ⟨by rfl, ?hya12⟩) (by assumption) ?resta12
      case hya12 => (intro w hSw; (try dsimp only at hSw); go_split_ands; go_simp; try (with_reducible rfl))
      try simp only [List.getElem_toArray, List.getElem_cons_zero, List.getElem_cons_succ, Act.put, List.setIfInBounds_toArray, List.set_cons_zero, List.set_cons_succ]
      refine wpAnyH_done (by kernel_rfl) ?_ _
      all_goals
        go_wp2_with fail
        go_ret
        exact ⟨_, rfl, O3.out, B3.out⟩
    · go_simp
      refine hK.out _ _ trivial (fun hHeld => ?_)
      clear hK K
      try simp only [List.getElem_toArray, List.getElem_cons_zero, List.getElem_cons_succ, Act.put, List.setIfInBounds_toArray, List.set_cons_zero, List.set_cons_succ]
      refine wpAnyH_ready (rs := [3]) (by kernel_rfl) (by simp) ?_
      refine AllReadyH.cons (o := _) rfl (fun K hK => ?_) AllReadyH.nil
      go_simp
      refine (concat_any _ _ _ _ _ XC.out (by rw [HbL.out, HbN.out]; omega) (by rw [HbL.out, HbN.out]; omega)).mono ?_
      rintro e w2 ⟨v2, rfl, ho2, hb2⟩
      rw [HbL.out] at ho2
      obtain ⟨a2, cap2, rfl, hl2, _⟩ := owns_lies ho2
      rw [HbN.out] at hl2 ⊢
      have L2 := hid hl2
      have B2 := hid (bthen BC.out hb2)
      have I2 := hid (Lies.below IC.out hb2)
      clear ho2 hb2 hl2
      go_wp2_with fail
      refine hK.out _ _ trivial (fun hHeld => ?_)
      clear hK K
      try simp only [List.getElem_toArray, List.getElem_cons_zero, List.getElem_cons_succ, Act.put, List.setIfInBounds_toArray, List.set_cons_zero, List.set_cons_succ]
      refine wpAnyH_ready (rs := [7]) (by kernel_rfl) (by simp) ?_
      refine AllReadyH.cons (o := _) rfl (fun K hK => ?_) AllReadyH.nil
      go_simp
      refine (put_ok _ _ _ _ _ _ 4 (f ++ t) [(len : Int), next] _ L2.out I2.out HFit.out (by decide)).mono ?_
      rintro e w3 ⟨v3, rfl, ho3, hb3⟩
      have O3 := hid (World.ownsRow.mono ho3 B2.out.size)
      have B3 := hid (bthen B2.out hb3)
      clear ho3 hb3
      go_wp2_with fail
      refine hK.out _ _ trivial (fun hHeld => ?_)
      clear hK K
      try simp only [List.getElem_toArray, List.getElem_cons_zero, List.getElem_cons_succ, Act.put, List.setIfInBounds_toArray, List.set_cons_zero, List.set_cons_succ]
      refine wpAnyH_take (i := 8) (oi := _) (v := ?vb8) rfl (by kernel_rfl) (by kernel_rfl) (by kernel_rfl) (fun _ _ _ h => h) (Or.inl ⟨by rfl, ?hyb8⟩) (by assumption) ?restb8
      case hyb8 => (intro w hSw; (try dsimp only at hSw); go_split_ands; go_simp; try (with_reducible rfl))
      try simp only [List.getElem_toArray, List.getElem_cons_zero, List.getElem_cons_succ, Act.put, List.setIfInBounds_toArray, List.set_cons_zero, List.set_cons_succ]
      refine wpAnyH_take (i := 9) (oi := _) (v := ?vb9) rfl (by kernel_rfl) (by kernel_rfl) (by kernel_rfl) (fun _ _ _ h => h) (Or.inl ⟨by rfl, ?hyb9⟩) (by assumption) ?restb9
      case hyb9 => (intro w hSw; (try dsimp only at hSw); go_split_ands; go_simp; try (with_reducible rfl))
      try simp only [List.getElem_toArray, List.getElem_cons_zero, List.getElem_cons_succ, Act.put, List.setIfInBounds_toArray, List.set_cons_zero, List.set_cons_succ]
      refine wpAnyH_take (i := 10) (oi := _) (v := ?vb10) rfl (by kernel_rfl) (by kernel_rfl) (by kernel_rfl) (fun _ _ _ h => h) (Or.inl ⟨by rfl, ?hyb10⟩) (by assumption) ?restb10
      case hyb10 => (intro w hSw; (try dsimp only at hSw); go_split_ands; go_simp; try (with_reducible rfl))
      try simp only [List.getElem_toArray, List.getElem_cons_zero, List.getElem_cons_succ, Act.put, List.setIfInBounds_toArray, List.set_cons_zero, List.set_cons_succ]
      refine wpAnyH_take (i := 11) (oi := _) (v := ?vb11) rfl (by kernel_rfl) (by kernel_rfl) (by kernel_rfl) (fun _ _ _ h => h) (Or.inl ⟨by rfl, ?hyb11⟩) (by assumption) ?restb11
      case hyb11 => (intro w hSw; (try dsimp only at hSw); go_split_ands; go_simp; try (with_reducible rfl))
      try simp only [List.getElem_toArray, List.getElem_cons_zero, List.getElem_cons_succ, Act.put, List.setIfInBounds_toArray, List.set_cons_zero, List.set_cons_succ]
      refine wpAnyH_take (i := 12) (oi := _) (v := ?vb12) rfl (by kernel_rfl) (by kernel_rfl) (by kernel_rfl) (fun _ _ _ h => h) (Or.inl ⟨by rfl, ?hyb12⟩) (by assumption) ?restb12
      case hyb12 => (intro w hSw; (try dsimp only at hSw); go_split_ands; go_simp; try (with_reducible rfl))
      try simp only [List.getElem_toArray, List.getElem_cons_zero, List.getElem_cons_succ, Act.put, List.setIfInBounds_toArray, List.set_cons_zero, List.set_cons_succ]
      refine wpAnyH_done (by kernel_rfl) ?_ _
      all_goals
        go_wp2_with fail
        go_ret
        exact ⟨_, rfl, O3.out, B3.out⟩
  · go_simp
    refine hK.out _ _ trivial (fun hHeld => ?_)
    clear hK K
    try simp only [List.getElem_toArray, List.getElem_cons_zero, List.getElem_cons_succ, Act.put, List.setIfInBounds_toArray, List.set_cons_zero, List.set_cons_succ]
    refine wpAnyH_ready (rs := [2]) (by kernel_rfl) (by simp) ?_
    refine AllReadyH.cons (o := _) rfl (fun K hK => ?_) AllReadyH.nil
    go_simp
    refine hK.out _ _ trivial (fun hHeld => ?_)
    clear hK K
    try simp only [List.getElem_toArray, List.getElem_cons_zero, List.getElem_cons_succ, Act.put, List.setIfInBounds_toArray, List.set_cons_zero, List.set_cons_succ]
    refine wpAnyH_ready (rs := [3]) (by kernel_rfl) (by simp) ?_
    refine AllReadyH.cons (o := _) rfl (fun K hK => ?_) AllReadyH.nil
    go_simp
    refine (concat_any _ _ _ _ _ XB.out (by rw [HbL.out, HbN.out]; omega) (by rw [HbL.out, HbN.out]; omega)).mono ?_
    rintro e w2 ⟨v2, rfl, ho2, hb2⟩
    rw [HbL.out] at ho2
    obtain ⟨a2, cap2, rfl, hl2, _⟩ := owns_lies ho2
    rw [HbN.out] at hl2 ⊢
    have L2 := hid hl2
    have B2 := hid (bthen BB.out hb2)
    have I2 := hid (Lies.below IB.out hb2)
    clear ho2 hb2 hl2
    go_wp2_with fail
    refine hK.out _ _ trivial (fun hHeld => ?_)
    clear hK K
    try simp only [List.getElem_toArray, List.getElem_cons_zero, List.getElem_cons_succ, Act.put, List.setIfInBounds_toArray, List.set_cons_zero, List.set_cons_succ]
    refine wpAnyH_ready (rs := [7]) (by kernel_rfl) (by simp) ?_
    refine AllReadyH.cons (o := _) rfl (fun K hK => ?_) AllReadyH.nil
    go_simp
    refine (put_ok _ _ _ _ _ _ 4 (f ++ t) [(len : Int), next] _ L2.out I2.out HFit.out (by decide)).mono ?_
    rintro e w3 ⟨v3, rfl, ho3, hb3⟩
    have O3 := hid (World.ownsRow.mono ho3 B2.out.size)
    have B3 := hid (bthen B2.out hb3)
    clear ho3 hb3
    go_wp2_with fail
    refine hK.out _ _ trivial (fun hHeld => ?_)
    clear hK K
    try simp only [List.getElem_toArray, List.getElem_cons_zero, List.getElem_cons_succ, Act.put, List.setIfInBounds_toArray, List.set_cons_zero, List.set_cons_succ]
    refine wpAnyH_take (i := 8) (oi := _) (v := ?vc8) rfl (by kernel_rfl) (by kernel_rfl) (by kernel_rfl) (fun _ _ _ h => h) (Or.inl ⟨by rfl, ?hyc8⟩) (by assumption) ?restc8
    case hyc8 => (intro w hSw; (try dsimp only at hSw); go_split_ands; go_simp; try (with_reducible rfl))
    try simp only [List.getElem_toArray, List.getElem_cons_zero, List.getElem_cons_succ, Act.put, List.setIfInBounds_toArray, List.set_cons_zero, List.set_cons_succ]
    refine wpAnyH_take (i := 9) (oi := _) (v := ?vc9) rfl (by kernel_rfl) (by kernel_rfl) (by kernel_rfl) (fun _ _ _ h => h) (Or.inl ⟨by rfl, ?hyc9⟩) (by assumption) ?restc9
    case hyc9 => (intro w hSw; (try dsimp only at hSw); go_split_ands; go_simp; try (with_reducible rfl))
    try simp only [List.getElem_toArray, List.getElem_cons_zero, List.getElem_cons_succ, Act.put, List.setIfInBounds_toArray, List.set_cons_zero, List.set_cons_succ]
    refine wpAnyH_take (i := 10) (oi := _) (v := ?vc10) rfl (by kernel_rfl) (by kernel_rfl) (by kernel_rfl) (fun _ _ _ h => h) (Or.inl ⟨by rfl, ?hyc10⟩) (by assumption) ?restc10
    case hyc10 => (intro w hSw; (try dsimp only at hSw); go_split_ands; go_simp; try (with_reducible rfl))
    try simp only [List.getElem_toArray, List.getElem_cons_zero, List.getElem_cons_succ, Act.put, List.setIfInBounds_toArray, List.set_cons_zero, List.set_cons_succ]
    refine wpAnyH_take (i := 11) (oi := _) (v := ?vc11) rfl (by kernel_rfl) (by kernel_rfl) (by kernel_rfl) (fun _ _ _ h => h) (Or.inl ⟨by rfl, ?hyc11⟩) (by assumption) ?restc11
    case hyc11 => (intro w hSw; (try dsimp only at hSw); go_split_ands; go_simp; try (with_reducible rfl))
    try simp only [List.getElem_toArray, List.getElem_cons_zero, List.getElem_cons_succ, Act.put, List.setIfInBounds_toArray, List.set_cons_zero, List.set_cons_succ]
    refine wpAnyH_take (i := 12) (oi := _) (v := ?vc12) rfl (by kernel_rfl) (by kernel_rfl) (by kernel_rfl) (fun _ _ _ h => h) (Or.inl ⟨by rfl, ?hyc12⟩) (by assumption) ?restc12
    case hyc12 => (intro w hSw; (try dsimp only at hSw); go_split_ands; go_simp; try (with_reducible rfl))
    try simp only [List.getElem_toArray, List.getElem_cons_zero, List.getElem_cons_succ, Act.put, List.setIfInBounds_toArray, List.set_cons_zero, List.set_cons_succ]
    refine wpAnyH_done (by kernel_rfl) ?_ _
    all_goals
      go_wp2_with fail
      go_ret
      exact ⟨_, rfl, O3.out, B3.out⟩
end Go.Proofs.Ytinfkjnneibklaa
