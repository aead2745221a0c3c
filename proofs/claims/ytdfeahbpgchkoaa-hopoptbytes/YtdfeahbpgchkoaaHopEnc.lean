/- hopopt's Encode. -/
import Derived.Test.YtdfeahbpgchkoaaHopFlg
namespace Go.Proofs.Ytdfeahbpgchkoaa
open Go.ChangeShapes Go.WideShapes Go.ChangeAt Go.RowKit
set_option linter.unusedVariables false
set_option linter.unusedSimpArgs false

theorem bitsV_eq (h : Ho) : bitsV h = (if h.d = true then 128 else 0) + ((if h.w = true then 64 else 0) + (if h.f = true then 32 else 0)) := by
  unfold bitsV
  cases h.d <;> cases h.w <;> cases h.f <;> decide
theorem bitsV_bd (h : Ho) : 0 ≤ bitsV h ∧ bitsV h ≤ 255 := by
  rw [bitsV_eq]
  split <;> split <;> split <;> omega
/-- The bytes of an option, behind the number of the next header. -/
def optL (next : Int) (h : Ho) : List Int := bytesOf 1 [next, 0, 99, 4, bitsV h, h.i] ++ bytesOf 2 [h.r]
def encB (next : Int) (h : Ho) : Bool := byB next && okO h
def encOE (next : Int) (h : Ho) : Int := if encB next h = true then 0 else 1
def encOL (next : Int) (h : Ho) : List Int := if encB next h = true then optL next h else []
theorem optL_len (next : Int) (h : Ho) : (optL next h).length = 8 := by
  rw [optL, List.length_append, bytesOf_length 1 _ rfl, bytesOf_length 2 _ rfl]; rfl
theorem fits6 {a b c : Int} (ha : 0 ≤ a ∧ a ≤ 255) (hb : 0 ≤ b ∧ b ≤ 255) (hc : 0 ≤ c ∧ c ≤ 255) : fitsB 1 [a, 0, 99, 4, b, c] = true := by
  simp [fitsB, okB, top, sizeB]; omega
theorem byB_yes {n : Int} (h : byB n = true) : 0 ≤ n ∧ n ≤ 255 := by simpa [byB] using h
set_option maxHeartbeats 3200000 in
theorem hopEncode_any (next : Int) (h : Ho) (w : World) :
    Calls Try.prog 6 #[.int .i64 next, .agg h.cs] w fun e w' => ∃ v, e = .returned (.tuple #[v, .int .i64 (encOE next h)]) ∧ w'.ownsRow w.heap.size 5 1 v (encOL next h).length (u8s (encOL next h)) ∧ Below w.heap.size w w' := by
  have HR0 := hid (Row.new w 28 h.cs)
  have B0 := hid (balloc (Below.refl w.heap.size w) (.cells h.cs 28))
  have HE : Hid (encOE next h = if (byB next && okO h) = true then 0 else 1) := rfl
  have HL : Hid (encOL next h = if (byB next && okO h) = true then optL next h else []) := rfl
  have HC : Hid (chkO h = if okO h = true then 0 else 1) := rfl
  have HY := hid (fun k : okO h = true => okO_yes k)
  have HN := hid (fun k : byB next = true => byB_yes k)
  have HO : Hid (optL next h = bytesOf 1 [next, 0, 99, 4, bitsV h, h.i] ++ bytesOf 2 [h.r]) := rfl
  have nO := hid (optL_len next h)
  have hbt := bitsV_bd h
  generalize encOE next h = E at *
  generalize encOL next h = L at *
  generalize optL next h = O at *
  go_enter Try.func6, Try.ntmps6
  go_upto_region 1 with fail
  generalize w.alloc (.cells h.cs 28) = w1 at *
  have L1 := hid (lies_new .i64 w1 #[.int .i64 next] 3 [next] rfl (by simp))
  have R1 := hid (HR0.out.alloc (.cells #[.int .i64 next] 3))
  have B1 := hid (balloc B0.out (.cells #[.int .i64 next] 3))
  clear HR0 B0
  go_wp2_with fail
  generalize w1.alloc (.cells #[.int .i64 next] 3) = w2 at *
  refine (fits_any 1 _ 1 1 [next] _ L1.out).mono ?_
  rintro e w2 ⟨rfl, rfl⟩
  rw [fits_by]
  clear L1
  generalize byB next = nb at *
  cases nb
  · have hE : Hid (E = 1) := by rw [Hid, HE.out]; rfl
    have hL : Hid (L = []) := by rw [Hid, HL.out]; rfl
    go_wp2_with fail
    go_ret2
    exact ⟨_, by rw [hE.out]; rfl, by rw [hL.out]; exact World.ownsRow_nil _ _ _ _, B1.out⟩
  · go_wp2_with (refine ldO oh _ rfl rfl w.heap.size rfl h 28 R1.out ?_)
    refine (hopCheck_any h _).mono ?_
    rintro e w3 ⟨rfl, hb3⟩
    have R3 := hid (R1.out.below hb3)
    have B3 := hid (bthen B1.out hb3)
    clear hb3 R1 B1
    rw [HC.out]
    generalize okO h = ob at *
    cases ob
    · have hE : Hid (E = 1) := by rw [Hid, HE.out]; rfl
      have hL : Hid (L = []) := by rw [Hid, HL.out]; rfl
      go_wp2_with fail
      go_ret2
      exact ⟨_, by rw [hE.out]; rfl, by rw [hL.out]; exact World.ownsRow_nil _ _ _ _, B3.out⟩
    · have hE : Hid (E = 0) := by rw [Hid, HE.out]; rfl
      have hL : Hid (L = O) := by rw [Hid, HL.out]; rfl
      obtain ⟨hi, hr⟩ := HY.out (by simp)
      have hn := HN.out (by simp)
      have F6 := hid (fits6 hn hbt hi)
      have F2 : Hid (fitsB 2 [h.r] = true) := by rw [Hid, fits_rk, rkB]; simp; omega
      have c3 := (R3.out.cell 3).trans h.at3
      clear hi hr hn hbt HY HN HC HE HL
      go_upto_region 6 with fail
      refine wp_region_held_drew (S := fun w' => Row w' w.heap.size 28 h.cs ∧ w'.cell? ⟨w.heap.size, 3, none⟩ = some (.int .i64 h.i)) (by kernel_rfl) ?_ (fun hHeld => ?_)
      · exact ⟨R3.out, c3⟩
      refine wpAnyH_take (i := 0) (oi := _) (v := ?va0) rfl (by kernel_rfl) (by kernel_rfl) (by kernel_rfl) (fun _ _ _ h => h) (Or.inl ⟨by rfl, ?hya0⟩) (by assumption) ?resta0
      case hya0 => (intro w hSw; (try dsimp only at hSw); go_split_ands; go_simp; try (with_reducible rfl))
      try simp only [List.getElem_toArray, List.getElem_cons_zero, List.getElem_cons_succ, Act.put, List.setIfInBounds_toArray, List.set_cons_zero, List.set_cons_succ]
      refine wpAnyH_take (i := 1) (oi := _) (v := .agg h.cs) rfl (by kernel_rfl) (by kernel_rfl) (by kernel_rfl) (fun _ _ _ h => h) (yldO oh (by rfl) _ rfl w.heap.size rfl h _ (fun w h => h.1)) (by assumption) ?_
      try simp only [List.getElem_toArray, List.getElem_cons_zero, List.getElem_cons_succ, Act.put, List.setIfInBounds_toArray, List.set_cons_zero, List.set_cons_succ]
      refine wpAnyH_take (i := 3) (oi := _) (v := ?va3) rfl (by kernel_rfl) (by kernel_rfl) (by kernel_rfl) (fun _ _ _ h => h) (Or.inl ⟨by rfl, ?hya3⟩) (by assumption) ?resta3
      case hya3 => (intro w hSw; (try dsimp only at hSw); go_split_ands; go_simp; try (with_reducible rfl))
      try simp only [List.getElem_toArray, List.getElem_cons_zero, List.getElem_cons_succ, Act.put, List.setIfInBounds_toArray, List.set_cons_zero, List.set_cons_succ]
      refine wpAnyH_take (i := 4) (oi := _) (v := ?va4) rfl (by kernel_rfl) (by kernel_rfl) (by kernel_rfl) (fun _ _ _ h => h) (Or.inl ⟨by rfl, ?hya4⟩) (by assumption) ?resta4
      case hya4 => (intro w hSw; (try dsimp only at hSw); go_split_ands; go_simp; try (with_reducible rfl))
      try simp only [List.getElem_toArray, List.getElem_cons_zero, List.getElem_cons_succ, Act.put, List.setIfInBounds_toArray, List.set_cons_zero, List.set_cons_succ]
      refine wpAnyH_ready (rs := [2]) (by kernel_rfl) (by simp) ?_
      refine AllReadyH.cons (o := _) rfl (fun K hK => ?_) AllReadyH.nil
      go_simp
      refine (bitsOf_any h _).mono ?_
      rintro e w4 ⟨rfl, hb4⟩
      have bb : Below w3.heap.size w3 w4 := bthen (bdrew (Below.refl _ _) 1) hb4
      have R4 := hid (R3.out.below bb)
      have B4 := hid (bthen B3.out bb)
      have c4 := (R4.out.cell 3).trans h.at3
      clear hb4 bb R3 B3 c3
      go_wp2_with fail
      refine hK.out _ _ ⟨R4.out, c4⟩ (fun hHeld => ?_)
      clear hK K
      try simp only [List.getElem_toArray, List.getElem_cons_zero, List.getElem_cons_succ, Act.put, List.setIfInBounds_toArray, List.set_cons_zero, List.set_cons_succ]
      have I5 := hid (lies_new .i64 w4 #[.int .i64 next, .int .i64 0, .int .i64 99, .int .i64 4, .int .i64 (bitsV h), .int .i64 h.i] 3 [next, 0, 99, 4, bitsV h, h.i] rfl (by simp))
      have R5 := hid (R4.out.alloc (.cells #[.int .i64 next, .int .i64 0, .int .i64 99, .int .i64 4, .int .i64 (bitsV h), .int .i64 h.i] 3))
      have B5 := hid (balloc B4.out (.cells #[.int .i64 next, .int .i64 0, .int .i64 99, .int .i64 4, .int .i64 (bitsV h), .int .i64 h.i] 3))
      have c5 := (R5.out.cell 3).trans h.at3
      clear R4 B4 c4
      refine wpAnyH_ready (rs := [5]) (by kernel_rfl) (by simp) ?_
      refine AllReadyH.cons (o := _) rfl (fun K hK => ?_) AllReadyH.nil
      go_simp
      generalize w4.alloc (.cells #[.int .i64 next, .int .i64 0, .int .i64 99, .int .i64 4, .int .i64 (bitsV h), .int .i64 h.i] 3) = w5 at *
      refine hK.out _ _ ⟨R5.out, c5⟩ (fun hHeld => ?_)
      clear hK K
      try simp only [List.getElem_toArray, List.getElem_cons_zero, List.getElem_cons_succ, Act.put, List.setIfInBounds_toArray, List.set_cons_zero, List.set_cons_succ]
      refine wpAnyH_ready (rs := [6]) (by kernel_rfl) (by simp) ?_
      refine AllReadyH.cons (o := _) rfl (fun K hK => ?_) AllReadyH.nil
      go_simp
      refine (put_ok _ _ _ _ 6 6 1 [] [next, 0, 99, 4, bitsV h, h.i] _ (Lies.nil _ _) I5.out F6.out (by decide)).mono ?_
      rintro e w6 ⟨v6, rfl, hown, hb6⟩
      have n6 : ([] ++ bytesOf 1 [next, 0, 99, 4, bitsV h, h.i]).length = 6 := by rw [List.nil_append, bytesOf_length 1 _ rfl]; rfl
      rw [List.nil_append] at hown n6
      have HO' := HO
      obtain ⟨A, hA⟩ : ∃ A, A = bytesOf 1 [next, 0, 99, 4, bitsV h, h.i] := ⟨_, rfl⟩
      rw [← hA] at hown n6 HO
      obtain ⟨a6, cap6, rfl, hl6, _⟩ := owns_lies hown
      rw [n6] at hl6 ⊢
      have R6 := hid (R5.out.below hb6)
      have B6 := hid (bthen B5.out hb6)
      have L6 := hid hl6
      have c6 := (R6.out.cell 3).trans h.at3
      clear hown hb6 hl6 hA I5 R5 B5 c5 HO'
      go_wp2_with fail
      refine hK.out _ _ ⟨R6.out, c6⟩ (fun hHeld => ?_)
      clear hK K
      try simp only [List.getElem_toArray, List.getElem_cons_zero, List.getElem_cons_succ, Act.put, List.setIfInBounds_toArray, List.set_cons_zero, List.set_cons_succ]
      refine wpAnyH_take (i := 7) (oi := _) (v := ?vb7) rfl (by kernel_rfl) (by kernel_rfl) (by kernel_rfl) (fun _ _ _ h => h) (Or.inl ⟨by rfl, ?hyb7⟩) (by assumption) ?restb7
      case hyb7 => (intro w hSw; (try dsimp only at hSw); go_split_ands; go_simp; try (with_reducible rfl))
      try simp only [List.getElem_toArray, List.getElem_cons_zero, List.getElem_cons_succ, Act.put, List.setIfInBounds_toArray, List.set_cons_zero, List.set_cons_succ]
      refine wpAnyH_take (i := 8) (oi := _) (v := ?vb8) rfl (by kernel_rfl) (by kernel_rfl) (by kernel_rfl) (fun _ _ _ h => h) (Or.inl ⟨by rfl, ?hyb8⟩) (by assumption) ?restb8
      case hyb8 => (intro w hSw; (try dsimp only at hSw); go_split_ands; go_simp; try (with_reducible rfl))
      try simp only [List.getElem_toArray, List.getElem_cons_zero, List.getElem_cons_succ, Act.put, List.setIfInBounds_toArray, List.set_cons_zero, List.set_cons_succ]
      refine wpAnyH_take (i := 10) (oi := _) (v := ?vb10) rfl (by kernel_rfl) (by kernel_rfl) (by kernel_rfl) (fun _ _ _ h => h) (Or.inl ⟨by rfl, ?hyb10⟩) (by assumption) ?restb10
      case hyb10 => (intro w hSw; (try dsimp only at hSw); go_split_ands; go_simp; try (with_reducible rfl))
      try simp only [List.getElem_toArray, List.getElem_cons_zero, List.getElem_cons_succ, Act.put, List.setIfInBounds_toArray, List.set_cons_zero, List.set_cons_succ]
      refine wpAnyH_take (i := 9) (oi := _) (v := ?vb9) rfl (by kernel_rfl) (by kernel_rfl) (by kernel_rfl) (fun _ _ _ h => h) (Or.inl ⟨by rfl, ?hyb9⟩) (by assumption) ?restb9
      case hyb9 => (intro w hSw; (try dsimp only at hSw); go_split_ands; go_simp; try (with_reducible rfl))
      try simp only [List.getElem_toArray, List.getElem_cons_zero, List.getElem_cons_succ, Act.put, List.setIfInBounds_toArray, List.set_cons_zero, List.set_cons_succ]
      refine wpAnyH_take (i := 11) (oi := _) (v := ?vb11) rfl (by kernel_rfl) (by kernel_rfl) (by kernel_rfl) (fun _ _ _ h => h) (Or.inl ⟨by rfl, ?hyb11⟩) (by assumption) ?restb11
      case hyb11 => (intro w hSw; (try dsimp only at hSw); go_split_ands; go_simp; try (with_reducible rfl))
      try simp only [List.getElem_toArray, List.getElem_cons_zero, List.getElem_cons_succ, Act.put, List.setIfInBounds_toArray, List.set_cons_zero, List.set_cons_succ]
      refine wpAnyH_done (by kernel_rfl) ?_ _
      clear hHeld c6
      have c4 := (R6.out.cell 4).trans h.at4
      have I7 := hid (lies_new .i64 w6 #[.int .i64 h.r] 3 [h.r] rfl (by simp))
      have B7 := hid (balloc B6.out (.cells #[.int .i64 h.r] 3))
      have L7 := hid (L6.out.below (balloc (Below.refl _ _) (.cells #[.int .i64 h.r] 3)))
      clear R6 B6 L6
      go_wp2_with fail
      generalize w6.alloc (.cells #[.int .i64 h.r] 3) = w7 at *
      refine (put_ok _ _ _ _ 1 1 2 A [h.r] _ L7.out I7.out F2.out (by decide)).mono ?_
      rintro e w8 ⟨v8, rfl, hown, hb8⟩
      rw [← HO.out] at hown
      have O8 := hid (own_mono hown B7.out.size)
      have B8 := hid (bthen B7.out hb8)
      clear hown hb8 L7 I7 B7 c4
      go_wp2_with fail
      go_ret2
      exact ⟨v8, by rw [hE.out]; rfl, by rw [hL.out]; exact O8.out, B8.out⟩
end Go.Proofs.Ytdfeahbpgchkoaa
