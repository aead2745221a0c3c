/- hopopt's Encode. · What Decode answers. · hopopt's and ref's Decode where something is wrong. · hopopt's Decode. · ref's Decode. · ref's Encode; an option there and back. · Sums of bytes4, as numbers. · What the small functions of package sum answer: contracts. · What Add and Of of package sum answer: contracts. · What the document's own sum answers: a contract. · Rows of the call's own beside each other: bytes4, texts, a sum. · What slices.Grow and slices.Concat answer here: contracts. -/
import Derived.Test.YtbklpelikaapoaaGreatDoorM10
import Derived.Test.YtbklpelikaapoaaGreatDoorM1
import Derived.Deep.Strs
import Derived.Lib.AppendZeros
namespace Go.Proofs.YtbklpelikaapoaaGreatDoor
open Go.ChangeShapes Go.WideShapes Go.ChangeAt Go.RowKit
set_option linter.unusedVariables false
set_option linter.unusedSimpArgs false

theorem bitsV_eq (h : Ho) : bitsV h = (if h.d = true then 128 else 0) + ((if h.w = true then 64 else 0) + (if h.f = true then 32 else 0)) := by
  unfold bitsV
  cases h.d <;> cases h.w <;> cases h.f <;> decide
theorem bitsV_bd (h : Ho) : 0 ≤ bitsV h ∧ bitsV h ≤ 255 := by
  rw [bitsV_eq]
  split <;> split <;> split <;> omega
/-- The bytes of an option, behind the number of the next header. -/
def optL (next : Int) (h : Ho) : List Int := bytesOf 1 [next, 0, 99, 4, bitsV h, h.i] ++ bytesOf 2 [h.r]
def encB (next : Int) (h : Ho) : Bool := byB next && okO h
def encOE (next : Int) (h : Ho) : Int := if encB next h = true then 0 else 1
def encOL (next : Int) (h : Ho) : List Int := if encB next h = true then optL next h else []
theorem optL_len (next : Int) (h : Ho) : (optL next h).length = 8 := by
  rw [optL, List.length_append, bytesOf_length 1 _ rfl, bytesOf_length 2 _ rfl]; rfl
theorem fits6 {a b c : Int} (ha : 0 ≤ a ∧ a ≤ 255) (hb : 0 ≤ b ∧ b ≤ 255) (hc : 0 ≤ c ∧ c ≤ 255) : fitsB 1 [a, 0, 99, 4, b, c] = true := by
  simp [fitsB, okB, top, sizeB]; omega
theorem byB_yes {n : Int} (h : byB n = true) : 0 ≤ n ∧ n ≤ 255 := by simpa [byB] using h
set_option maxHeartbeats 3200000 in
theorem hopEncode_any (next : Int) (h : Ho) (w : World) :
    Calls Tryz.prog 52 #[.int .i64 next, .agg h.cs] w fun e w' => ∃ v, e = .returned (.tuple #[v, .int .i64 (encOE next h)]) ∧ w'.ownsRow w.heap.size 5 1 v (encOL next h).length (u8s (encOL next h)) ∧ Below w.heap.size w w' := by
  have HR0 := hid (Row.new w 39 h.cs)
  have B0 := hid (balloc (Below.refl w.heap.size w) (.cells h.cs 39))
  have HE : Hid (encOE next h = if (byB next && okO h) = true then 0 else 1) := rfl
  have HL : Hid (encOL next h = if (byB next && okO h) = true then optL next h else []) := rfl
  have HC : Hid (chkO h = if okO h = true then 0 else 1) := rfl
  have HY := hid (fun k : okO h = true => okO_yes k)
  have HN := hid (fun k : byB next = true => byB_yes k)
  have HO : Hid (optL next h = bytesOf 1 [next, 0, 99, 4, bitsV h, h.i] ++ bytesOf 2 [h.r]) := rfl
  have nO := hid (optL_len next h)
  have hbt := bitsV_bd h
  generalize encOE next h = E at *
  generalize encOL next h = L at *
  generalize optL next h = O at *
  go_enter Tryz.func52, Tryz.ntmps52
  go_upto_region 1 with fail
  generalize w.alloc (.cells h.cs 39) = w1 at *
  have L1 := hid (lies_new .i64 w1 #[.int .i64 next] 3 [next] rfl (by simp))
  have R1 := hid (HR0.out.alloc (.cells #[.int .i64 next] 3))
  have B1 := hid (balloc B0.out (.cells #[.int .i64 next] 3))
  clear HR0 B0
  go_wp2_with fail
  generalize w1.alloc (.cells #[.int .i64 next] 3) = w2 at *
  refine (fits_any 1 _ 1 1 [next] _ L1.out).mono ?_
  rintro e w2 ⟨rfl, rfl⟩
  rw [fits_by]
  clear L1
  generalize byB next = nb at *
  cases nb
  · have hE : Hid (E = 1) := by rw [Hid, HE.out]; rfl
    have hL : Hid (L = []) := by rw [Hid, HL.out]; rfl
    go_wp2_with fail
    go_ret2
    exact ⟨_, by rw [hE.out]; rfl, by rw [hL.out]; exact World.ownsRow_nil _ _ _ _, B1.out⟩
  · go_wp2_with (refine ldO oh _ rfl rfl w.heap.size rfl h 39 R1.out ?_)
    refine (hopCheck_any h _).mono ?_
    rintro e w3 ⟨rfl, hb3⟩
    have R3 := hid (R1.out.below hb3)
    have B3 := hid (bthen B1.out hb3)
    clear hb3 R1 B1
    rw [HC.out]
    generalize okO h = ob at *
    cases ob
    · have hE : Hid (E = 1) := by rw [Hid, HE.out]; rfl
      have hL : Hid (L = []) := by rw [Hid, HL.out]; rfl
      go_wp2_with fail
      go_ret2
      exact ⟨_, by rw [hE.out]; rfl, by rw [hL.out]; exact World.ownsRow_nil _ _ _ _, B3.out⟩
    · have hE : Hid (E = 0) := by rw [Hid, HE.out]; rfl
      have hL : Hid (L = O) := by rw [Hid, HL.out]; rfl
      obtain ⟨hi, hr⟩ := HY.out (by simp)
      have hn := HN.out (by simp)
      have F6 := hid (fits6 hn hbt hi)
      have F2 : Hid (fitsB 2 [h.r] = true) := by rw [Hid, fits_rk, rkB]; simp; omega
      have c3 := (R3.out.cell 3).trans h.at3
      clear hi hr hn hbt HY HN HC HE HL
      go_upto_region 6 with fail
      refine wp_region_held_drew (S := fun w' => Row w' w.heap.size 39 h.cs ∧ w'.cell? ⟨w.heap.size, 3, none⟩ = some (.int .i64 h.i)) (by kernel_rfl) ?_ (fun hHeld => ?_)
      · exact ⟨R3.out, c3⟩
      refine wpAnyH_take (i := 0) (oi := _) (v := ?va0) rfl (by kernel_rfl) (by kernel_rfl) (by kernel_rfl) (fun _ _ _ h => h) (Or.inl ⟨by rfl, ?hya0⟩) (by assumption) ?resta0
      case hya0 => (intro w hSw; (try dsimp only at hSw); go_split_ands; go_simp; try (with_reducible rfl))
      try simp only [List.getElem_toArray, List.getElem_cons_zero, List.getElem_cons_succ, Act.put, List.setIfInBounds_toArray, List.set_cons_zero, List.set_cons_succ]
      refine wpAnyH_take (i := 1) (oi := _) (v := .agg h.cs) rfl (by kernel_rfl) (by kernel_rfl) (by kernel_rfl) (fun _ _ _ h => h) (yldO oh (by rfl) _ rfl w.heap.size rfl h _ (fun w h => h.1)) (by assumption) ?_
      try simp only [List.getElem_toArray, List.getElem_cons_zero, List.getElem_cons_succ, Act.put, List.setIfInBounds_toArray, List.set_cons_zero, List.set_cons_succ]
      refine wpAnyH_take (i := 3) (oi := _) (v := ?va3) rfl (by kernel_rfl) (by kernel_rfl) (by kernel_rfl) (fun _ _ _ h => h) (Or.inl ⟨by rfl, ?hya3⟩) (by assumption) ?resta3
      case hya3 => (intro w hSw; (try dsimp only at hSw); go_split_ands; go_simp; try (with_reducible rfl))
      try simp only [List.getElem_toArray, List.getElem_cons_zero, List.getElem_cons_succ, Act.put, List.setIfInBounds_toArray, List.set_cons_zero, List.set_cons_succ]
      refine wpAnyH_take (i := 4) (oi := _) (v := ?va4) rfl (by kernel_rfl) (by kernel_rfl) (by kernel_rfl) (fun _ _ _ h => h) (Or.inl ⟨by rfl, ?hya4⟩) (by assumption) ?resta4
      case hya4 => (intro w hSw; (try dsimp only at hSw); go_split_ands; go_simp; try (with_reducible rfl))
      try simp only [List.getElem_toArray, List.getElem_cons_zero, List.getElem_cons_succ, Act.put, List.setIfInBounds_toArray, List.set_cons_zero, List.set_cons_succ]
      refine wpAnyH_ready (rs := [2]) (by kernel_rfl) (by simp) ?_
      refine AllReadyH.cons (o := _) rfl (fun K hK => ?_) AllReadyH.nil
      go_simp
      refine (bitsOf_any h _).mono ?_
      rintro e w4 ⟨rfl, hb4⟩
      have bb : Below w3.heap.size w3 w4 := bthen (bdrew (Below.refl _ _) 1) hb4
      have R4 := hid (R3.out.below bb)
      have B4 := hid (bthen B3.out bb)
      have c4 := (R4.out.cell 3).trans h.at3
      clear hb4 bb R3 B3 c3
      go_wp2_with fail
      refine hK.out _ _ ⟨R4.out, c4⟩ (fun hHeld => ?_)
      clear hK K
      try simp only [List.getElem_toArray, List.getElem_cons_zero, List.getElem_cons_succ, Act.put, List.setIfInBounds_toArray, List.set_cons_zero, List.set_cons_succ]
      have I5 := hid (lies_new .i64 w4 #[.int .i64 next, .int .i64 0, .int .i64 99, .int .i64 4, .int .i64 (bitsV h), .int .i64 h.i] 3 [next, 0, 99, 4, bitsV h, h.i] rfl (by simp))
      have R5 := hid (R4.out.alloc (.cells #[.int .i64 next, .int .i64 0, .int .i64 99, .int .i64 4, .int .i64 (bitsV h), .int .i64 h.i] 3))
      have B5 := hid (balloc B4.out (.cells #[.int .i64 next, .int .i64 0, .int .i64 99, .int .i64 4, .int .i64 (bitsV h), .int .i64 h.i] 3))
      have c5 := (R5.out.cell 3).trans h.at3
      clear R4 B4 c4
      refine wpAnyH_ready (rs := [5]) (by kernel_rfl) (by simp) ?_
      refine AllReadyH.cons (o := _) rfl (fun K hK => ?_) AllReadyH.nil
      go_simp
      generalize w4.alloc (.cells #[.int .i64 next, .int .i64 0, .int .i64 99, .int .i64 4, .int .i64 (bitsV h), .int .i64 h.i] 3) = w5 at *
      refine hK.out _ _ ⟨R5.out, c5⟩ (fun hHeld => ?_)
      clear hK K
      try simp only [List.getElem_toArray, List.getElem_cons_zero, List.getElem_cons_succ, Act.put, List.setIfInBounds_toArray, List.set_cons_zero, List.set_cons_succ]
      refine wpAnyH_ready (rs := [6]) (by kernel_rfl) (by simp) ?_
      refine AllReadyH.cons (o := _) rfl (fun K hK => ?_) AllReadyH.nil
      go_simp
      refine (put_ok _ _ _ _ 6 6 1 [] [next, 0, 99, 4, bitsV h, h.i] _ (Lies.nil _ _) I5.out F6.out (by decide)).mono ?_
      rintro e w6 ⟨v6, rfl, hown, hb6⟩
      have n6 : ([] ++ bytesOf 1 [next, 0, 99, 4, bitsV h, h.i]).length = 6 := by rw [List.nil_append, bytesOf_length 1 _ rfl]; rfl
      rw [List.nil_append] at hown n6
      have HO' := HO
      obtain ⟨A, hA⟩ : ∃ A, A = bytesOf 1 [next, 0, 99, 4, bitsV h, h.i] := ⟨_, rfl⟩
      rw [← hA] at hown n6 HO
      obtain ⟨a6, cap6, rfl, hl6, _⟩ := owns_lies hown
      rw [n6] at hl6 ⊢
      have R6 := hid (R5.out.below hb6)
      have B6 := hid (bthen B5.out hb6)
      have L6 := hid hl6
      have c6 := (R6.out.cell 3).trans h.at3
      clear hown hb6 hl6 hA I5 R5 B5 c5 HO'
      go_wp2_with fail
      refine hK.out _ _ ⟨R6.out, c6⟩ (fun hHeld => ?_)
      clear hK K
      try simp only [List.getElem_toArray, List.getElem_cons_zero, List.getElem_cons_succ, Act.put, List.setIfInBounds_toArray, List.set_cons_zero, List.set_cons_succ]
      refine wpAnyH_take (i := 7) (oi := _) (v := ?vb7) rfl (by kernel_rfl) (by kernel_rfl) (by kernel_rfl) (fun _ _ _ h => h) (Or.inl ⟨by rfl, ?hyb7⟩) (by assumption) ?restb7
      case hyb7 => (intro w hSw; (try dsimp only at hSw); go_split_ands; go_simp; try (with_reducible rfl))
      try simp only [List.getElem_toArray, List.getElem_cons_zero, List.getElem_cons_succ, Act.put, List.setIfInBounds_toArray, List.set_cons_zero, List.set_cons_succ]
      refine wpAnyH_take (i := 8) (oi := _) (v := ?vb8) rfl (by kernel_rfl) (by kernel_rfl) (by kernel_rfl) (fun _ _ _ h => h) (Or.inl ⟨by rfl, ?hyb8⟩) (by assumption) ?restb8
      case hyb8 => (intro w hSw; (try dsimp only at hSw); go_split_ands; go_simp; try (with_reducible rfl))
      try simp only [List.getElem_toArray, List.getElem_cons_zero, List.getElem_cons_succ, Act.put, List.setIfInBounds_toArray, List.set_cons_zero, List.set_cons_succ]
      refine wpAnyH_take (i := 10) (oi := _) (v := ?vb10) rfl (by kernel_rfl) (by kernel_rfl) (by kernel_rfl) (fun _ _ _ h => h) (Or.inl ⟨by rfl, ?hyb10⟩) (by assumption) ?restb10
      case hyb10 => (intro w hSw; (try dsimp only at hSw); go_split_ands; go_simp; try (with_reducible rfl))
      try simp only [List.getElem_toArray, List.getElem_cons_zero, List.getElem_cons_succ, Act.put, List.setIfInBounds_toArray, List.set_cons_zero, List.set_cons_succ]
      refine wpAnyH_take (i := 9) (oi := _) (v := ?vb9) rfl (by kernel_rfl) (by kernel_rfl) (by kernel_rfl) (fun _ _ _ h => h) (Or.inl ⟨by rfl, ?hyb9⟩) (by assumption) ?restb9
      case hyb9 => (intro w hSw; (try dsimp only at hSw); go_split_ands; go_simp; try (with_reducible rfl))
      try simp only [List.getElem_toArray, List.getElem_cons_zero, List.getElem_cons_succ, Act.put, List.setIfInBounds_toArray, List.set_cons_zero, List.set_cons_succ]
      refine wpAnyH_take (i := 11) (oi := _) (v := ?vb11) rfl (by kernel_rfl) (by kernel_rfl) (by kernel_rfl) (fun _ _ _ h => h) (Or.inl ⟨by rfl, ?hyb11⟩) (by assumption) ?restb11
      case hyb11 => (intro w hSw; (try dsimp only at hSw); go_split_ands; go_simp; try (with_reducible rfl))
      try simp only [List.getElem_toArray, List.getElem_cons_zero, List.getElem_cons_succ, Act.put, List.setIfInBounds_toArray, List.set_cons_zero, List.set_cons_succ]
      refine wpAnyH_done (by kernel_rfl) ?_ _
      clear hHeld c6
      have c4 := (R6.out.cell 4).trans h.at4
      have I7 := hid (lies_new .i64 w6 #[.int .i64 h.r] 3 [h.r] rfl (by simp))
      have B7 := hid (balloc B6.out (.cells #[.int .i64 h.r] 3))
      have L7 := hid (L6.out.below (balloc (Below.refl _ _) (.cells #[.int .i64 h.r] 3)))
      clear R6 B6 L6
      go_wp2_with fail
      generalize w6.alloc (.cells #[.int .i64 h.r] 3) = w7 at *
      refine (put_ok _ _ _ _ 1 1 2 A [h.r] _ L7.out I7.out F2.out (by decide)).mono ?_
      rintro e w8 ⟨v8, rfl, hown, hb8⟩
      rw [← HO.out] at hown
      have O8 := hid (own_mono hown B7.out.size)
      have B8 := hid (bthen B7.out hb8)
      clear hown hb8 L7 I7 B7 c4
      go_wp2_with fail
      go_ret2
      exact ⟨v8, by rw [hE.out]; rfl, by rw [hL.out]; exact O8.out, B8.out⟩
end Go.Proofs.YtbklpelikaapoaaGreatDoor

namespace Go.Proofs.YtbklpelikaapoaaGreatDoor
open Go.ChangeShapes Go.WideShapes Go.ChangeAt Go.RowKit
set_option linter.unusedVariables false
set_option linter.unusedSimpArgs false

/-- What is wrong with bytes. -/
def dcE (l : List Int) : Int := if l.length < 8 then 4 else if (l.getD 1 0 = 0 ∧ l.getD 2 0 = 99 ∧ l.getD 3 0 = 4) then (if l.getD 4 0 % 32 = 0 then 0 else 3) else 6
/-- The option of bytes. -/
def opO (l : List Int) : Ho := ⟨l.getD 4 0 / 128 == 1, l.getD 4 0 / 64 % 2 == 1, l.getD 4 0 / 32 % 2 == 1, l.getD 5 0, 256 * l.getD 6 0 + l.getD 7 0⟩
def dcN (l : List Int) : Int := if dcE l = 0 then l.getD 0 0 else 0
def dcO (l : List Int) : Ho := if dcE l = 0 then opO l else Ho.zero
def dcR (l : List Int) : List Int := if dcE l = 0 then l.drop 8 else []
theorem dcR_len (l : List Int) : (dcR l).length ≤ l.length := by
  unfold dcR
  split <;> simp
theorem dcR_oct {l : List Int} (ho : Oct l) : Oct (dcR l) := by
  unfold dcR
  split
  · exact fun x hx => ho x (List.mem_of_mem_drop hx)
  · intro x hx; cases hx
theorem flags256 : ∀ x : Fin 256, anF (x.val : Int) 128 = ((x.val : Int) / 128 == 1) ∧ anF (x.val : Int) 64 = ((x.val : Int) / 64 % 2 == 1) ∧ anF (x.val : Int) 32 = ((x.val : Int) / 32 % 2 == 1) := by decide +kernel
theorem more256 : ∀ x : Fin 256, (bits .andNot .u8 (x.val : Int) 224 != 0) = !decide ((x.val : Int) % 32 = 0) := by decide +kernel
theorem fin256 {x : Int} (h0 : 0 ≤ x) (h1 : x < 256) : ∃ y : Fin 256, x = (y.val : Int) := ⟨⟨x.toNat, by omega⟩, by simp; omega⟩
theorem flags_of {x : Int} (h0 : 0 ≤ x) (h1 : x < 256) (h : Ho) : flgO h x = ⟨x / 128 == 1, x / 64 % 2 == 1, x / 32 % 2 == 1, h.i, h.r⟩ := by
  obtain ⟨y, rfl⟩ := fin256 h0 h1
  obtain ⟨h1, h2, h3⟩ := flags256 y
  rw [flgO, h1, h2, h3]
theorem more_of {x : Int} (h0 : 0 ≤ x) (h1 : x < 256) : (bits .andNot .u8 x 224 != 0) = !decide (x % 32 = 0) := by
  obtain ⟨y, rfl⟩ := fin256 h0 h1
  exact more256 y
/-- Where the bytes lie. -/
theorem Lies.at {kd : IntKind} {w : World} {a : Option Addr} {len cap : Nat} {l : List Int} (h : Lies kd w a len cap l) (hlen : 0 < len) : ∃ b off, a = some ⟨b, off, none⟩ ∧ ∀ k, k < len → w.cell? ⟨b, off + k, none⟩ = some (.int kd (l.getD k 0)) := by
  obtain ⟨b, off, rfl, _⟩ := h.2.2.2.2 0 hlen
  refine ⟨b, off, rfl, fun k hk => ?_⟩
  obtain ⟨b', off', e, hc⟩ := h.2.2.2.2 k hk
  simp at e
  obtain ⟨rfl, rfl⟩ := e
  exact hc
end Go.Proofs.YtbklpelikaapoaaGreatDoor

namespace Go.Proofs.YtbklpelikaapoaaGreatDoor
open Go.ChangeShapes Go.WideShapes Go.ChangeAt Go.RowKit
set_option linter.unusedVariables false
set_option linter.unusedSimpArgs false

set_option maxHeartbeats 1600000 in
theorem dec_short (a : Option Addr) (len cap : Nat) (l : List Int) (w : World) (h : Lies .u8 w a len cap l) (ho : Oct l) (hs : len < 8) :
    Calls Tryz.prog 110 #[.slice a len cap] w fun r w' => r = .returned (.tuple #[.int .i64 0, .agg Ho.zero.cs, .slice none 0 0, .int .i64 4]) ∧ Below w.heap.size w w' := by
  have hz := zho
  have Z1 := hid (Row.new w 39 Ho.zero.cs)
  have B1 := hid (balloc (Below.refl w.heap.size w) (.cells Ho.zero.cs 39))
  have hs' : (len : Int) < 8 := by omega
  clear h
  go_enter Tryz.func110, Tryz.ntmps110
  go_upto_region 1 with fail
  generalize w.alloc (.cells Ho.zero.cs 39) = w1 at *
  go_wp2_with (first
    | (refine bdOz oh rfl rfl ?_)
    | (refine stO oh _ _ rfl rfl w.heap.size Ho.zero rfl rfl 39 Ho.zero Z1.out ?_))
  exact bodyPost_ret (resOd oh rfl _ _ w.heap.size 39 Ho.zero (.int .i64 0) (.slice none 0 0) (.int .i64 4) rfl rfl rfl rfl (Z1.out.setRow _)) rfl ⟨rfl, below_setRow' B1.out (Nat.le_refl _) _⟩
set_option maxHeartbeats 1600000 in
theorem dec_kind (a : Option Addr) (len cap : Nat) (l : List Int) (w : World) (h : Lies .u8 w a len cap l) (ho : Oct l) (hs : 8 ≤ len) (hk : ¬ (l.getD 1 0 = 0 ∧ l.getD 2 0 = 99 ∧ l.getD 3 0 = 4)) :
    Calls Tryz.prog 110 #[.slice a len cap] w fun r w' => r = .returned (.tuple #[.int .i64 0, .agg Ho.zero.cs, .slice none 0 0, .int .i64 6]) ∧ Below w.heap.size w w' := by
  have hz := zho
  have Z1 := hid (Row.new w 39 Ho.zero.cs)
  have B1 := hid (balloc (Below.refl w.heap.size w) (.cells Ho.zero.cs 39))
  obtain ⟨b, off, rfl, hcell⟩ := (h.below B1.out).at (by omega)
  have hcm : cap ≤ maxLen := h.2.2.1
  have hlc := h.2.1
  have hll := h.1
  unfold maxLen at hcm
  have q1 := hcell 1 (by omega)
  have x1b := ho.at 1 (by omega)
  have q2 := hcell 2 (by omega)
  have x2b := ho.at 2 (by omega)
  have q3 := hcell 3 (by omega)
  have x3b := ho.at 3 (by omega)
  generalize l.getD 1 0 = x1 at *
  generalize l.getD 2 0 = x2 at *
  generalize l.getD 3 0 = x3 at *
  have hs' : decide ((len : Int) < 8) = false := by simp; omega
  clear h hcell ho hll
  go_enter Tryz.func110, Tryz.ntmps110
  go_upto_region 1 with fail
  generalize w.alloc (.cells Ho.zero.cs 39) = w1 at *
  by_cases h1 : x1 = 0
  · have e1 : (x1 != 0) = false := by simp [h1]
    by_cases h2 : x2 = 99
    · have e2 : (x2 != 99) = false := by simp [h2]
      have e3 : (x3 != 4) = true := by rw [bne_iff_ne]; intro h3; exact hk ⟨h1, h2, h3⟩
      clear hk h1 h2
      go_wp2_with (first
        | (refine bdOz oh rfl rfl ?_)
        | (refine stO oh _ _ rfl rfl w.heap.size Ho.zero rfl rfl 39 Ho.zero Z1.out ?_))
      exact bodyPost_ret (resOd oh rfl _ _ w.heap.size 39 Ho.zero (.int .i64 0) (.slice none 0 0) (.int .i64 6) rfl rfl rfl rfl (Z1.out.setRow _)) rfl ⟨rfl, below_setRow' B1.out (Nat.le_refl _) _⟩
    · have e2 : (x2 != 99) = true := by rw [bne_iff_ne]; exact h2
      clear hk h1 h2
      go_wp2_with (first
        | (refine bdOz oh rfl rfl ?_)
        | (refine stO oh _ _ rfl rfl w.heap.size Ho.zero rfl rfl 39 Ho.zero Z1.out ?_))
      exact bodyPost_ret (resOd oh rfl _ _ w.heap.size 39 Ho.zero (.int .i64 0) (.slice none 0 0) (.int .i64 6) rfl rfl rfl rfl (Z1.out.setRow _)) rfl ⟨rfl, below_setRow' B1.out (Nat.le_refl _) _⟩
  · have e1 : (x1 != 0) = true := by rw [bne_iff_ne]; exact h1
    clear hk h1
    go_wp2_with (first
      | (refine bdOz oh rfl rfl ?_)
      | (refine stO oh _ _ rfl rfl w.heap.size Ho.zero rfl rfl 39 Ho.zero Z1.out ?_))
    exact bodyPost_ret (resOd oh rfl _ _ w.heap.size 39 Ho.zero (.int .i64 0) (.slice none 0 0) (.int .i64 6) rfl rfl rfl rfl (Z1.out.setRow _)) rfl ⟨rfl, below_setRow' B1.out (Nat.le_refl _) _⟩
set_option maxHeartbeats 1600000 in
theorem dec_form (a : Option Addr) (len cap : Nat) (l : List Int) (w : World) (h : Lies .u8 w a len cap l) (ho : Oct l) (hs : 8 ≤ len) (k1 : l.getD 1 0 = 0) (k2 : l.getD 2 0 = 99) (k3 : l.getD 3 0 = 4) (hk : ¬ l.getD 4 0 % 32 = 0) :
    Calls Tryz.prog 110 #[.slice a len cap] w fun r w' => r = .returned (.tuple #[.int .i64 0, .agg Ho.zero.cs, .slice none 0 0, .int .i64 3]) ∧ Below w.heap.size w w' := by
  have hz := zho
  have Z1 := hid (Row.new w 39 Ho.zero.cs)
  have B1 := hid (balloc (Below.refl w.heap.size w) (.cells Ho.zero.cs 39))
  obtain ⟨b, off, rfl, hcell⟩ := (h.below B1.out).at (by omega)
  have hcm : cap ≤ maxLen := h.2.2.1
  have hlc := h.2.1
  have hll := h.1
  unfold maxLen at hcm
  have q1 := hcell 1 (by omega)
  have x1b := ho.at 1 (by omega)
  have q2 := hcell 2 (by omega)
  have x2b := ho.at 2 (by omega)
  have q3 := hcell 3 (by omega)
  have x3b := ho.at 3 (by omega)
  have q4 := hcell 4 (by omega)
  have x4b := ho.at 4 (by omega)
  generalize l.getD 1 0 = x1 at *
  generalize l.getD 2 0 = x2 at *
  generalize l.getD 3 0 = x3 at *
  generalize l.getD 4 0 = x4 at *
  have hs' : decide ((len : Int) < 8) = false := by simp; omega
  clear h hcell ho hll
  subst k1
  subst k2
  subst k3
  have e4 : (bits .andNot .u8 x4 224 != 0) = true := by rw [more_of x4b.1 x4b.2]; simp [hk]
  clear hk
  go_enter Tryz.func110, Tryz.ntmps110
  go_upto_region 1 with fail
  generalize w.alloc (.cells Ho.zero.cs 39) = w1 at *
  go_wp2_with (first
    | (refine bdOz oh rfl rfl ?_)
    | (refine stO oh _ _ rfl rfl w.heap.size Ho.zero rfl rfl 39 Ho.zero Z1.out ?_))
  exact bodyPost_ret (resOd oh rfl _ _ w.heap.size 39 Ho.zero (.int .i64 0) (.slice none 0 0) (.int .i64 3) rfl rfl rfl rfl (Z1.out.setRow _)) rfl ⟨rfl, below_setRow' B1.out (Nat.le_refl _) _⟩
end Go.Proofs.YtbklpelikaapoaaGreatDoor

namespace Go.Proofs.YtbklpelikaapoaaGreatDoor
open Go.ChangeShapes Go.WideShapes Go.ChangeAt Go.RowKit
set_option linter.unusedVariables false
set_option linter.unusedSimpArgs false

theorem noU8_ho {w : World} {g : Nat} {t : TypeId} {h : Ho} (hr : Row w g t h.cs) : NoU8 w g := by
  intro o x e
  rw [hr.cell] at e
  match o with
  | 0 => rw [h.at0] at e; simp at e
  | 1 => rw [h.at1] at e; simp at e
  | 2 => rw [h.at2] at e; simp at e
  | 3 => rw [h.at3] at e; simp at e
  | 4 => rw [h.at4] at e; simp at e
  | n + 5 => rw [Array.getElem?_eq_none (by rw [h.size]; omega)] at e; cases e
theorem num1 (l : List Int) (k : Nat) (h : k < l.length) : numOf ((l.drop k).take 1) = l.getD k 0 := by
  rw [List.drop_eq_getElem_cons h, List.take_succ_cons, List.take_zero]; simp [numOf, h]
theorem num2 (l : List Int) (k : Nat) (h : k + 1 < l.length) : numOf ((l.drop k).take 2) = 256 * l.getD k 0 + l.getD (k + 1) 0 := by
  rw [List.drop_eq_getElem_cons (by omega), List.drop_eq_getElem_cons h, List.take_succ_cons, List.take_succ_cons, List.take_zero]; simp [numOf, h, (by omega : k < l.length)]
set_option maxHeartbeats 3200000 in
set_option maxRecDepth 100000 in
theorem dec_ok (a : Option Addr) (len cap : Nat) (l : List Int) (w : World) (h : Lies .u8 w a len cap l) (ho : Oct l) (hsm : len ≤ 100000) (hs : 8 ≤ len) (k1 : l.getD 1 0 = 0) (k2 : l.getD 2 0 = 99) (k3 : l.getD 3 0 = 4) (hk : l.getD 4 0 % 32 = 0) :
    Calls Tryz.prog 110 #[.slice a len cap] w fun r w' => ∃ v, r = .returned (.tuple #[.int .i64 (l.getD 0 0), .agg (opO l).cs, v, .int .i64 0]) ∧ w'.ownsRow w.heap.size 5 1 v (l.drop 8).length (u8s (l.drop 8)) ∧ Below w.heap.size w w' := by
  have hz := zho
  have Z1 := hid (Row.new w 39 Ho.zero.cs)
  have B1 := hid (balloc (Below.refl w.heap.size w) (.cells Ho.zero.cs 39))
  obtain ⟨b, off, rfl, hcell⟩ := (h.below B1.out).at (by omega)
  have hcm : cap ≤ maxLen := h.2.2.1
  have hlc := h.2.1
  have hll := h.1
  unfold maxLen at hcm
  have q1 := hcell 1 (by omega)
  have q2 := hcell 2 (by omega)
  have q3 := hcell 3 (by omega)
  have q4 := hcell 4 (by omega)
  have x4b := ho.at 4 (by omega)
  have v0 : numOf ((l.drop 0).take 1) = l.getD 0 0 := num1 l 0 (by omega)
  have v4 : numOf ((l.drop 4).take 1) = l.getD 4 0 := num1 l 4 (by omega)
  have v5 : numOf ((l.drop 5).take 1) = l.getD 5 0 := num1 l 5 (by omega)
  have v6 : numOf ((l.drop 6).take 2) = 256 * l.getD 6 0 + l.getD 7 0 := num2 l 6 (by omega)
  have V0 := hid v0
  have V4 := hid v4
  have V5 := hid v5
  have V6 := hid v6
  have HF := hid (flags_of x4b.1 x4b.2 Ho.zero)
  have e4 : (bits .andNot .u8 (l.getD 4 0) 224 != 0) = false := by rw [more_of x4b.1 x4b.2, decide_eq_true hk]; rfl
  have HP : Hid (opO l = ⟨l.getD 4 0 / 128 == 1, l.getD 4 0 / 64 % 2 == 1, l.getD 4 0 / 32 % 2 == 1, l.getD 5 0, 256 * l.getD 6 0 + l.getD 7 0⟩) := rfl
  generalize l.getD 0 0 = x0 at *
  generalize l.getD 1 0 = x1 at *
  generalize l.getD 2 0 = x2 at *
  generalize l.getD 3 0 = x3 at *
  generalize l.getD 4 0 = x4 at *
  generalize l.getD 5 0 = x5 at *
  generalize 256 * l.getD 6 0 + l.getD 7 0 = x67 at *
  subst k1
  subst k2
  subst k3
  have hs' : decide ((len : Int) < 8) = false := by simp; omega
  have HB := hid (h.below B1.out)
  have HO := hid ho
  have HLL := hid hll
  clear h hcell ho hll v0 v4 v5 v6 hk
  go_enter Tryz.func110, Tryz.ntmps110
  go_upto_region 1 with fail
  have hs1 : w.heap.size < (w.alloc (.cells Ho.zero.cs 39)).heap.size := by simp
  generalize w.alloc (.cells Ho.zero.cs 39) = w1 at *
  go_wp2_with fail
  clear q1 q2 q3 q4 e4
  refine (over_any _ len cap l _ HB.out HO.out hsm).mono ?_
  rintro e w2 ⟨c, ca, ccap, rfl, hc, hb2, hc1, hc2⟩
  have C2 := hid hc
  have B2 := hid (bthen B1.out hb2)
  have Z2 := hid (Z1.out.below hb2)
  have hcw : w.heap.size < c := by omega
  clear hc hb2 B1 Z1 HB hc1 hc2 hs1
  go_wp2_with fail
  refine (take_ok _ c ca len ccap 0 l 1 1 C2.out rfl rfl (by omega)).mono ?_
  rintro e w3 ⟨rfl, hc, hg, hs⟩
  have C3 := hid hc
  have B3 := hid (bgrown B2.out hg (by omega))
  have Z3 := hid (Z2.out.kept hg (by simp; omega))
  rw [V0.out]
  clear hc hg hs C2 B2 Z2
  go_wp2_with fail
  refine (bytes_ok _ c ca len ccap 1 l 3 3 C3.out rfl (by omega)).mono ?_
  rintro e w4 ⟨v4, rfl, _, hc, hg⟩
  have C4 := hid hc
  have B4 := hid (bgrown B3.out hg (by omega))
  have Z4 := hid (Z3.out.kept hg (by simp; omega))
  clear hc hg C3 B3 Z3
  go_wp2_with fail
  refine (take_ok _ c ca len ccap 4 l 1 1 C4.out rfl rfl (by omega)).mono ?_
  rintro e w5 ⟨rfl, hc, hg, hs⟩
  have C5 := hid hc
  have B5 := hid (bgrown B4.out hg (by omega))
  have Z5 := hid (Z4.out.kept hg (by simp; omega))
  rw [V4.out]
  clear hc hg hs C4 B4 Z4
  go_wp2_with fail
  refine (flaggedOf_any x4 _).mono ?_
  rintro e w6 ⟨rfl, hb6⟩
  rw [HF.out]
  have N7 := hid (layO_new w6 39 ⟨x4 / 128 == 1, x4 / 64 % 2 == 1, x4 / 32 % 2 == 1, Ho.zero.i, Ho.zero.r⟩)
  have b7 := bthen hb6 (layO_below w6 39 ⟨x4 / 128 == 1, x4 / 64 % 2 == 1, x4 / 32 % 2 == 1, Ho.zero.i, Ho.zero.r⟩)
  have C7 := hid (C5.out.below b7)
  have B7 := hid (bthen B5.out b7)
  have Z7 := hid (Z5.out.below b7)
  have hgo : c < w6.heap.size := Nat.lt_of_lt_of_le C5.out.lt hb6.size
  generalize hO1 : (⟨x4 / 128 == 1, x4 / 64 % 2 == 1, x4 / 32 % 2 == 1, Ho.zero.i, Ho.zero.r⟩ : Ho) = O1 at *
  have HO1 := hid hO1
  clear hb6 b7 C5 B5 Z5 hO1 HF
  go_upto_region 11 with (refine stO oh _ _ rfl rfl w6.heap.size O1 rfl rfl 39 Ho.zero (Row.new w6 39 _) ?_)
  generalize (w6.alloc (.cells Ho.zero.cs 39)).setRow w6.heap.size O1.cs = w7 at *
  generalize w6.heap.size = go at *
  go_wp2_with fail
  refine (take_ok _ c ca len ccap 5 l 1 1 C7.out rfl rfl (by omega)).mono ?_
  rintro e w8 ⟨rfl, hc, hg, hs⟩
  have C8 := hid hc
  have B8 := hid (bgrown B7.out hg (by omega))
  have Z8 := hid (Z7.out.kept hg (by simp; omega))
  have N8 := hid (N7.out.kept hg (by simp; omega))
  rw [V5.out]
  clear hc hg hs C7 B7 Z7 N7
  have f3 := N8.out.frozen 3
  have n3 := (N8.out.cell 3).trans O1.at3
  have N9 : Hid (Row (w8.setCell ⟨go, 3, none⟩ (.int .i64 x5)) go 39 (O1.setI x5).cs) := by rw [Hid, ← Ho.set3]; exact N8.out.set 3 _
  have Z9 := hid (Z8.out.other ⟨go, 3, none⟩ (.int .i64 x5) (by simp; omega))
  have C9 := hid (C8.out.grown (noU8_ho N8.out) (by omega) (grownBy_setCell w8 go 3 (.int .i64 x5)))
  have B9 := hid (bset 3 (.int .i64 x5) B8.out (g := go) (by omega))
  clear N8 Z8 C8 B8
  go_upto_region 12 with fail
  generalize w8.setCell ⟨go, 3, none⟩ (.int .i64 x5) = w9 at *
  clear f3 n3
  go_wp2_with fail
  refine (take_ok _ c ca len ccap 6 l 2 2 C9.out rfl rfl (by omega)).mono ?_
  rintro e w10 ⟨rfl, hc, hg, hs⟩
  have C10 := hid hc
  have B10 := hid (bgrown B9.out hg (by omega))
  have Z10 := hid (Z9.out.kept hg (by simp; omega))
  have N10 := hid (N9.out.kept hg (by simp; omega))
  rw [V6.out]
  clear hc hg hs C9 B9 Z9 N9
  have f4 := N10.out.frozen 4
  have n4 := (N10.out.cell 4).trans (O1.setI x5).at4
  have N11 : Hid (Row (w10.setCell ⟨go, 4, none⟩ (.int .i64 x67)) go 39 ((O1.setI x5).setR x67).cs) := by rw [Hid, ← Ho.set4]; exact N10.out.set 4 _
  have Z11 := hid (Z10.out.other ⟨go, 4, none⟩ (.int .i64 x67) (by simp; omega))
  have C11 := hid (C10.out.grown (noU8_ho N10.out) (by omega) (grownBy_setCell w10 go 4 (.int .i64 x67)))
  have B11 := hid (bset 4 (.int .i64 x67) B10.out (g := go) (by omega))
  clear N10 Z10 C10 B10
  go_upto_region 13 with fail
  generalize w10.setCell ⟨go, 4, none⟩ (.int .i64 x67) = w11 at *
  clear f4 n4
  have hP : (O1.setI x5).setR x67 = opO l := by rw [HP.out, ← HO1.out]; rfl
  rw [hP] at N11
  clear hP HO1
  generalize hPP : opO l = P at *
  have HPP := hid hPP
  clear hPP
  refine wp_region_held_drew (S := fun w' => Row w' go 39 P.cs) (by kernel_rfl) ?_ (fun hHeld => ?_)
  · exact N11.out
  refine wpAnyH_take (i := 0) (oi := _) (v := ?va0) rfl (by kernel_rfl) (by kernel_rfl) (by kernel_rfl) (fun _ _ _ h => h) (Or.inl ⟨by rfl, ?hya0⟩) (by assumption) ?resta0
  case hya0 => (intro w hSw; (try dsimp only at hSw); go_split_ands; go_simp; try (with_reducible rfl))
  try simp only [List.getElem_toArray, List.getElem_cons_zero, List.getElem_cons_succ, Act.put, List.setIfInBounds_toArray, List.set_cons_zero, List.set_cons_succ]
  refine wpAnyH_take (i := 1) (oi := _) (v := .agg P.cs) rfl (by kernel_rfl) (by kernel_rfl) (by kernel_rfl) (fun _ _ _ h => h) (yldO oh (by rfl) _ rfl go rfl P _ (fun w h => h)) (by assumption) ?_
  try simp only [List.getElem_toArray, List.getElem_cons_zero, List.getElem_cons_succ, Act.put, List.setIfInBounds_toArray, List.set_cons_zero, List.set_cons_succ]
  refine wpAnyH_take (i := 2) (oi := _) (v := ?va2) rfl (by kernel_rfl) (by kernel_rfl) (by kernel_rfl) (fun _ _ _ h => h) (Or.inl ⟨by rfl, ?hya2⟩) (by assumption) ?resta2
  case hya2 => (intro w hSw; (try dsimp only at hSw); go_split_ands; go_simp; try (with_reducible rfl))
  try simp only [List.getElem_toArray, List.getElem_cons_zero, List.getElem_cons_succ, Act.put, List.setIfInBounds_toArray, List.set_cons_zero, List.set_cons_succ]
  refine wpAnyH_take (i := 3) (oi := _) (v := ?va3) rfl (by kernel_rfl) (by kernel_rfl) (by kernel_rfl) (fun _ _ _ h => h) (Or.inl ⟨by rfl, ?hya3⟩) (by assumption) ?resta3
  case hya3 => (intro w hSw; (try dsimp only at hSw); go_split_ands; go_simp; try (with_reducible rfl))
  try simp only [List.getElem_toArray, List.getElem_cons_zero, List.getElem_cons_succ, Act.put, List.setIfInBounds_toArray, List.set_cons_zero, List.set_cons_succ]
  refine wpAnyH_ready (rs := [4]) (by kernel_rfl) (by simp) ?_
  refine AllReadyH.cons (o := _) rfl (fun K hK => ?_) AllReadyH.nil
  go_simp
  refine (left_any _ c ca len ccap 8 l 0 (C11.out.drewN 1)).mono ?_
  rintro e w12 ⟨rfl, q, rfl⟩
  go_wp2_with fail
  refine hK.out _ _ (N11.out.drewN (1 + q)) (fun hHeld => ?_)
  clear hK K
  try simp only [List.getElem_toArray, List.getElem_cons_zero, List.getElem_cons_succ, Act.put, List.setIfInBounds_toArray, List.set_cons_zero, List.set_cons_succ]
  have HL8 : Hid (((len : Int) - 8) = ((len - 8 : Nat) : Int)) := by rw [Hid]; omega
  refine wpAnyH_ready (rs := [5]) (by kernel_rfl) (by simp) ?_
  refine AllReadyH.cons (o := _) rfl (fun K hK => ?_) AllReadyH.nil
  go_simp
  refine (bytes_ok _ c ca len ccap 8 l _ (len - 8) (C11.out.drewN (1 + q)) HL8.out (by omega)).mono ?_
  rintro e w13 ⟨v13, rfl, hown, hc, hg⟩
  have O13 := hid (own_mono hown (show w.heap.size ≤ _ from B11.out.size))
  have B13 := hid (bgrown (bdrew B11.out (1 + q)) hg (by omega))
  have N13 := hid ((N11.out.drewN (1 + q)).kept hg (by simp; omega))
  have Z13 := hid ((Z11.out.drewN (1 + q)).kept hg (by simp; omega))
  have hne13 := own_row (g := w.heap.size) hown Z13.out (by decide)
  clear hc hg hown N11 Z11 C11 B11
  go_wp2_with fail
  refine hK.out _ _ N13.out (fun hHeld => ?_)
  clear hK K
  try simp only [List.getElem_toArray, List.getElem_cons_zero, List.getElem_cons_succ, Act.put, List.setIfInBounds_toArray, List.set_cons_zero, List.set_cons_succ]
  refine wpAnyH_take (i := 6) (oi := _) (v := ?vb6) rfl (by kernel_rfl) (by kernel_rfl) (by kernel_rfl) (fun _ _ _ h => h) (Or.inl ⟨by rfl, ?hyb6⟩) (by assumption) ?restb6
  case hyb6 => (intro w hSw; (try dsimp only at hSw); go_split_ands; go_simp; try (with_reducible rfl))
  try simp only [List.getElem_toArray, List.getElem_cons_zero, List.getElem_cons_succ, Act.put, List.setIfInBounds_toArray, List.set_cons_zero, List.set_cons_succ]
  refine wpAnyH_ready (rs := [7]) (by kernel_rfl) (by simp) ?_
  refine AllReadyH.cons (o := _) rfl (fun K hK => ?_) AllReadyH.nil
  refine step_st rfl 39 _ _ rfl w.heap.size P.cs rfl rfl 39 Ho.zero.cs Z13.out oh.info rfl P.one ?_
  have N14 := hid (N13.out.rowOther w.heap.size P.cs (by omega))
  have Z14 := hid (Z13.out.setRow P.cs)
  have B14 := hid (below_setRow' B13.out (g := w.heap.size) (Nat.le_refl _) P.cs)
  have O14 := hid (O13.out.kept (grownBy_setRow w13 w.heap.size P.cs) (.inr hne13))
  generalize w13.setRow w.heap.size P.cs = w14 at *
  refine hK.out _ _ N14.out (fun hHeld => ?_)
  clear hK K
  try simp only [List.getElem_toArray, List.getElem_cons_zero, List.getElem_cons_succ, Act.put, List.setIfInBounds_toArray, List.set_cons_zero, List.set_cons_succ]
  refine wpAnyH_take (i := 8) (oi := _) (v := ?vc8) rfl (by kernel_rfl) (by kernel_rfl) (by kernel_rfl) (fun _ _ _ h => h) (Or.inl ⟨by rfl, ?hyc8⟩) (by assumption) ?restc8
  case hyc8 => (intro w hSw; (try dsimp only at hSw); go_split_ands; go_simp; try (with_reducible rfl))
  try simp only [List.getElem_toArray, List.getElem_cons_zero, List.getElem_cons_succ, Act.put, List.setIfInBounds_toArray, List.set_cons_zero, List.set_cons_succ]
  refine wpAnyH_take (i := 9) (oi := _) (v := ?vc9) rfl (by kernel_rfl) (by kernel_rfl) (by kernel_rfl) (fun _ _ _ h => h) (Or.inl ⟨by rfl, ?hyc9⟩) (by assumption) ?restc9
  case hyc9 => (intro w hSw; (try dsimp only at hSw); go_split_ands; go_simp; try (with_reducible rfl))
  try simp only [List.getElem_toArray, List.getElem_cons_zero, List.getElem_cons_succ, Act.put, List.setIfInBounds_toArray, List.set_cons_zero, List.set_cons_succ]
  refine wpAnyH_done (by kernel_rfl) ?_ _
  clear hHeld
  go_wp2_with fail
  exact bodyPost_ret (resOd oh rfl _ _ w.heap.size 39 P (.int .i64 x0) v13 (.int .i64 0) rfl rfl rfl rfl Z14.out) rfl ⟨v13, by rw [HPP.out], by rw [List.length_drop, HLL.out]; have := O14.out; rwa [List.take_of_length_le (by rw [List.length_drop, HLL.out]; omega)] at this, B14.out⟩
theorem hopDecode_any (a : Option Addr) (len cap : Nat) (l : List Int) (w : World) (h : Lies .u8 w a len cap l) (ho : Oct l) (hsm : len ≤ 100000) :
    Calls Tryz.prog 110 #[.slice a len cap] w fun r w' => ∃ v, r = .returned (.tuple #[.int .i64 (dcN l), .agg (dcO l).cs, v, .int .i64 (dcE l)]) ∧ w'.ownsRow w.heap.size 5 1 v (dcR l).length (u8s (dcR l)) ∧ Below w.heap.size w w' := by
  have hl := h.1
  have bad : ∀ x : Int, x ≠ 0 → dcE l = x → (Calls Tryz.prog 110 #[.slice a len cap] w fun r w' => r = .returned (.tuple #[.int .i64 0, .agg Ho.zero.cs, .slice none 0 0, .int .i64 x]) ∧ Below w.heap.size w w') →
      Calls Tryz.prog 110 #[.slice a len cap] w fun r w' => ∃ v, r = .returned (.tuple #[.int .i64 (dcN l), .agg (dcO l).cs, v, .int .i64 (dcE l)]) ∧ w'.ownsRow w.heap.size 5 1 v (dcR l).length (u8s (dcR l)) ∧ Below w.heap.size w w' := by
    intro x hx hE hc
    refine hc.mono ?_
    rintro r w' ⟨rfl, hb⟩
    rw [dcN, dcO, dcR, hE, if_neg hx, if_neg hx, if_neg hx]
    exact ⟨_, rfl, World.ownsRow_nil _ _ _ _, hb⟩
  by_cases h8 : len < 8
  · exact bad 4 (by decide) (by rw [dcE, if_pos (by omega)]) (dec_short a len cap l w h ho h8)
  · by_cases hk : l.getD 1 0 = 0 ∧ l.getD 2 0 = 99 ∧ l.getD 3 0 = 4
    · by_cases hf : l.getD 4 0 % 32 = 0
      · have hE : dcE l = 0 := by rw [dcE, if_neg (by omega), if_pos hk, if_pos hf]
        rw [dcN, dcO, dcR, hE, if_pos rfl, if_pos rfl, if_pos rfl]
        exact dec_ok a len cap l w h ho hsm (by omega) hk.1 hk.2.1 hk.2.2 hf
      · exact bad 3 (by decide) (by rw [dcE, if_neg (by omega), if_pos hk, if_neg hf]) (dec_form a len cap l w h ho (by omega) hk.1 hk.2.1 hk.2.2 hf)
    · exact bad 6 (by decide) (by rw [dcE, if_neg (by omega), if_neg hk]) (dec_kind a len cap l w h ho (by omega) hk)
end Go.Proofs.YtbklpelikaapoaaGreatDoor

namespace Go.Proofs.YtbklpelikaapoaaGreatDoor
open Go.ChangeShapes Go.WideShapes Go.ChangeAt Go.RowKit
set_option linter.unusedVariables false
set_option linter.unusedSimpArgs false

end Go.Proofs.YtbklpelikaapoaaGreatDoor

namespace Go.Proofs.YtbklpelikaapoaaGreatDoor
open Go.ChangeShapes Go.WideShapes Go.ChangeAt Go.RowKit
set_option linter.unusedVariables false
set_option linter.unusedSimpArgs false

theorem optL_list {next : Int} {h : Ho} (hn : byB next = true) (k : okO h = true) : optL next h = [next, 0, 99, 4, bitsV h, h.i, h.r / 256, h.r % 256] := by
  obtain ⟨⟨i0, i1⟩, ⟨r0, r1⟩⟩ := okO_yes k
  obtain ⟨n0, n1⟩ := byB_yes hn
  obtain ⟨b0, b1⟩ := bitsV_bd h
  simp [optL, bytesOf, digs]
  omega
theorem bits_back (h : Ho) : (bitsV h / 128 == 1) = h.d ∧ (bitsV h / 64 % 2 == 1) = h.w ∧ (bitsV h / 32 % 2 == 1) = h.f ∧ bitsV h % 32 = 0 := by
  rw [bitsV_eq]
  generalize h.d = d
  generalize h.w = w
  generalize h.f = f
  cases d <;> cases w <;> cases f <;> decide
theorem optL_oct (next : Int) (h : Ho) : Oct (optL next h) := (bytesOf_oct _ _).app (bytesOf_oct _ _)
end Go.Proofs.YtbklpelikaapoaaGreatDoor

namespace Go.Proofs.YtbklpelikaapoaaGreatDoor
open Go.ChangeShapes Go.WideShapes Go.ChangeAt Go.RowKit
set_option linter.unusedVariables false
set_option linter.unusedSimpArgs false

/-- What a byte adds at a place. -/
def wt (k : Nat) (b : Int) : Int := if k % 2 = 0 then b * 256 else b
/-- All bytes4 added, the first of each pair 256 times; the first one lies at place k. -/
def wsum : Nat → List Int → Int
  | _, [] => 0
  | k, b :: l => wt k b + wsum (k + 1) l
theorem wsum_app (k : Nat) (l m : List Int) : wsum k (l ++ m) = wsum k l + wsum (k + l.length) m := by
  induction l generalizing k with
  | nil => simp [wsum]
  | cons b l ih => simp only [List.cons_append, wsum, ih, List.length_cons]; rw [show k + 1 + l.length = k + (l.length + 1) by omega]; omega
theorem wsum_two (k : Nat) (l : List Int) : wsum (k + 2) l = wsum k l := by
  induction l generalizing k with
  | nil => rfl
  | cons b l ih => simp only [wsum]; rw [show k + 2 + 1 = (k + 1) + 2 by omega, ih]; simp [wt]
theorem wt_nonneg (k : Nat) (b : Int) (h : 0 ≤ b ∧ b < 256) : 0 ≤ wt k b ∧ wt k b ≤ 65280 := by unfold wt; split <;> omega
theorem wsum_bd (k : Nat) (l : List Int) (h : Oct l) : 0 ≤ wsum k l ∧ wsum k l ≤ 65280 * l.length := by
  induction l generalizing k with
  | nil => simp [wsum]
  | cons b l ih =>
    have h1 := wt_nonneg k b (h b (by simp))
    have h2 := ih (k + 1) (fun x hx => h x (by simp [hx]))
    simp only [wsum, List.length_cons]; omega
/-- A number, with what is above two bytes4 added below until it fits. -/
def norm (n : Int) : Int := if n = 0 then 0 else (n - 1) % 65535 + 1
theorem norm_bd (n : Int) : 0 ≤ norm n ∧ norm n ≤ 65535 := by unfold norm; split <;> omega
theorem norm_plus (a x : Int) (ha : 0 ≤ a) (hx0 : 0 ≤ x) (hx : x ≤ 65535) : (x + norm a) / 65536 + (x + norm a) % 65536 = norm (a + x) := by
  unfold norm; split <;> split <;> omega
/-- The sum of bytes4. -/
def sumV (l : List Int) : Int := norm (wsum 0 l)
theorem sumV_bd (l : List Int) : 0 ≤ sumV l ∧ sumV l ≤ 65535 := norm_bd _
theorem sumV_snoc (l : List Int) (b : Int) (hl : Oct l) (hb : 0 ≤ b ∧ b < 256) : (wt l.length b + sumV l) / 65536 + (wt l.length b + sumV l) % 65536 = sumV (l ++ [b]) := by
  have h1 := wt_nonneg l.length b hb
  rw [sumV, sumV, norm_plus _ _ (wsum_bd 0 l hl).1 h1.1 (by omega), wsum_app]
  simp [wsum]
theorem oct_snoc {l : List Int} {b : Int} (hl : Oct l) (hb : 0 ≤ b ∧ b < 256) : Oct (l ++ [b]) := hl.app (fun x hx => by simp at hx; subst hx; exact hb)
theorem oct_take4 {l : List Int} (h : Oct l) (n : Nat) : Oct (l.take n) := fun x hx => h x (List.mem_of_mem_take hx)
theorem oct_drop {l : List Int} (h : Oct l) (n : Nat) : Oct (l.drop n) := fun x hx => h x (List.mem_of_mem_drop hx)
end Go.Proofs.YtbklpelikaapoaaGreatDoor

namespace Go.Proofs.YtbklpelikaapoaaGreatDoor
open Go.ChangeShapes Go.WideShapes Go.ChangeAt Go.RowKit
set_option linter.unusedVariables false
set_option linter.unusedSimpArgs false

/-- A Sum in memory, to which the bytes4 l were added. -/
structure SumAt (w : World) (c : Nat) (l : List Int) : Prop where
  block : w.heap[c]? = some (.cells #[.int .i64 (sumV l), .int .i64 l.length] 207)
  oct : Oct l
  small : l.length ≤ 10000000
theorem SumAt.cell0 {w : World} {c : Nat} {l : List Int} (h : SumAt w c l) : w.cell? ⟨c, 0, none⟩ = some (.int .i64 (sumV l)) := by
  rw [cell_of_row w c 0 _ 207 (0, 0) h.block]; rfl
theorem SumAt.cell1 {w : World} {c : Nat} {l : List Int} (h : SumAt w c l) : w.cell? ⟨c, 1, none⟩ = some (.int .i64 l.length) := by
  rw [cell_of_row w c 1 _ 207 (0, 0) h.block]; rfl

theorem value_any (w : World) (c : Nat) (l : List Int) (h : SumAt w c l) : Calls Tryz.prog 128 #[.pointer (some ⟨c, 0, none⟩)] w fun e w' => e = .returned (.int .i64 (sumV l)) ∧ w' = w := by
  have h0 := h.cell0
  clear h
  generalize sumV l = s at *
  go_enter Tryz.func128, Tryz.ntmps128
  go_wp2
  go_ret
  exact ⟨rfl, rfl⟩
/-- Two numbers in a block of their own. -/
def Row2 (w : World) (c : Nat) (t n : Int) : Prop := w.heap[c]? = some (.cells #[.int .i64 t, .int .i64 n] 207)
theorem Row2.cell0 {w : World} {c : Nat} {t n : Int} (h : Row2 w c t n) : w.cell? ⟨c, 0, none⟩ = some (.int .i64 t) := by rw [cell_of_row w c 0 _ 207 (0, 0) h]; rfl
theorem Row2.cell1 {w : World} {c : Nat} {t n : Int} (h : Row2 w c t n) : w.cell? ⟨c, 1, none⟩ = some (.int .i64 n) := by rw [cell_of_row w c 1 _ 207 (0, 0) h]; rfl
theorem Row2.soft {w : World} {c : Nat} {t n : Int} (h : Row2 w c t n) (j : Nat) : w.frozen? ⟨c, j, none⟩ = false := by
  unfold Row2 at h; simp [World.frozen?, h]
theorem Row2.set0 {w : World} {c : Nat} {t n : Int} (h : Row2 w c t n) (x : Int) : Row2 (w.setCell ⟨c, 0, none⟩ (.int .i64 x)) c x n := by unfold Row2 at *; rw [heap_setCell_same w c 0 _ _ _ h]; rfl
theorem Row2.set1 {w : World} {c : Nat} {t n : Int} (h : Row2 w c t n) (x : Int) : Row2 (w.setCell ⟨c, 1, none⟩ (.int .i64 x)) c t x := by unfold Row2 at *; rw [heap_setCell_same w c 1 _ _ _ h]; rfl
theorem wrap64_small (n : Int) (h₀ : 0 ≤ n) (h₁ : n < 4611686018427387904) : wrap64 n = n := by unfold wrap64; omega

theorem plus_any (w : World) (c : Nat) (t m n : Int) (h : Row2 w c t m) (ht : 0 ≤ t ∧ t ≤ 65535) (hn : 0 ≤ n ∧ n ≤ 65535) :
    Calls Tryz.prog 157 #[.pointer (some ⟨c, 0, none⟩), .int .i64 n] w fun e w' => e = .returned (.tuple #[]) ∧ Row2 w' c ((n + t) / 65536 + (n + t) % 65536) m ∧ w.grownBy w' (some c) ∧ w'.heap.size = w.heap.size := by
  have h0 := h.cell0
  have hf := h.soft 0
  have H := hid h
  have hm : bits .and .i64 (n + t) 65535 = (n + t) % 65536 := bits_mask .i64 62 (by decide) wraps_i64 16 (by decide) (n + t) (by omega) (by omega)
  have HM := hid hm
  clear h hm
  go_enter Tryz.func157, Tryz.ntmps157
  go_wp2
  go_returns
  rw [HM.out, wrap64_small _ (by omega) (by omega)]
  exact ⟨rfl, H.out.set0 _, grownBy_setCell .., by simp⟩

theorem sumAt_row {w : World} {c : Nat} {l : List Int} (h : SumAt w c l) : Row2 w c (sumV l) l.length := h.block

set_option maxHeartbeats 400000 in
theorem addByte_any (w : World) (c : Nat) (l : List Int) (b : Int) (h : SumAt w c l) (hb : 0 ≤ b ∧ b < 256) (hl : l.length < 10000000) :
    Calls Tryz.prog 141 #[.pointer (some ⟨c, 0, none⟩), .int .u8 b] w fun e w' => e = .returned (.tuple #[]) ∧ SumAt w' c (l ++ [b]) ∧ w.grownBy w' (some c) ∧ w'.heap.size = w.heap.size := by
  have H := hid (sumAt_row h)
  have HE := hid (sumV_snoc l b h.oct hb)
  have HO := hid (oct_snoc h.oct hb)
  have HB := sumV_bd l
  have h1 := h.cell1
  have HN : Hid ((l ++ [b]).length = l.length + 1) := by simp [Hid]
  clear h
  generalize sumV l = t at *
  by_cases hp : l.length % 2 = 0
  · have hw : wt l.length b = b * 256 := by simp [wt, hp]
    rw [hw] at HE
    have hq : (((l.length : Int) % 2) == 0) = true := by simp; omega
    clear hw
    generalize hk : l.length = k at *
    go_enter Tryz.func141, Tryz.ntmps141
    go_wp2_with (go_at_call 157; refine (plus_any _ c t k _ H.out HB (by omega)).mono ?_; rintro e w1 ⟨rfl, hr1, hg1, hs1⟩; have R1 := hid hr1; have G1 := hid hg1; have S1 := hid hs1; have hc1 := hr1.cell1; have hf1 := hr1.soft 1; clear hr1 hg1 hs1)
    go_returns
    refine ⟨rfl, ⟨?_, HO.out, by rw [HN.out]; omega⟩, G1.out.trans (grownBy_setCell ..), by simp [S1.out]⟩
    have := R1.out.set1 (k + 1)
    rw [HE.out] at this
    rw [HN.out]
    exact this
  · have hw : wt l.length b = b := by simp [wt, hp]
    rw [hw] at HE
    have hq : (((l.length : Int) % 2) == 0) = false := by simp; omega
    clear hw
    generalize hk : l.length = k at *
    go_enter Tryz.func141, Tryz.ntmps141
    go_wp2_with (go_at_call 157; refine (plus_any _ c t k _ H.out HB (by omega)).mono ?_; rintro e w1 ⟨rfl, hr1, hg1, hs1⟩; have R1 := hid hr1; have G1 := hid hg1; have S1 := hid hs1; have hc1 := hr1.cell1; have hf1 := hr1.soft 1; clear hr1 hg1 hs1)
    go_returns
    refine ⟨rfl, ⟨?_, HO.out, by rw [HN.out]; omega⟩, G1.out.trans (grownBy_setCell ..), by simp [S1.out]⟩
    have := R1.out.set1 (k + 1)
    rw [HE.out] at this
    rw [HN.out]
    exact this
end Go.Proofs.YtbklpelikaapoaaGreatDoor

namespace Go.Proofs.YtbklpelikaapoaaGreatDoor
open Go.ChangeShapes Go.WideShapes Go.ChangeAt Go.RowKit
set_option linter.unusedVariables false
set_option linter.unusedSimpArgs false

theorem Row2.only {w : World} {c : Nat} {t n : Int} (h : Row2 w c t n) (o : Nat) (v : Value) (hc : w.cell? ⟨c, o, none⟩ = some v) : ∃ x, v = .int .i64 x := by
  unfold Row2 at h
  rw [cell_of_row w c o _ _ _ h] at hc
  match o, hc with
  | 0, hc => simp at hc; exact ⟨_, hc.symm⟩
  | 1, hc => simp at hc; exact ⟨_, hc.symm⟩
  | o + 2, hc => simp at hc
theorem SumAt.noU8 {w : World} {c : Nat} {l : List Int} (h : SumAt w c l) : NoU8 w c := by
  intro o x hx
  obtain ⟨y, hy⟩ := (sumAt_row h).only o _ hx
  simp at hy
theorem SumAt.lt {w : World} {c : Nat} {l : List Int} (h : SumAt w c l) : c < w.heap.size := (Array.getElem?_eq_some_iff.1 h.block).1
theorem SumAt.below {w w' : World} {c : Nat} {l : List Int} (h : SumAt w c l) (hb : Below w.heap.size w w') : SumAt w' c l := ⟨by rw [hb.block c h.lt]; exact h.block, h.oct, h.small⟩

/-- A text in memory: a slice, and its bytes4. -/
structure Txt4 where
  a : Option Addr
  n : Nat
  cap : Nat
  l : List Int
def Txt4.v (t : Txt4) : Value := .slice t.a t.n t.cap
def Txt4.none : Txt4 := ⟨.none, 0, 0, []⟩
def Txt4.ok (w : World) (t : Txt4) : Prop := Lies .u8 w t.a t.n t.cap t.l ∧ Oct t.l
def bytes4 (L : List Txt4) : List Int := L.flatMap (·.l)
/-- A slice of texts. -/
def Texts4 (w : World) (a : Option Addr) (n cap : Nat) (L : List Txt4) : Prop :=
  L.length = n ∧ n ≤ cap ∧ cap ≤ maxLen ∧ (∀ k, k < n → ∃ b off, a = some ⟨b, off, .none⟩ ∧ w.cell? ⟨b, off + k, .none⟩ = some (L.getD k Txt4.none).v) ∧ ∀ t ∈ L, t.ok w

theorem Txt4.ok.below {w w' : World} {t : Txt4} (h : t.ok w) (hb : Below w.heap.size w w') : t.ok w' := ⟨h.1.below hb, h.2⟩
theorem Texts4.below {w w' : World} {a : Option Addr} {n cap : Nat} {L : List Txt4} (h : Texts4 w a n cap L) (hb : Below w.heap.size w w') : Texts4 w' a n cap L := by
  refine ⟨h.1, h.2.1, h.2.2.1, fun k hk => ?_, fun t ht => (h.2.2.2.2 t ht).below hb⟩
  obtain ⟨b, off, he, hc⟩ := h.2.2.2.1 k hk
  exact ⟨b, off, he, (hb.cell (p := ⟨b, off + k, none⟩) (World.block_lt_of_cell? w _ hc)).trans hc⟩
theorem Texts4.grown {w w' : World} {c : Nat} {a : Option Addr} {n cap : Nat} {L : List Txt4} {t m : Int} (h : Texts4 w a n cap L) (hr : Row2 w c t m) (hg : w.grownBy w' (some c)) : Texts4 w' a n cap L := by
  have hno : NoU8 w c := by
    intro o x hx
    obtain ⟨y, hy⟩ := hr.only o _ hx
    simp at hy
  refine ⟨h.1, h.2.1, h.2.2.1, fun k hk => ?_, fun t ht => ⟨(h.2.2.2.2 t ht).1.grown hno hg, (h.2.2.2.2 t ht).2⟩⟩
  obtain ⟨b, off, he, hc⟩ := h.2.2.2.1 k hk
  refine ⟨b, off, he, hg.cell hc ?_⟩
  intro e
  obtain rfl := Option.some.inj e
  obtain ⟨y, hy⟩ := hr.only _ _ hc
  simp [Txt4.v] at hy
theorem bytes_snoc4 (L : List Txt4) (k : Nat) (h : k < L.length) : bytes4 (L.take (k + 1)) = bytes4 (L.take k) ++ (L.getD k Txt4.none).l := by
  rw [bytes4, bytes4, List.take_succ_eq_append_getElem h, List.flatMap_append]; congr 1; simp [h]
theorem bytes_take_le4 (L : List Txt4) (k : Nat) : (bytes4 (L.take k)).length ≤ (bytes4 L).length := by
  have : bytes4 L = bytes4 (L.take k) ++ bytes4 (L.drop k) := by rw [bytes4, bytes4, bytes4, ← List.flatMap_append, List.take_append_drop]
  rw [this, List.length_append]; omega
theorem take_snoc (l : List Int) (k : Nat) (h : k < l.length) : l.take (k + 1) = l.take k ++ [l.getD k 0] := by
  rw [List.take_succ_eq_append_getElem h]; simp [h]

set_option maxHeartbeats 800000 in
theorem add_any (w : World) (c : Nat) (l0 : List Int) (a : Option Addr) (n cap : Nat) (L : List Txt4) (h : SumAt w c l0) (hL : Texts4 w a n cap L) (hs : l0.length + (bytes4 L).length ≤ 10000000) :
    Calls Tryz.prog 127 #[.pointer (some ⟨c, 0, none⟩), .slice a n cap] w fun e w' => e = .returned (.tuple #[]) ∧ SumAt w' c (l0 ++ bytes4 L) ∧ w.grownBy w' (some c) ∧ w'.heap.size = w.heap.size := by
  have H := hid h
  have HL := hid hL
  have HS := hid hs
  have hcm : n ≤ maxLen := Nat.le_trans hL.2.1 hL.2.2.1
  unfold maxLen at hcm
  clear h hL hs
  go_enter Tryz.func127, Tryz.ntmps127
  go_wp2_with fail
  go_loopw [12] (fun i wr => ∃ k : Nat, k ≤ n ∧ i = .int .i64 k ∧ Hid (SumAt wr c (l0 ++ bytes4 (L.take k))) ∧ Hid (w.grownBy wr (some c)) ∧ Hid (wr.heap.size = w.heap.size)) (fun i _ => n - (intOf i).toNat)
  case atStart => exact ⟨0, Nat.zero_le _, rfl, by simpa [bytes4, Hid] using H.out, World.grownBy.refl _ _, rfl⟩
  case round =>
    obtain ⟨k, hk, rfl, hS, hG, hZ⟩ := hrel
    by_cases hlt : k < n
    · have hT := HL.out.grown (sumAt_row H.out) hG.out
      obtain ⟨b, off, rfl, hcell⟩ := hT.2.2.2.1 k hlt
      have hkl : k < L.length := by rw [HL.out.1]; exact hlt
      have hok := hT.2.2.2.2 (L.getD k Txt4.none) (by simp [hkl])
      have HB := hid (bytes_snoc4 L k hkl)
      have HQ : Hid (l0.length + (bytes4 (L.take k) ++ (L.getD k Txt4.none).l).length ≤ 10000000) := by
        rw [Hid, ← HB.out]; have := bytes_take_le4 L (k + 1); have := HS.out; omega
      clear hT hkl
      generalize L.getD k Txt4.none = t at *
      obtain ⟨ta, tn, tc, tl⟩ := t
      have HT := hid hok
      have htm : tn ≤ maxLen := Nat.le_trans hok.1.2.1 hok.1.2.2.1
      unfold maxLen at htm
      simp only [Txt4.v] at hcell
      clear hok
      generalize bytes4 (L.take k) = B at *
      go_wp2_with fail
      go_loopw [18] (fun i wq => ∃ j : Nat, j ≤ tn ∧ i = .int .i64 j ∧ Hid (SumAt wq c (l0 ++ B ++ tl.take j)) ∧ Hid (wr.grownBy wq (some c)) ∧ Hid (wq.heap.size = wr.heap.size)) (fun i _ => tn - (intOf i).toNat)
      case atStart => exact ⟨0, Nat.zero_le _, rfl, by simpa [Hid] using hS.out, World.grownBy.refl _ _, rfl⟩
      case round =>
        obtain ⟨j, hj, rfl, hS2, hG2, hZ2⟩ := hrel
        by_cases hlj : j < tn
        · have hT2 := HT.out.1.grown hS.out.noU8 hG2.out
          obtain ⟨b2, off2, rfl, hcell2⟩ := hT2.2.2.2.2 j hlj
          have hjl : j < tl.length := by rw [HT.out.1.1]; exact hlj
          have hx := HT.out.2.at j hjl
          have HA := hid (take_snoc tl j hjl)
          have HN : Hid ((l0 ++ B ++ tl.take j).length < 10000000) := by
            have := HQ.out
            simp only [Hid, List.length_append, List.length_take] at this ⊢
            omega
          clear hT2 hjl
          generalize tl.getD j 0 = x at *
          go_wp2_with fail
          refine (addByte_any _ c _ x hS2.out hx HN.out).mono ?_
          rintro e w3 ⟨rfl, h3, hg3, hs3⟩
          have S3 := hid h3
          have G3 := hid hg3
          have Z3 := hid hs3
          clear h3 hg3 hs3
          go_wp2_with fail
          go_roundw
          case rel => exact ⟨j + 1, by omega, by go_num, by rw [Hid, HA.out, ← List.append_assoc]; exact S3.out, hG2.out.trans G3.out, Z3.out.trans hZ2.out⟩
          case measure => simp [intOf]; omega
        · obtain rfl : j = tn := by omega
          go_wp2_with fail
          go_roundw
          case rel => exact ⟨k + 1, by omega, by go_num, by have := hS2.out; rw [List.take_of_length_le (by rw [HT.out.1.1]; exact Nat.le_refl _), List.append_assoc] at this; rw [Hid, HB.out]; exact this, hG.out.trans hG2.out, hZ2.out.trans hZ.out⟩
          case measure => simp [intOf]; omega
    · obtain rfl : k = n := by omega
      go_wp2_with fail
      go_returns
      refine ⟨rfl, ?_, hG.out, hZ.out⟩
      have := hS.out
      rwa [List.take_of_length_le (by rw [HL.out.1]; exact Nat.le_refl _)] at this

theorem sumAt_new (w : World) : SumAt (w.alloc (.cells #[.int .i64 0, .int .i64 0] 207)) w.heap.size [] := ⟨heap_alloc_new w _, (fun x hx => by cases hx), by simp⟩

theorem of_any (w : World) (a : Option Addr) (n cap : Nat) (L : List Txt4) (hL : Texts4 w a n cap L) (hs : (bytes4 L).length ≤ 10000000) :
    Calls Tryz.prog 97 #[.slice a n cap] w fun e w' => e = .returned (.int .i64 (65535 - sumV (bytes4 L))) ∧ Below w.heap.size w w' := by
  have HL := hid hL
  have HS := hid hs
  have HB := sumV_bd (bytes4 L)
  clear hL hs
  have hb0 : Below w.heap.size w (w.alloc (.cells #[.int .i64 0, .int .i64 0] 207)) := (Below.refl _ _).alloc (Nat.le_refl _) _
  have HL0 := hid (HL.out.below hb0)
  have S0 := hid (sumAt_new w)
  have B0 := hid hb0
  clear hb0
  go_enter Tryz.func97, Tryz.ntmps97
  go_wp2_with fail
  refine (add_any _ w.heap.size [] a n cap L S0.out HL0.out (by have := HS.out; simpa using this)).mono ?_
  rintro e w1 ⟨rfl, hs1, hg1, hz1⟩
  have S1 := hid hs1
  have B1 := hid (bgrown B0.out hg1 (Nat.le_refl _))
  clear hs1 hg1 hz1
  rw [List.nil_append] at S1
  go_wp2_with fail
  refine (value_any _ _ _ S1.out).mono ?_
  rintro e w1 ⟨rfl, rfl⟩
  generalize hsv : sumV (bytes4 L) = s at *
  have HV := hid hsv
  clear hsv
  go_wp2_with fail
  go_ret
  exact ⟨ret_int (by rw [HV.out]), B1.out⟩

theorem texts_two (w : World) (s t : Txt4) (hs : s.ok w) (h : t.ok w) : Texts4 (w.alloc (.cells #[s.v, t.v] 30)) (some ⟨w.heap.size, 0, none⟩) 2 2 [s, t] := by
  refine ⟨rfl, Nat.le_refl _, by decide, fun k hk => ⟨w.heap.size, 0, rfl, ?_⟩, ?_⟩
  · have := World.news_of_block (heap_alloc_new w (.cells #[s.v, t.v] 30)) k ([s, t].getD k Txt4.none).v (by
      match k, hk with
      | 0, _ => rfl
      | 1, _ => rfl)
    rwa [Addr.add_lit] at this
  · intro t' ht
    have hb : Below w.heap.size w (w.alloc (.cells #[s.v, t.v] 30)) := (Below.refl _ _).alloc (Nat.le_refl _) _
    simp at ht
    rcases ht with rfl | rfl
    · exact hs.below hb
    · exact h.below hb
end Go.Proofs.YtbklpelikaapoaaGreatDoor

namespace Go.Proofs.YtbklpelikaapoaaGreatDoor
open Go.ChangeShapes Go.WideShapes Go.ChangeAt Go.RowKit
set_option linter.unusedVariables false
set_option linter.unusedSimpArgs false

end Go.Proofs.YtbklpelikaapoaaGreatDoor

namespace Go.Proofs.YtbklpelikaapoaaGreatDoor
open Go.ChangeShapes Go.WideShapes Go.ChangeAt Go.RowKit
set_option linter.unusedVariables false
set_option linter.unusedSimpArgs false

theorem info27 : (Tryz.prog.info? 30).map (fun i => (i.zero, i.size, i.bytes)) = some (some (.slice none 0 0), 1, 24) := by kernel_rfl

/-- Rows of different kinds lie apart. -/
theorem own_apart4 {w : World} {base base' : Nat} {e e' : TypeId} {size size' : Nat} {v v' : Value} {n n' : Nat} {xs xs' : List Value} (h : w.ownsRow base e size v n xs) (h' : w.ownsRow base' e' size' v' n' xs') (hne : e ≠ e') : v.ownBlock = none ∨ v.ownBlock ≠ v'.ownBlock := by
  rcases h.2 with ⟨rfl, _⟩ | ⟨g, cap, cur, rfl, _, hg, _⟩
  · exact .inl rfl
  · refine .inr ?_
    rcases h'.2 with ⟨rfl, _⟩ | ⟨g', cap', cur', rfl, _, hg', _⟩
    · simp [Value.ownBlock]
    · simp only [Value.ownBlock]
      intro he
      obtain rfl := Option.some.inj he
      rw [hg] at hg'
      simp at hg'
      exact hne hg'.2
theorem SumAt.kept {w w' : World} {row : Option Nat} {c : Nat} {l : List Int} (hs : SumAt w c l) (hg : w.grownBy w' row) (hne : row ≠ some c) : SumAt w' c l := ⟨by rw [hg.block c hs.lt (fun e => hne e.symm)]; exact hs.block, hs.oct, hs.small⟩
/-- An append onto a row of the call's own, from wherever: what it writes. -/
theorem wpList_append_own_by4 {P : Program} (w : World) {ops : Array Oper} {rest : List Oper} {o : Oper} {a : Act} {Q : Exit → Act → World → Prop} (hgd : o.guard = none) (s x : Operand) (t : TypeId)
    (ho : o.op = .call { callee := .builtin .append, args := #[s, x], argTypes := #[t, t] })
    (base : Nat) (e : TypeId) (i : TypeInfo) (z : Value) (size bytes4 : Nat) (ht : P.underlying t = some (.slice e)) (hi : P.info? e = some i) (hz : i.zero = some z)
    (hsize : i.size = size) (hby : i.bytes = bytes4) (hzs : z.cells.size = size) (hsz : 0 < size)
    (v : Value) (n : Nat) (xs : List Value) (hs : a.eval s = v) (hown : w.ownsRow base e size v n xs)
    (ao : Option Addr) (m c : Nat) (news : List Value) (hx : a.eval x = .slice ao m c) (hl : news.length = m * size) (hnone : ao = none → m = 0 ∧ c = 0) (hnews : ∀ ad, ao = some ad → ∀ j u, news[j]? = some u → w.cell? (ad.add j) = some u) (h1 : ∀ u ∈ news, u.oneCell' = true)
    (h63 : n + m ≤ maxLen) (hbytes : (n + m) * bytes4 ≤ 140737488355328) (hbase : base ≤ w.heap.size)
    (h : ∀ v' w', w'.ownsRow base e size v' (n + m) (xs ++ news) → w.grownBy w' v.ownBlock → wpList P ops Q rest (a.put o.dst v') w') : wpList P ops Q (o :: rest) a w := by
  cases ao with
  | some ad =>
    refine wpList_append_own w hgd s x t ho base e i z size bytes4 ht hi hz hsize hby hzs hsz v n xs hs hown ad m c news hx hl (hnews ad rfl) h1 h63 hbytes hbase ?_
    intro v' w' h2 h3 _
    exact h v' w' h2 h3
  | none =>
    obtain ⟨rfl, rfl⟩ := hnone rfl
    have hn : news = [] := List.eq_nil_of_length_eq_zero (by simpa using hl)
    subst hn
    refine wpList_append_own_none hgd s x t ho base e i size ht hi v n xs hs hown hx ?_
    exact h v w (by simpa using hown) (World.grownBy.refl _ _)

theorem bown4 {w w1 w2 : World} {e : TypeId} {size : Nat} {v : Value} {n : Nat} {xs : List Value} (h : Below w.heap.size w w1) (ho : w1.ownsRow w.heap.size e size v n xs) (k : w1.grownBy w2 v.ownBlock) : Below w.heap.size w w2 :=
  Below.grown h k h.size (fun j hj => (ho.lt j hj).1)

/-- A row of texts of the call's own. -/
theorem owns_texts4 {w : World} {base : Nat} {v : Value} {T : List Txt4} (h : w.ownsRow base 30 1 v T.length (T.map Txt4.v)) (hok : ∀ t ∈ T, t.ok w) : ∃ a cap, v = .slice a T.length cap ∧ Texts4 w a T.length cap T := by
  rcases h.2 with ⟨rfl, hn⟩ | ⟨g, cap, cur, rfl, hb, hg, hnc, hcm, hcs, hx⟩
  · exact ⟨none, 0, by rw [hn], rfl, by omega, by decide, fun k hk => by omega, hok⟩
  · refine ⟨_, cap, rfl, rfl, hnc, hcm, fun k hk => ⟨g, 0, rfl, ?_⟩, hok⟩
    rw [Nat.zero_add, cell_of_row w g k cur 30 (0, 0) hg]
    have h1 : (cur.toList.take (T.length * 1))[k]? = (T.map Txt4.v)[k]? := by rw [hx]
    rw [List.getElem?_take, if_pos (by omega)] at h1
    simp [hk] at h1
    simp [h1, hk]

def cutT (t : Txt4) : Txt4 := ⟨t.a, min t.n 300, t.cap, t.l.take (min t.n 300)⟩
def cutL (L : List Txt4) (k : Nat) : List Txt4 := (L.take k).map cutT
theorem cutT_ok {w : World} {t : Txt4} (h : t.ok w) : (cutT t).ok w := ⟨h.1.pre (min t.n 300) (Nat.min_le_left ..), oct_take4 h.2 _⟩
theorem cutL_snoc (L : List Txt4) (k : Nat) (h : k < L.length) : cutL L (k + 1) = cutL L k ++ [cutT (L.getD k Txt4.none)] := by
  rw [cutL, cutL, List.take_succ_eq_append_getElem h, List.map_append]; simp [h]
theorem cutL_length (L : List Txt4) (k : Nat) (h : k ≤ L.length) : (cutL L k).length = k := by simp [cutL]; omega
theorem bytes_app4 (S T : List Txt4) : bytes4 (S ++ T) = bytes4 S ++ bytes4 T := List.flatMap_append
theorem bytes_cutL (L : List Txt4) (k : Nat) : (bytes4 (cutL L k)).length ≤ 300 * k := by
  induction k with
  | zero => simp [cutL, bytes4]
  | succ k ih =>
    by_cases h : k < L.length
    · rw [cutL_snoc L k h, bytes_app4, List.length_append]
      have : (bytes4 [cutT (L.getD k Txt4.none)]).length ≤ 300 := by simp [bytes4, cutT]; omega
      omega
    · have : cutL L (k + 1) = cutL L k := by unfold cutL; rw [List.take_of_length_le (by omega), List.take_of_length_le (by omega)]
      rw [this]; omega

end Go.Proofs.YtbklpelikaapoaaGreatDoor

namespace Go.Proofs.YtbklpelikaapoaaGreatDoor
open Go.ChangeShapes Go.WideShapes Go.ChangeAt Go.RowKit
set_option linter.unusedVariables false
set_option linter.unusedSimpArgs false

theorem zeros_size (n : Nat) : (Builtin.zeroCells (Value.int IntKind.u8 0).cells n).size = n := by
  simp [Builtin.zeroCells, Value.cells]

set_option maxRecDepth 100000 in
theorem grow_nil (k : Nat) (w : World) (h0 : 0 < k) (hk : k ≤ 100000) :
    Calls Tryz.prog 79 #[.slice none 0 0, .int .i64 k] w fun e w' => ∃ v, e = .returned v ∧ w'.ownsRow w.heap.size 5 1 v 0 [] ∧ Below w.heap.size w w' := by
  obtain ⟨i0, hi, hz0, hz1, hz2⟩ := info_parts info5
  have hrun := fun ty => Lib.run_append_nil_zeros (P := Tryz.prog) w 30 3 ty 5 i0 (.int .u8 0) .i64 .i64 Tryz.underlying30 Tryz.underlying3 hi hz0 k h0 (by rw [hz1]; omega) (by omega) (by rw [hz2]; omega)
  have hge := grownCap_ge w k 0 5
  have hle := grownCap_le_maxLen w k 0 5 (by unfold maxLen; omega)
  have hO : Hid ((w.drew.alloc (.cells (Builtin.zeroCells (Value.int .u8 0).cells k ++ Builtin.zeroCells (Value.int .u8 0).cells (grownCap w k 0 5 - k)) 5)).ownsRow w.heap.size 5 1 (.slice (some ⟨w.heap.size, 0, none⟩) 0 (grownCap w k 0 5)) 0 []) := by
    refine ⟨by simp, .inr ⟨w.heap.size, _, _, rfl, Nat.le_refl _, heap_alloc_new w.drew _, by omega, hle, ?_, by simp⟩⟩
    rw [Array.size_append, zeros_size, zeros_size]; omega
  have HB : Hid (Below w.heap.size w (w.drew.alloc (.cells (Builtin.zeroCells (Value.int .u8 0).cells k ++ Builtin.zeroCells (Value.int .u8 0).cells (grownCap w k 0 5 - k)) 5))) := by
    have := bdrew (Below.refl w.heap.size w) 1
    exact balloc this _
  have HR := hid hrun
  unfold maxLen at hle
  clear hrun
  generalize grownCap w k 0 5 = g at *
  generalize (w.drew.alloc (.cells (Builtin.zeroCells (Value.int .u8 0).cells k ++ Builtin.zeroCells (Value.int .u8 0).cells (g - k)) 5)) = w1 at *
  go_enter Tryz.func79, Tryz.ntmps79
  go_wp2_with (at_builtin; refine Lib.wpList_append_run _ rfl _ _ _ _ rfl _ _ rfl rfl _ _ (HR.out _) ?_)
  go_ret
  exact ⟨_, rfl, hO.out, HB.out⟩

theorem grow_zero (w : World) :
    Calls Tryz.prog 79 #[.slice none 0 0, .int .i64 0] w fun e w' => e = .returned (.slice none 0 0) ∧ w' = w := by
  go_enter Tryz.func79, Tryz.ntmps79
  go_wp2
  go_ret
  exact ⟨rfl, rfl⟩
theorem grow_any (k : Nat) (w : World) (hk : k ≤ 100000) :
    Calls Tryz.prog 79 #[.slice none 0 0, .int .i64 k] w fun e w' => ∃ v, e = .returned v ∧ w'.ownsRow w.heap.size 5 1 v 0 [] ∧ Below w.heap.size w w' := by
  rcases Nat.eq_zero_or_pos k with rfl | h
  · refine (grow_zero w).mono ?_
    rintro e w' ⟨rfl, rfl⟩
    exact ⟨_, rfl, World.ownsRow_nil _ _ _ _, Below.refl _ _⟩
  · exact grow_nil k w h hk
set_option maxRecDepth 100000 in
set_option maxHeartbeats 800000 in
theorem concat_all (w : World) (a : Option Addr) (n cap : Nat) (L : List Txt4) (hL : Texts4 w a n cap L) (hs : (bytes4 L).length ≤ 100000) :
    Calls Tryz.prog 49 #[.slice a n cap] w fun e w' => ∃ v, e = .returned v ∧ w'.ownsRow w.heap.size 5 1 v (bytes4 L).length (u8s (bytes4 L)) ∧ Below w.heap.size w w' := by
  have HL := hid hL
  have hcm : n ≤ maxLen := Nat.le_trans hL.2.1 hL.2.2.1
  unfold maxLen at hcm
  have HM : Hid (∀ k, (bytes4 (L.take k)).length ≤ 100000) := fun k => Nat.le_trans (bytes_take_le4 L k) hs
  have HS := hid hs
  obtain ⟨i0, hi, hz0, hz1, hz2⟩ := info_parts info5
  clear hL hs
  go_enter Tryz.func49, Tryz.ntmps49
  go_wp2_with fail
  go_loop [3, 11] (fun v i => ∃ k : Nat, k ≤ n ∧ i = .int .i64 k ∧ v = .int .i64 (bytes4 (L.take k)).length) (fun _ i => n - (intOf i).toNat)
  case atStart => exact ⟨0, Nat.zero_le _, rfl, by simp [bytes4]⟩
  case round =>
    obtain ⟨k, hk, rfl, rfl⟩ := hrel
    by_cases hlt : k < n
    · obtain ⟨b, off, rfl, hcell⟩ := HL.out.2.2.2.1 k hlt
      have hkl : k < L.length := by rw [HL.out.1]; exact hlt
      have hok := HL.out.2.2.2.2 (L.getD k Txt4.none) (by simp [hkl])
      have HB : Hid ((bytes4 (L.take (k + 1))).length = (bytes4 (L.take k)).length + (L.getD k Txt4.none).n) := by rw [Hid, bytes_snoc4 L k hkl, List.length_append, hok.1.1]
      have hm1 := HM.out (k + 1)
      rw [HB.out] at hm1
      clear hok hkl
      generalize L.getD k Txt4.none = t at *
      obtain ⟨ta, tn, tc, tl⟩ := t
      simp only [Txt4.v] at hcell HB hm1
      generalize (bytes4 (L.take k)).length = m at *
      have hd : decide (((m : Int) + (tn : Int)) < 0) = false := by simp; omega
      go_wp2_with fail
      go_round
      case rel => exact ⟨k + 1, by omega, by go_num, by rw [HB.out]; go_num⟩
      case measure => simp [intOf]; omega
    · obtain rfl : k = n := by omega
      have hd : decide ((k : Int) < (k : Int)) = false := by simp
      rw [List.take_of_length_le (by rw [HL.out.1]; exact Nat.le_refl _)]
      generalize hbn : (bytes4 L).length = bn at *
      have Hbn := hid hbn
      clear hbn
      go_wp2_with fail
      refine (grow_any bn _ HS.out).mono ?_
      rintro e w1 ⟨v1, rfl, hown1, hb1⟩
      have O1 := hid hown1
      have B1 := hid hb1
      clear hown1 hb1
      go_wp2_with fail
      go_loopw [6, 27] (fun v i wr => ∃ j : Nat, j ≤ k ∧ i = .int .i64 j ∧ Hid (wr.ownsRow w.heap.size 5 1 v (bytes4 (L.take j)).length (u8s (bytes4 (L.take j)))) ∧ Hid (Below w.heap.size w wr)) (fun _ i _ => k - (intOf i).toNat)
      case atStart => exact ⟨0, Nat.zero_le _, rfl, by simpa [bytes4, u8s, Hid] using O1.out, B1.out⟩
      case round =>
        obtain ⟨j, hj, rfl, hO, hB⟩ := hrel
        by_cases hlj : j < k
        · obtain ⟨b, off, rfl, hcell⟩ := (HL.out.below hB.out).2.2.2.1 j hlj
          have hkl : j < L.length := by rw [HL.out.1]; exact hlj
          have hok := HL.out.2.2.2.2 (L.getD j Txt4.none) (by simp [hkl])
          have HJ := hid (bytes_snoc4 L j hkl)
          have hm1 := HM.out (j + 1)
          rw [HJ.out, List.length_append, hok.1.1] at hm1
          clear hkl
          generalize L.getD j Txt4.none = t at *
          obtain ⟨ta, tn, tc, tl⟩ := t
          have HT := hid hok.1
          simp only [Txt4.v] at hcell HJ hm1 HT
          clear hok
          generalize bytes4 (L.take j) = M at *
          generalize hMn : M.length = mn at *
          have HMn := hid hMn
          clear hMn
          go_wp2_with (at_builtin; refine wpList_append_own_any _ rfl _ _ 30 rfl w.heap.size 5 i0 (.int .u8 0) 1 1 Tryz.underlying30 hi hz0 hz1 hz2 rfl (by decide) _ _ _ rfl hO.out ta tn tc (u8s tl) rfl ?c1 ?c2 ?c3 (ints_oneCell8 _ _) ?c4 ?c5 ?c6 ?_)
          case c1 => simp [u8s]; exact HT.out.1
          case c2 => exact HT.out.isNil
          case c3 => exact (HT.out.below hB.out).cells
          case c4 => unfold maxLen; omega
          case c5 => omega
          case c6 => exact hB.out.size
          intro v5 w5 hown5 hb5
          have O5 := hid hown5
          have B5 := hid (hB.out.trans hb5)
          clear hown5 hb5
          go_wp2_with fail
          go_roundw
          case rel => exact ⟨j + 1, by omega, by go_num, by rw [Hid, HJ.out]; exact ownsRow_u8 O5.out (by rw [List.length_append, HMn.out, HT.out.1]) (by simp [u8s]), B5.out⟩
          case measure => simp [intOf]; omega
        · obtain rfl : j = k := by omega
          go_wp2_with fail
          go_ret
          refine ⟨_, rfl, ?_, hB.out⟩
          have := hO.out
          rwa [List.take_of_length_le (by rw [HL.out.1]; exact Nat.le_refl _)] at this
theorem concat_any (w : World) (a : Option Addr) (n cap : Nat) (L : List Txt4) (hL : Texts4 w a n cap L) (h0 : 0 < (bytes4 L).length) (hs : (bytes4 L).length ≤ 100000) :
    Calls Tryz.prog 49 #[.slice a n cap] w fun e w' => ∃ v, e = .returned v ∧ w'.ownsRow w.heap.size 5 1 v (bytes4 L).length (u8s (bytes4 L)) ∧ Below w.heap.size w w' := concat_all w a n cap L hL hs
end Go.Proofs.YtbklpelikaapoaaGreatDoor
