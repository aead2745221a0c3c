/- What header's written answers: a contract. -/
import Derived.Test.YtmpkemlnpmephaaChk
namespace Go.Proofs.Ytmpkemlnpmephaa
open Go.ChangeShapes Go.WideShapes Go.ChangeAt Go.RowKit
set_option linter.unusedVariables false
set_option linter.unusedSimpArgs false

/-- The first 32 bits. -/
def word (h : Hd) : Int := 1610612736 + h.c * 1048576 + h.fl
/-- The first eight bytes. -/
def hd8 (h : Hd) : List Int := bytesOf 4 [word h] ++ bytesOf 2 [h.ln] ++ bytesOf 1 [h.nx, h.hp]
/-- A header's bytes. -/
def hdrL (h : Hd) : List Int := hd8 h ++ (h.f ++ h.t)
theorem hd8_len (h : Hd) : (hd8 h).length = 8 := by
  rw [hd8, List.length_append, List.length_append, bytesOf_length 4 _ rfl, bytesOf_length 2 _ rfl, bytesOf_length 1 _ rfl]; rfl
theorem hdrL_len {h : Hd} (k : h.ok) : (hdrL h).length = 40 := by
  rw [hdrL, List.length_append, List.length_append, hd8_len, k.1.1, k.2.1]
theorem hdrL_oct {h : Hd} (k : h.ok) : Oct (hdrL h) := (((bytesOf_oct _ _).app (bytesOf_oct _ _)).app (bytesOf_oct _ _)).app (k.1.2.app k.2.2)

theorem or28 (c : Int) (h0 : 0 ≤ c) (h1 : c ≤ 255) : bits .or .i64 1610612736 (c * 1048576) = 1610612736 + c * 1048576 :=
  bits_join .i64 62 (by decide) wraps_i64 28 1610612736 (c * 1048576) (by omega) (by omega) (by omega) (by omega) (by omega) (by omega)
theorem or20 (c fl : Int) (h0 : 0 ≤ c) (h1 : c ≤ 255) (h2 : 0 ≤ fl) (h3 : fl ≤ 1048575) : bits .or .i64 (1610612736 + c * 1048576) fl = 1610612736 + c * 1048576 + fl :=
  bits_join .i64 62 (by decide) wraps_i64 20 (1610612736 + c * 1048576) fl (by omega) (by omega) (by omega) (by omega) (by omega) (by omega)

theorem fits4 {x : Int} (h0 : 0 ≤ x) (h1 : x < 4294967296) : fitsB 4 [x] = true := by simp [fitsB, okB, top, sizeB]; omega
theorem fits2' {x : Int} (h0 : 0 ≤ x) (h1 : x ≤ 65535) : fitsB 2 [x] = true := by rw [fits2]; simp; omega
theorem fits1' {x y : Int} (h0 : 0 ≤ x ∧ x ≤ 255) (h1 : 0 ≤ y ∧ y ≤ 255) : fitsB 1 [x, y] = true := by simp [fitsB, okB, top, sizeB]; omega

set_option maxHeartbeats 800000 in
theorem written_any (h : Hd) (k : h.ok) (ho : okH h = true) (w : World) :
    Calls Try.prog 18 #[.agg h.cs] w fun e w' => ∃ v, e = .returned v ∧ w'.ownsRow w.heap.size 5 1 v 40 (u8s (hdrL h)) ∧ Below w.heap.size w w' := by
  obtain ⟨⟨a0, a1⟩, ⟨b0, b1⟩, ⟨c0, c1⟩, ⟨d0, d1⟩, e0, e1⟩ := okH_yes ho
  have HR0 := hid (Row.new w 28 h.cs)
  have B0 := hid (balloc (Below.refl w.heap.size w) (.cells h.cs 28))
  have q1 := or28 h.c a0 a1
  have q2 := or20 h.c h.fl a0 a1 b0 b1
  have HX : Hid (word h = 1610612736 + h.c * 1048576 + h.fl) := rfl
  have x0 : 0 ≤ word h := by rw [HX.out]; omega
  have x1 : word h < 4294967296 := by rw [HX.out]; omega
  rw [← HX.out] at q2
  have HL : Hid (hdrL h = (bytesOf 4 [word h] ++ bytesOf 2 [h.ln] ++ bytesOf 1 [h.nx, h.hp]) ++ (h.f ++ h.t)) := rfl
  generalize hdrL h = HH at *
  generalize word h = X at *
  clear HX ho
  go_enter Try.func18, Try.ntmps18
  go_upto_region 1 with fail
  generalize (w.alloc (.cells h.cs 28)) = w1 at *
  have p0 := (HR0.out.cell 0).trans h.at0
  have p1 := (HR0.out.cell 1).trans h.at1
  go_wp2_with fail
  have L1 := hid (lies_new .i64 w1 #[.int .i64 X] 3 [X] rfl (by simp))
  have R1 := hid (HR0.out.alloc (.cells #[.int .i64 X] 3))
  have B1 := hid (balloc B0.out (.cells #[.int .i64 X] 3))
  generalize w1.alloc (.cells #[.int .i64 X] 3) = w2 at *
  refine (put_ok none _ 0 0 1 1 4 [] [X] _ (Lies.nil _ _) L1.out (fits4 x0 x1) (by simp)).mono ?_
  rintro e w3 ⟨v3, rfl, hown, hb⟩
  rw [List.nil_append] at hown
  have n3 : (bytesOf 4 [X]).length = 4 := bytesOf_length 4 _ rfl
  obtain ⟨A, hA⟩ : ∃ A, A = bytesOf 4 [X] := ⟨_, rfl⟩
  rw [← hA] at hown n3
  have HA := hid hA
  obtain ⟨a3, cap3, rfl, hl3, _⟩ := owns_lies hown
  rw [n3] at hl3 ⊢
  have R3 := hid (R1.out.below hb)
  have B3 := hid (bthen B1.out hb)
  have L3 := hid hl3
  have m2 := (R3.out.cell 2).trans h.at2
  clear hown hb hl3 hA p0 p1 q1 q2 L1 R1 B1 HR0 B0
  go_wp2_with fail
  have I3 := hid (lies_new .i64 w3 #[.int .i64 h.ln] 3 [h.ln] rfl (by simp))
  have R4 := hid (R3.out.alloc (.cells #[.int .i64 h.ln] 3))
  have B4 := hid (balloc B3.out (.cells #[.int .i64 h.ln] 3))
  have L4 := hid (L3.out.below (balloc (Below.refl _ _) (.cells #[.int .i64 h.ln] 3)))
  clear m2 R3 B3 L3
  generalize w3.alloc (.cells #[.int .i64 h.ln] 3) = w4 at *
  refine (put_ok _ _ _ _ 1 1 2 A [h.ln] _ L4.out I3.out (fits2' c0 c1) (by decide)).mono ?_
  rintro e w5 ⟨v5, rfl, hown, hb⟩
  have n5 : (A ++ bytesOf 2 [h.ln]).length = 6 := by rw [List.length_append, n3, bytesOf_length 2 _ rfl]; rfl
  obtain ⟨A2, hA2⟩ : ∃ A2, A2 = A ++ bytesOf 2 [h.ln] := ⟨_, rfl⟩
  rw [← hA2] at hown n5
  have HA2 := hid hA2
  obtain ⟨a5, cap5, rfl, hl5, _⟩ := owns_lies hown
  rw [n5] at hl5 ⊢
  have R5 := hid (R4.out.below hb)
  have B5 := hid (bthen B4.out hb)
  have L5 := hid hl5
  have m3 := (R5.out.cell 3).trans h.at3
  have m4 := (R5.out.cell 4).trans h.at4
  clear hown hb hl5 hA2 I3 R4 B4 L4
  go_wp2_with fail
  have I5 := hid (lies_new .i64 w5 #[.int .i64 h.nx, .int .i64 h.hp] 3 [h.nx, h.hp] rfl (by simp))
  have R6 := hid (R5.out.alloc (.cells #[.int .i64 h.nx, .int .i64 h.hp] 3))
  have B6 := hid (balloc B5.out (.cells #[.int .i64 h.nx, .int .i64 h.hp] 3))
  have L6 := hid (L5.out.below (balloc (Below.refl _ _) (.cells #[.int .i64 h.nx, .int .i64 h.hp] 3)))
  clear m3 m4 R5 B5 L5
  generalize w5.alloc (.cells #[.int .i64 h.nx, .int .i64 h.hp] 3) = w6 at *
  refine (put_ok _ _ _ _ 2 2 1 A2 [h.nx, h.hp] _ L6.out I5.out (fits1' ⟨d0, d1⟩ ⟨e0, e1⟩) (by decide)).mono ?_
  rintro e w7 ⟨v7, rfl, hown, hb⟩
  have n7 : (A2 ++ bytesOf 1 [h.nx, h.hp]).length = 8 := by rw [List.length_append, n5, bytesOf_length 1 _ rfl]; rfl
  obtain ⟨A3, hA3⟩ : ∃ A3, A3 = A2 ++ bytesOf 1 [h.nx, h.hp] := ⟨_, rfl⟩
  rw [← hA3] at hown n7
  have HA3 := hid hA3
  obtain ⟨a7, cap7, rfl, hl7, _⟩ := owns_lies hown
  rw [n7] at hl7 ⊢
  have R7 := hid (R6.out.below hb)
  have B7 := hid (bthen B6.out hb)
  have L7 := hid hl7
  clear hown hb hl7 hA3 I5 R6 B6 L6
  obtain ⟨i0, hi, hz0, hz1, hz2⟩ := info_parts info5
  go_wp2_with (at_make; refine wpList_make_full _ rfl _ _ 30 rfl w.heap.size 5 i0 (.int .u8 0) 1 Try.underlying30 hi hz0 hz1 .i64 .i64 _ _ 40 rfl rfl rfl rfl ?b1 ?b2 ?b3 ?_)
  case b1 => rw [hz2]; omega
  case b2 => unfold maxLen; omega
  case b3 => exact B7.out.size
  intro w8 hown8 hg8
  obtain ⟨cur, hcz, hrow⟩ : ∃ cur : List Value, cur.length = 40 ∧ Row w8 w7.heap.size 5 cur.toArray := by
    rcases hown8.2 with ⟨h1, h2⟩ | ⟨g, cap, cur, h1, h2, h3, h4, h5, h6, h7⟩
    · omega
    · simp at h1
      obtain ⟨h1, rfl⟩ := h1
      subst h1
      exact ⟨cur.toList, by simpa using h6, by simpa [Row] using h3⟩
  have b8 : Below w7.heap.size w7 w8 := Below.grown (Below.refl _ _) hg8 (Nat.le_refl _) (fun k hk => by cases hk)
  have hlt : w.heap.size < w7.heap.size := R7.out.lt
  have N8 := hid hrow
  have L8 := hid (L7.out.below b8)
  clear hown8 hg8 hrow
  obtain ⟨Y, hY⟩ : ∃ Y, Y = u8s A3 := ⟨_, rfl⟩
  have HY := hid hY
  have NY : Hid (Y.length = 8) := by rw [Hid, hY]; simp [u8s, n7]
  have HC := hid hcz
  clear hY hcz
  go_wp2_with (refine wpList_copy_splice rfl _ _ 30 30 rfl 5 Try.underlying30 (by kernel_rfl) _ _ _ _ _ _ rfl rfl w7.heap.size 0 cur 5 N8.out Y ?k1 ?k2 ?k3 ?k4 w7.heap.size w7 b8 (Nat.le_refl _) ?_)
  case k1 => rw [NY.out]; rfl
  case k2 =>
    intro _
    obtain ⟨b, off, e, _⟩ := L8.out.2.2.2.2 0 (by omega)
    exact ⟨_, e, by rw [HY.out]; exact L8.out.cells _ e⟩
  case k3 => rw [NY.out, HC.out]; omega
  case k4 => rw [HY.out]; exact ints_oneCell8 _ _
  intro w9 N9 b9
  have B9 := hid b9
  have N9l : Hid ((splice cur 0 Y).length = 40) := by rw [Hid, length_splice _ _ _ (by rw [NY.out, HC.out]; omega)]; exact HC.out
  have R9 := hid (R7.out.below b9)
  have F9 := hid (R9.out.partF k)
  obtain ⟨F, hF⟩ : ∃ F, F = u8s h.f := ⟨_, rfl⟩
  have HF := hid hF
  have NF : Hid (F.length = 16) := by rw [Hid, hF]; simp [u8s, k.1.1]
  obtain ⟨T, hT⟩ : ∃ T, T = u8s h.t := ⟨_, rfl⟩
  have HT := hid hT
  have NT : Hid (T.length = 16) := by rw [Hid, hT]; simp [u8s, k.2.1]
  clear N8 L8 b8 b9 hF hT
  go_wp2_with fail
  go_region_law (refine step_copy_splice rfl _ _ 30 30 rfl 5 Try.underlying30 (by kernel_rfl) _ _ _ _ _ _ rfl rfl w7.heap.size 8 (splice cur 0 Y) 5 N9.out F (by rw [NF.out]; rfl) (fun _ => ⟨rfl, _, rfl, by rw [HF.out]; exact (part_lies k.1 F9.out).cells _ rfl⟩) (by rw [NF.out, N9l.out]; omega) (by rw [HF.out]; exact ints_oneCell8 _ _) w7.heap.size w7 (bdrew B9.out 1) (Nat.le_refl _) ?_; intro w10 N10 b10)
  have B10 := hid b10
  have N10l : Hid ((splice (splice cur 0 Y) 8 F).length = 40) := by rw [Hid, length_splice _ _ _ (by rw [NF.out, N9l.out]; omega)]; exact N9l.out
  have R10 := hid (R7.out.below b10)
  have T10 := hid (R10.out.partT k)
  clear b10 N9 B9 R9 F9
  go_wp2_with fail
  go_region_law (refine step_copy_splice rfl _ _ 30 30 rfl 5 Try.underlying30 (by kernel_rfl) _ _ _ _ _ _ rfl rfl w7.heap.size 24 (splice (splice cur 0 Y) 8 F) 5 N10.out T (by rw [NT.out]; rfl) (fun _ => ⟨rfl, _, rfl, by rw [HT.out]; exact (part_lies k.2 T10.out).cells _ rfl⟩) (by rw [NT.out, N10l.out]; omega) (by rw [HT.out]; exact ints_oneCell8 _ _) w7.heap.size w7 (bdrew B10.out 1) (Nat.le_refl _) ?_; intro w11 N11 b11)
  have B11 := hid b11
  clear b11 N10 B10 R10 T10
  go_wp2_with fail
  go_ret
  refine ⟨_, rfl, ?_, bthen B7.out B11.out⟩
  have e := splice_splice_splice cur Y F T 8 16 NY.out NF.out (by rw [NT.out, HC.out])
  have hn : (u8s HH).length = 40 := by
    rw [HL.out, ← HA.out, ← HA2.out, ← HA3.out]; simp [u8s, n7, k.1.1, k.2.1]
  have e2 : splice (splice (splice cur 0 Y) 8 F) (8 + 16) T = u8s HH := by
    rw [e, HY.out, HF.out, HT.out, HL.out, ← HA.out, ← HA2.out, ← HA3.out]; simp [u8s]
  refine ⟨by omega, .inr ⟨w7.heap.size, 40, _, rfl, B7.out.size, N11.out, Nat.le_refl _, by decide, ?_, ?_⟩⟩
  · rw [e2]; simpa using hn
  · rw [e2]; simp; exact List.take_of_length_le (by omega)
end Go.Proofs.Ytmpkemlnpmephaa
