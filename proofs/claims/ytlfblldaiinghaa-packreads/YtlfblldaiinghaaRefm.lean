/- What the document's own Many answers: contracts. -/
import Derived.Test.YtlfblldaiinghaaRefc
namespace Go.Proofs.Ytlfblldaiinghaa
open Go.ChangeShapes Go.WideShapes Go.ChangeAt Go.RowKit
set_option linter.unusedVariables false
set_option linter.unusedSimpArgs false

set_option maxHeartbeats 800000 in
theorem refMany_was (w : World) (d : Nat) (a : Option Addr) (len cap : Nat) (l : List Int) (at_ : Nat) (er size n : Int) (h : RefAt w d a len cap l at_ er) (her : er ≠ 0) :
    Calls Try.prog 20 #[.pointer (some ⟨d, 0, none⟩), .int .i64 size, .int .i64 n] w fun e w' => e = .returned (.slice none 0 0) ∧ w' = w := by
  have h2 := h.cell2
  have her' : (er == 0) = false := by simp [her]
  clear h her
  by_cases hp : 0 < n
  · go_enter Try.func20, Try.ntmps20
    go_wp2
    refine wp_loop_rounds 1 ?_
    rw [rounds_succ]
    go_wp2
    go_ret
    exact ⟨rfl, rfl⟩
  · have hd : decide (0 < n) = false := by simp; omega
    go_enter Try.func20, Try.ntmps20
    go_wp2
    refine wp_loop_rounds 1 ?_
    rw [rounds_succ]
    go_wp2
    go_ret
    exact ⟨rfl, rfl⟩

set_option maxHeartbeats 800000 in
theorem refMany_bad (w : World) (d : Nat) (a : Option Addr) (len cap : Nat) (l : List Int) (at_ : Nat) (size n : Int) (h : RefAt w d a len cap l at_ 0) (hz : sizeB size = false ∨ n < 0) :
    Calls Try.prog 20 #[.pointer (some ⟨d, 0, none⟩), .int .i64 size, .int .i64 n] w fun e w' => e = .returned (.slice none 0 0) ∧ w' = w.setCell ⟨d, 2, none⟩ (.int .i64 1) := by
  have h2 := h.cell2
  have hsf := h.soft 2
  clear h
  cases hs : sizeB size
  · have HS := hid hs
    clear hz hs
    by_cases hp : 0 < n
    · go_enter Try.func20, Try.ntmps20
      go_wp2_with (go_at_call 9; refine (refSize_any _ _).mono ?_; rintro e w ⟨rfl, rfl⟩; rw [HS.out])
      refine wp_loop_rounds 1 ?_
      rw [rounds_succ]
      go_wp2
      go_ret
      exact ⟨rfl, rfl⟩
    · have hd : decide (0 < n) = false := by simp; omega
      go_enter Try.func20, Try.ntmps20
      go_wp2_with (go_at_call 9; refine (refSize_any _ _).mono ?_; rintro e w ⟨rfl, rfl⟩; rw [HS.out])
      refine wp_loop_rounds 1 ?_
      rw [rounds_succ]
      go_wp2
      go_ret
      exact ⟨rfl, rfl⟩
  · have HS := hid hs
    have hn : n < 0 := by rcases hz with h | h; (rw [hs] at h; cases h); exact h
    have hd : decide (0 < n) = false := by simp; omega
    clear hz hs
    go_enter Try.func20, Try.ntmps20
    go_wp2_with (go_at_call 9; refine (refSize_any _ _).mono ?_; rintro e w ⟨rfl, rfl⟩; rw [HS.out])
    refine wp_loop_rounds 1 ?_
    rw [rounds_succ]
    go_wp2
    go_ret
    exact ⟨rfl, rfl⟩

set_option maxHeartbeats 800000 in
theorem refMany_end (w : World) (d : Nat) (a : Option Addr) (len cap : Nat) (l : List Int) (at_ : Nat) (size n : Int) (h : RefAt w d a len cap l at_ 0) (hz : sizeB size = true) (hn : 0 ≤ n) (hlt : (len : Int) < size * n) :
    Calls Try.prog 20 #[.pointer (some ⟨d, 0, none⟩), .int .i64 size, .int .i64 n] w fun e w' => e = .returned (.slice none 0 0) ∧ w' = w.setCell ⟨d, 2, none⟩ (.int .i64 4) := by
  have h0 := h.cell0
  have h2 := h.cell2
  have hsf := h.soft 2
  have hsm := h.small
  have hn' : decide (n < 0) = false := by simp; omega
  have hp : 0 < n := by rcases sizeB_cases hz with rfl | rfl | rfl <;> omega
  clear h
  rcases sizeB_cases hz with rfl | rfl | rfl
  all_goals
    clear hz
    go_enter Try.func20, Try.ntmps20
    go_wp2_with (go_at_call 9; refine (refSize_any _ _).mono ?_; rintro e w ⟨rfl, rfl⟩; rw [show sizeB _ = true from rfl])
    refine wp_loop_rounds 1 ?_
    rw [rounds_succ]
    go_wp2
    go_ret
    exact ⟨rfl, rfl⟩

theorem rd_ok (size n : Int) (left : Nat) (hz : sizeB size = true) (hn : 0 ≤ n) (hl : size * n ≤ left) : rdE size n left 0 = 0 ∧ rdN size n left 0 = (size * n).toNat := by
  have hE : rdE size n left 0 = 0 := by simp [rdE, hz, Int.not_lt.2 hl]; omega
  exact ⟨hE, by rw [rdN, if_pos hE]⟩

theorem div_dec (len N s : Nat) (h : s * N ≤ len) (hs : 1 ≤ s) : (N : Int) ≤ (len : Int) / (s : Int) := by
  rw [Int.le_ediv_iff_mul_le (by omega)]
  have : ((N * s : Nat) : Int) ≤ (len : Int) := Int.ofNat_le.2 (by rw [Nat.mul_comm]; exact h)
  rwa [Int.natCast_mul] at this

theorem numsTo_drop (s : Nat) (l : List Int) (k : Nat) : numsTo s l (k + 1) = numsTo s l k ++ [numOf ((l.drop (s * k)).take s)] := numsTo_succ s l k

theorem ownsRow_kept {w w' : World} {base d : Nat} {v : Value} {n : Nat} {xs : List Value} (h : w.ownsRow base 3 1 v n xs) (hd : d < base) (hg : w.grownBy w' (some d)) : w'.ownsRow base 3 1 v n xs := by
  refine h.kept hg ?_
  cases hv : v.ownBlock with
  | none => exact .inl rfl
  | some k => exact .inr (fun e => by have := (h.lt k hv).1; cases e; omega)
/-- What lies below stays, what lies in blocks below stays. -/
theorem RefAt.below' {w w' : World} {B d : Nat} {a : Option Addr} {len cap : Nat} {l : List Int} {at_ : Nat} {er : Int} (h : RefAt w d a len cap l at_ er) (hd : d < B) (ha : ∀ x, a = some x → x.block < B) (hb : Below B w w') : RefAt w' d a len cap l at_ er := by
  refine ⟨(hb.block d hd).trans h.block, ⟨h.lies.1, h.lies.2.1, h.lies.2.2.1, h.lies.2.2.2.1, fun k hk => ?_⟩, h.oct, h.small, h.at_small⟩
  obtain ⟨b, off, he, hc⟩ := h.lies.2.2.2.2 k hk
  exact ⟨b, off, he, (hb.cell (p := ⟨b, off + k, none⟩) (ha ⟨b, off, none⟩ he)).trans hc⟩

set_option maxHeartbeats 1000000 in
theorem refMany_ok (w : World) (d : Nat) (a : Option Addr) (len cap : Nat) (l : List Int) (at_ s N : Nat) (h : RefAt w d a len cap l at_ 0) (ha : ∀ x, a = some x → x.block < w.heap.size) (hz : sizeB s = true) (hN : s * N ≤ len) :
    Calls Try.prog 20 #[.pointer (some ⟨d, 0, none⟩), .int .i64 s, .int .i64 N] w fun e w' => ∃ v, e = .returned v ∧ w'.ownsRow w.heap.size 3 1 v N (i64s (numsTo s l N)) ∧
      ∃ a2 cap2, RefAt w' d a2 (len - s * N) cap2 (l.drop (s * N)) (at_ + s * N) 0 ∧ w.grownBy w' (some d) ∧ ∀ x, a2 = some x → ∃ y, a = some y ∧ x.block = y.block := by
  have h0 := h.cell0
  have h2 := h.cell2
  have hsm := h.small
  have hs4 : 1 ≤ s ∧ s ≤ 4 := by rcases sizeB_cases hz with h | h | h <;> omega
  have hNN : N ≤ s * N := by have := Nat.mul_le_mul_right N hs4.1; omega
  have hn' : decide ((N : Int) < 0) = false := by simp
  have hdl : 0 ≤ (len : Int) / (s : Int) ∧ (len : Int) / (s : Int) ≤ len := ⟨Int.ediv_nonneg (by omega) (by omega), Int.ediv_le_self _ (by omega)⟩
  have hd3 : decide (wrap64 ((len : Int) / (s : Int)) < (N : Int)) = false := by
    have := div_dec len N s hN hs4.1
    rw [IntWalk.wrap64_in _ ⟨by omega, by omega⟩]; simp; omega
  have H := hid h
  have HZ := hid hz
  have HA := hid ha
  have hdw := h.lt
  clear h hz hdl ha
  go_enter Try.func20, Try.ntmps20
  go_wp2_with (go_at_call 9; refine (refSize_any _ _).mono ?_; rintro e w ⟨rfl, rfl⟩; rw [HZ.out])
  go_loopw [7, 8] (fun v i wr => ∃ k : Nat, k ≤ N ∧ i = .int .i64 k ∧ wr.ownsRow w.heap.size 3 1 v k (i64s (numsTo s l k)) ∧ ∃ a2 cap2, RefAt wr d a2 (len - s * k) cap2 (l.drop (s * k)) (at_ + s * k) 0 ∧ w.grownBy wr (some d) ∧ Hid (∀ x, a2 = some x → ∃ y, a = some y ∧ x.block = y.block)) (fun _ i _ => N - (intOf i).toNat)
  case atStart => exact ⟨0, Nat.zero_le _, rfl, World.ownsRow_nil _ _ _ _, a, cap, by simpa using H.out, World.grownBy.refl _ _, fun x hx => ⟨x, hx, rfl⟩⟩
  case round =>
    obtain ⟨k, hk, rfl, hown, a2, cap2, hr, hg, HK⟩ := hrel
    have h22 := hr.cell2
    have R := hid hr
    have G := hid hg
    have O := hid hown
    clear hr hg hown
    by_cases hlt : k < N
    · have hlt' : (k : Int) < (N : Int) := by omega
      have hsk : s * k + s ≤ s * N := by have := Nat.mul_le_mul_left s hlt; rw [Nat.mul_succ] at this; exact this
      obtain ⟨r1, r2⟩ := rd_ok s 1 (len - s * k) HZ.out (by omega) (by omega)
      have r2' : rdN s 1 (len - s * k) 0 = s := by rw [r2]; omega
      have R1 := hid r1
      have R2 := hid r2'
      have HS := hid (numsTo_succ s l k)
      clear r1 r2 r2'
      go_wp2_with fail
      refine (refTake_any _ d a2 _ cap2 _ _ 0 s R.out).mono ?_
      rw [R1.out, R2.out]
      rintro e w1 ⟨rfl, a3, cap3, hr3, hg3, hs3, hk3⟩
      have O1 := hid (ownsRow_kept O.out hdw hg3)
      have hb1 : w.heap.size ≤ w1.heap.size := by have := G.out.size; omega
      have R3 := hid hr3
      have G3 := hid (G.out.trans hg3)
      have K3 : Hid (∀ x, a3 = some x → ∃ y, a = some y ∧ x.block = y.block) := by
        intro x hx
        obtain ⟨y, hy, e1⟩ := hk3 x hx
        obtain ⟨z, hz, e2⟩ := HK.out y hy
        exact ⟨z, hz, e1.trans e2⟩
      clear hr3 hg3 hs3 hk3 O G R
      generalize numOf ((l.drop (s * k)).take s) = x at *
      go_wp2_with (at_builtin; refine wpList_push3 rfl _ _ rfl rfl rfl O1.out ?_ hb1 ?_ ?_)
      case refine_1 => first | rfl | exact ⟨rfl, rfl⟩
      case refine_2 => simp; omega
      intro v4 w4 hown4 hb4
      have O4 := hid hown4
      have R4 := hid (R3.out.below' hdw (fun x hx => by obtain ⟨y, hy, e⟩ := K3.out x hx; rw [e]; exact HA.out y hy) hb4)
      have G4 : Hid (w.grownBy w4 (some d)) := ⟨hb4.os.trans G3.out.os, hb4.tape.trans G3.out.tape, hb4.output.trans G3.out.output, Nat.le_trans G3.out.size hb4.size, fun j hj hne => (hb4.block j hj).trans (G3.out.block j hj hne)⟩
      clear hown4 hb4 R3 G3 O1
      go_wp2
      go_roundw
      case rel =>
        refine ⟨k + 1, by omega, by go_num, ownsRow_i64 O4.out rfl rfl (by rw [HS.out]; simp [i64s]), a3, cap3, ?_, G4.out, K3⟩
        have := R4.out
        rw [List.drop_drop, Nat.sub_sub, Nat.add_assoc, show s * k + s = s * (k + 1) from (Nat.mul_succ s k).symm] at this
        exact this
      case measure => simp [intOf]; omega
    · obtain rfl : k = N := by omega
      go_wp2
      go_ret
      exact ⟨_, rfl, O.out, a2, cap2, R.out, G.out, HK.out⟩

theorem refMany_any (w : World) (d : Nat) (a : Option Addr) (len cap : Nat) (l : List Int) (at_ : Nat) (er size n : Int) (h : RefAt w d a len cap l at_ er) (ha : ∀ x, a = some x → x.block < w.heap.size) :
    Calls Try.prog 20 #[.pointer (some ⟨d, 0, none⟩), .int .i64 size, .int .i64 n] w fun e w' => ∃ v, e = .returned v ∧
      w'.ownsRow w.heap.size 3 1 v (numsTo size.toNat l (if rdE size n len er = 0 then n.toNat else 0)).length (i64s (numsTo size.toNat l (if rdE size n len er = 0 then n.toNat else 0))) ∧
      ∃ a2 cap2, RefAt w' d a2 (len - rdN size n len er) cap2 (l.drop (rdN size n len er)) (at_ + rdN size n len er) (rdE size n len er) ∧ w.grownBy w' (some d) ∧ ∀ x, a2 = some x → ∃ y, a = some y ∧ x.block = y.block := by
  have no : ∀ (er' : Int) (w' : World), rdE size n len er = er' → er' ≠ 0 → RefAt w' d a len cap l at_ er' → w.grownBy w' (some d) → ∃ v, Ending.returned (.slice none 0 0) = .returned v ∧
      w'.ownsRow w.heap.size 3 1 v (numsTo size.toNat l (if rdE size n len er = 0 then n.toNat else 0)).length (i64s (numsTo size.toNat l (if rdE size n len er = 0 then n.toNat else 0))) ∧
      ∃ a2 cap2, RefAt w' d a2 (len - rdN size n len er) cap2 (l.drop (rdN size n len er)) (at_ + rdN size n len er) (rdE size n len er) ∧ w.grownBy w' (some d) ∧ ∀ x, a2 = some x → ∃ y, a = some y ∧ x.block = y.block := by
    intro er' w' hE h0 hr hg
    have hN : rdN size n len er = 0 := by rw [rdN, hE, if_neg h0]
    rw [hN, hE, if_neg h0]
    exact ⟨_, rfl, World.ownsRow_nil _ _ _ _, a, cap, by simpa using hr, hg, fun x hx => ⟨x, hx, rfl⟩⟩
  by_cases her : er = 0
  · subst her
    by_cases hbad : sizeB size = false ∨ n < 0
    · have hE : rdE size n len 0 = 1 := by rw [rdE, if_pos rfl, if_pos (by rcases hbad with h | h; exact Or.inr h; exact Or.inl h)]
      refine (refMany_bad w d a len cap l at_ size n h hbad).mono ?_
      rintro e w' ⟨rfl, rfl⟩
      exact no 1 _ hE (by omega) (h.setEr 1) (grownBy_setCell ..)
    · have hz : sizeB size = true := by cases hz : sizeB size; exact absurd (Or.inl hz) hbad; rfl
      have hn : 0 ≤ n := by by_cases hn : n < 0; exact absurd (Or.inr hn) hbad; omega
      by_cases hlt : (len : Int) < size * n
      · have hE : rdE size n len 0 = 4 := by simp [rdE, hz, hlt]; omega
        refine (refMany_end w d a len cap l at_ size n h hz hn hlt).mono ?_
        rintro e w' ⟨rfl, rfl⟩
        exact no 4 _ hE (by omega) (h.setEr 4) (grownBy_setCell ..)
      · obtain ⟨r1, r2⟩ := rd_ok size n len hz hn (by omega)
        obtain ⟨N, rfl⟩ := Int.eq_ofNat_of_zero_le hn
        obtain ⟨s, rfl⟩ := Int.eq_ofNat_of_zero_le (show 0 ≤ size by rcases sizeB_cases hz with h | h | h <;> omega)
        have hle' : s * N ≤ len := by rw [← Int.natCast_mul] at hlt; omega
        have hM : ((s : Int) * (N : Int)).toNat = s * N := by rw [← Int.natCast_mul]; exact Int.toNat_natCast _
        rw [r1, r2, hM, if_pos rfl, Int.toNat_natCast, Int.toNat_natCast, numsTo_length]
        exact refMany_ok w d a len cap l at_ s N h ha hz hle'
  · have hE : rdE size n len er = er := by simp [rdE, her]
    refine (refMany_was w d a len cap l at_ er size n h her).mono ?_
    rintro e w' ⟨rfl, rfl⟩
    exact no er _ hE her h (World.grownBy.refl _ _)
end Go.Proofs.Ytlfblldaiinghaa
