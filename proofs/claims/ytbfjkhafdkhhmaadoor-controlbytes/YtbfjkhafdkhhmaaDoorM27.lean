/- What the document's own Many answers: contracts. · The document's cursor: zeros. · What the reader makes of each code's parts. -/
import Derived.Test.YtbfjkhafdkhhmaaDoorM26
import Derived.Test.YtbfjkhafdkhhmaaDoorM21
namespace Go.Proofs.YtbfjkhafdkhhmaaDoor
open Go.ChangeShapes Go.WideShapes Go.ChangeAt Go.RowKit
set_option linter.unusedVariables false
set_option linter.unusedSimpArgs false

set_option maxHeartbeats 800000 in
theorem refMany_was (w : World) (d : Nat) (a : Option Addr) (len cap : Nat) (l : List Int) (at_ : Nat) (er size n : Int) (h : RefAt w d a len cap l at_ er) (her : er ≠ 0) :
    Calls Tryd.prog 67 #[.pointer (some ⟨d, 0, none⟩), .int .i64 size, .int .i64 n] w fun e w' => e = .returned (.slice none 0 0) ∧ w' = w := by
  have h2 := h.cell2
  have her' : (er == 0) = false := by simp [her]
  clear h her
  by_cases hp : 0 < n
  · go_enter Tryd.func67, Tryd.ntmps67
    go_wp2
    refine wp_loop_rounds 1 ?_
    rw [rounds_succ]
    go_wp2
    go_ret
    exact ⟨rfl, rfl⟩
  · have hd : decide (0 < n) = false := by simp; omega
    go_enter Tryd.func67, Tryd.ntmps67
    go_wp2
    refine wp_loop_rounds 1 ?_
    rw [rounds_succ]
    go_wp2
    go_ret
    exact ⟨rfl, rfl⟩

set_option maxHeartbeats 800000 in
theorem refMany_bad (w : World) (d : Nat) (a : Option Addr) (len cap : Nat) (l : List Int) (at_ : Nat) (size n : Int) (h : RefAt w d a len cap l at_ 0) (hz : sizeB size = false ∨ n < 0) :
    Calls Tryd.prog 67 #[.pointer (some ⟨d, 0, none⟩), .int .i64 size, .int .i64 n] w fun e w' => e = .returned (.slice none 0 0) ∧ w' = w.setCell ⟨d, 2, none⟩ (.int .i64 1) := by
  have h2 := h.cell2
  have hsf := h.soft 2
  clear h
  cases hs : sizeB size
  · have HS := hid hs
    clear hz hs
    by_cases hp : 0 < n
    · go_enter Tryd.func67, Tryd.ntmps67
      go_wp2_with (go_at_call 68; refine (refSize_any _ _).mono ?_; rintro e w ⟨rfl, rfl⟩; rw [HS.out])
      refine wp_loop_rounds 1 ?_
      rw [rounds_succ]
      go_wp2
      go_ret
      exact ⟨rfl, rfl⟩
    · have hd : decide (0 < n) = false := by simp; omega
      go_enter Tryd.func67, Tryd.ntmps67
      go_wp2_with (go_at_call 68; refine (refSize_any _ _).mono ?_; rintro e w ⟨rfl, rfl⟩; rw [HS.out])
      refine wp_loop_rounds 1 ?_
      rw [rounds_succ]
      go_wp2
      go_ret
      exact ⟨rfl, rfl⟩
  · have HS := hid hs
    have hn : n < 0 := by rcases hz with h | h; (rw [hs] at h; cases h); exact h
    have hd : decide (0 < n) = false := by simp; omega
    clear hz hs
    go_enter Tryd.func67, Tryd.ntmps67
    go_wp2_with (go_at_call 68; refine (refSize_any _ _).mono ?_; rintro e w ⟨rfl, rfl⟩; rw [HS.out])
    refine wp_loop_rounds 1 ?_
    rw [rounds_succ]
    go_wp2
    go_ret
    exact ⟨rfl, rfl⟩

set_option maxHeartbeats 800000 in
theorem refMany_end (w : World) (d : Nat) (a : Option Addr) (len cap : Nat) (l : List Int) (at_ : Nat) (size n : Int) (h : RefAt w d a len cap l at_ 0) (hz : sizeB size = true) (hn : 0 ≤ n) (hlt : (len : Int) < size * n) :
    Calls Tryd.prog 67 #[.pointer (some ⟨d, 0, none⟩), .int .i64 size, .int .i64 n] w fun e w' => e = .returned (.slice none 0 0) ∧ w' = w.setCell ⟨d, 2, none⟩ (.int .i64 4) := by
  have h0 := h.cell0
  have h2 := h.cell2
  have hsf := h.soft 2
  have hsm := h.small
  have hn' : decide (n < 0) = false := by simp; omega
  have hp : 0 < n := by rcases sizeB_cases hz with rfl | rfl | rfl <;> omega
  clear h
  rcases sizeB_cases hz with rfl | rfl | rfl
  all_goals
    clear hz
    go_enter Tryd.func67, Tryd.ntmps67
    go_wp2_with (go_at_call 68; refine (refSize_any _ _).mono ?_; rintro e w ⟨rfl, rfl⟩; rw [show sizeB _ = true from rfl])
    refine wp_loop_rounds 1 ?_
    rw [rounds_succ]
    go_wp2
    go_ret
    exact ⟨rfl, rfl⟩

theorem rd_okm (size n : Int) (left : Nat) (hz : sizeB size = true) (hn : 0 ≤ n) (hl : size * n ≤ left) : rdE size n left 0 = 0 ∧ rdN size n left 0 = (size * n).toNat := by
  have hE : rdE size n left 0 = 0 := by simp [rdE, hz, Int.not_lt.2 hl]; omega
  exact ⟨hE, by rw [rdN, if_pos hE]⟩

theorem div_dec (len N s : Nat) (h : s * N ≤ len) (hs : 1 ≤ s) : (N : Int) ≤ (len : Int) / (s : Int) := by
  rw [Int.le_ediv_iff_mul_le (by omega)]
  have : ((N * s : Nat) : Int) ≤ (len : Int) := Int.ofNat_le.2 (by rw [Nat.mul_comm]; exact h)
  rwa [Int.natCast_mul] at this

theorem numsTo_drop (s : Nat) (l : List Int) (k : Nat) : numsTo s l (k + 1) = numsTo s l k ++ [numOf ((l.drop (s * k)).take s)] := numsTo_succ s l k

theorem ownsRow_kept {w w' : World} {base d : Nat} {v : Value} {n : Nat} {xs : List Value} (h : w.ownsRow base 3 1 v n xs) (hd : d < base) (hg : w.grownBy w' (some d)) : w'.ownsRow base 3 1 v n xs := by
  refine h.kept hg ?_
  cases hv : v.ownBlock with
  | none => exact .inl rfl
  | some k => exact .inr (fun e => by have := (h.lt k hv).1; cases e; omega)
/-- What lies below stays, what lies in blocks below stays. -/
theorem RefAt.below' {w w' : World} {B d : Nat} {a : Option Addr} {len cap : Nat} {l : List Int} {at_ : Nat} {er : Int} (h : RefAt w d a len cap l at_ er) (hd : d < B) (ha : ∀ x, a = some x → x.block < B) (hb : Below B w w') : RefAt w' d a len cap l at_ er := by
  refine ⟨(hb.block d hd).trans h.block, ⟨h.lies.1, h.lies.2.1, h.lies.2.2.1, h.lies.2.2.2.1, fun k hk => ?_⟩, h.oct, h.small, h.at_small⟩
  obtain ⟨b, off, he, hc⟩ := h.lies.2.2.2.2 k hk
  exact ⟨b, off, he, (hb.cell (p := ⟨b, off + k, none⟩) (ha ⟨b, off, none⟩ he)).trans hc⟩

set_option maxHeartbeats 1000000 in
theorem refMany_ok (w : World) (d : Nat) (a : Option Addr) (len cap : Nat) (l : List Int) (at_ s N : Nat) (h : RefAt w d a len cap l at_ 0) (ha : ∀ x, a = some x → x.block < w.heap.size) (hz : sizeB s = true) (hN : s * N ≤ len) :
    Calls Tryd.prog 67 #[.pointer (some ⟨d, 0, none⟩), .int .i64 s, .int .i64 N] w fun e w' => ∃ v, e = .returned v ∧ w'.ownsRow w.heap.size 3 1 v N (i64s (numsTo s l N)) ∧
      ∃ a2 cap2, RefAt w' d a2 (len - s * N) cap2 (l.drop (s * N)) (at_ + s * N) 0 ∧ w.grownBy w' (some d) ∧ ∀ x, a2 = some x → ∃ y, a = some y ∧ x.block = y.block := by
  have h0 := h.cell0
  have h2 := h.cell2
  have hsm := h.small
  have hs4 : 1 ≤ s ∧ s ≤ 4 := by rcases sizeB_cases hz with h | h | h <;> omega
  have hNN : N ≤ s * N := by have := Nat.mul_le_mul_right N hs4.1; omega
  have hn' : decide ((N : Int) < 0) = false := by simp
  have hdl : 0 ≤ (len : Int) / (s : Int) ∧ (len : Int) / (s : Int) ≤ len := ⟨Int.ediv_nonneg (by omega) (by omega), Int.ediv_le_self _ (by omega)⟩
  have hd3 : decide (wrap64 ((len : Int) / (s : Int)) < (N : Int)) = false := by
    have := div_dec len N s hN hs4.1
    rw [IntWalk.wrap64_in _ ⟨by omega, by omega⟩]; simp; omega
  have H := hid h
  have HZ := hid hz
  have HA := hid ha
  have hdw := h.lt
  clear h hz hdl ha
  go_enter Tryd.func67, Tryd.ntmps67
  go_wp2_with (go_at_call 68; refine (refSize_any _ _).mono ?_; rintro e w ⟨rfl, rfl⟩; rw [HZ.out])
  go_loopw [7, 8] (fun v i wr => ∃ k : Nat, k ≤ N ∧ i = .int .i64 k ∧ wr.ownsRow w.heap.size 3 1 v k (i64s (numsTo s l k)) ∧ ∃ a2 cap2, RefAt wr d a2 (len - s * k) cap2 (l.drop (s * k)) (at_ + s * k) 0 ∧ w.grownBy wr (some d) ∧ Hid (∀ x, a2 = some x → ∃ y, a = some y ∧ x.block = y.block)) (fun _ i _ => N - (intOf i).toNat)
  case atStart => exact ⟨0, Nat.zero_le _, rfl, World.ownsRow_nil _ _ _ _, a, cap, by simpa using H.out, World.grownBy.refl _ _, fun x hx => ⟨x, hx, rfl⟩⟩
  case round =>
    obtain ⟨k, hk, rfl, hown, a2, cap2, hr, hg, HK⟩ := hrel
    have h22 := hr.cell2
    have R := hid hr
    have G := hid hg
    have O := hid hown
    clear hr hg hown
    by_cases hlt : k < N
    · have hlt' : (k : Int) < (N : Int) := by omega
      have hsk : s * k + s ≤ s * N := by have := Nat.mul_le_mul_left s hlt; rw [Nat.mul_succ] at this; exact this
      obtain ⟨r1, r2⟩ := rd_okm s 1 (len - s * k) HZ.out (by omega) (by omega)
      have r2' : rdN s 1 (len - s * k) 0 = s := by rw [r2]; omega
      have R1 := hid r1
      have R2 := hid r2'
      have HS := hid (numsTo_succ s l k)
      clear r1 r2 r2'
      go_wp2_with fail
      refine (refTake_size _ d a2 _ cap2 _ _ 0 s R.out HZ.out).mono ?_
      rw [R1.out, R2.out]
      rintro e w1 ⟨rfl, a3, cap3, hr3, hg3, hs3, hk3⟩
      have O1 := hid (ownsRow_kept O.out hdw hg3)
      have hb1 : w.heap.size ≤ w1.heap.size := by have := G.out.size; omega
      have R3 := hid hr3
      have G3 := hid (G.out.trans hg3)
      have K3 : Hid (∀ x, a3 = some x → ∃ y, a = some y ∧ x.block = y.block) := by
        intro x hx
        obtain ⟨y, hy, e1⟩ := hk3 x hx
        obtain ⟨z, hz, e2⟩ := HK.out y hy
        exact ⟨z, hz, e1.trans e2⟩
      clear hr3 hg3 hs3 hk3 O G R
      generalize numOf ((l.drop (s * k)).take s) = x at *
      go_wp2_with (at_builtin; refine wpList_push3 rfl _ _ rfl rfl rfl O1.out ?_ hb1 ?_ ?_)
      case refine_1 => first | rfl | exact ⟨rfl, rfl⟩
      case refine_2 => simp; omega
      intro v4 w4 hown4 hb4
      have O4 := hid hown4
      have R4 := hid (R3.out.below' hdw (fun x hx => by obtain ⟨y, hy, e⟩ := K3.out x hx; rw [e]; exact HA.out y hy) hb4)
      have G4 : Hid (w.grownBy w4 (some d)) := ⟨hb4.os.trans G3.out.os, hb4.tape.trans G3.out.tape, hb4.output.trans G3.out.output, Nat.le_trans G3.out.size hb4.size, fun j hj hne => (hb4.block j hj).trans (G3.out.block j hj hne)⟩
      clear hown4 hb4 R3 G3 O1
      go_wp2
      go_roundw
      case rel =>
        refine ⟨k + 1, by omega, by go_num, ownsRow_i64 O4.out rfl rfl (by rw [HS.out]; simp [i64s]), a3, cap3, ?_, G4.out, K3⟩
        have := R4.out
        rw [List.drop_drop, Nat.sub_sub, Nat.add_assoc, show s * k + s = s * (k + 1) from (Nat.mul_succ s k).symm] at this
        exact this
      case measure => simp [intOf]; omega
    · obtain rfl : k = N := by omega
      go_wp2
      go_ret
      exact ⟨_, rfl, O.out, a2, cap2, R.out, G.out, HK.out⟩

theorem refMany_any (w : World) (d : Nat) (a : Option Addr) (len cap : Nat) (l : List Int) (at_ : Nat) (er size n : Int) (h : RefAt w d a len cap l at_ er) (ha : ∀ x, a = some x → x.block < w.heap.size) :
    Calls Tryd.prog 67 #[.pointer (some ⟨d, 0, none⟩), .int .i64 size, .int .i64 n] w fun e w' => ∃ v, e = .returned v ∧
      w'.ownsRow w.heap.size 3 1 v (numsTo size.toNat l (if rdE size n len er = 0 then n.toNat else 0)).length (i64s (numsTo size.toNat l (if rdE size n len er = 0 then n.toNat else 0))) ∧
      ∃ a2 cap2, RefAt w' d a2 (len - rdN size n len er) cap2 (l.drop (rdN size n len er)) (at_ + rdN size n len er) (rdE size n len er) ∧ w.grownBy w' (some d) ∧ ∀ x, a2 = some x → ∃ y, a = some y ∧ x.block = y.block := by
  have no : ∀ (er' : Int) (w' : World), rdE size n len er = er' → er' ≠ 0 → RefAt w' d a len cap l at_ er' → w.grownBy w' (some d) → ∃ v, Ending.returned (.slice none 0 0) = .returned v ∧
      w'.ownsRow w.heap.size 3 1 v (numsTo size.toNat l (if rdE size n len er = 0 then n.toNat else 0)).length (i64s (numsTo size.toNat l (if rdE size n len er = 0 then n.toNat else 0))) ∧
      ∃ a2 cap2, RefAt w' d a2 (len - rdN size n len er) cap2 (l.drop (rdN size n len er)) (at_ + rdN size n len er) (rdE size n len er) ∧ w.grownBy w' (some d) ∧ ∀ x, a2 = some x → ∃ y, a = some y ∧ x.block = y.block := by
    intro er' w' hE h0 hr hg
    have hN : rdN size n len er = 0 := by rw [rdN, hE, if_neg h0]
    rw [hN, hE, if_neg h0]
    exact ⟨_, rfl, World.ownsRow_nil _ _ _ _, a, cap, by simpa using hr, hg, fun x hx => ⟨x, hx, rfl⟩⟩
  by_cases her : er = 0
  · subst her
    by_cases hbad : sizeB size = false ∨ n < 0
    · have hE : rdE size n len 0 = 1 := by rw [rdE, if_pos rfl, if_pos (by rcases hbad with h | h; exact Or.inr h; exact Or.inl h)]
      refine (refMany_bad w d a len cap l at_ size n h hbad).mono ?_
      rintro e w' ⟨rfl, rfl⟩
      exact no 1 _ hE (by omega) (h.setEr 1) (grownBy_setCell ..)
    · have hz : sizeB size = true := by cases hz : sizeB size; exact absurd (Or.inl hz) hbad; rfl
      have hn : 0 ≤ n := by by_cases hn : n < 0; exact absurd (Or.inr hn) hbad; omega
      by_cases hlt : (len : Int) < size * n
      · have hE : rdE size n len 0 = 4 := by simp [rdE, hz, hlt]; omega
        refine (refMany_end w d a len cap l at_ size n h hz hn hlt).mono ?_
        rintro e w' ⟨rfl, rfl⟩
        exact no 4 _ hE (by omega) (h.setEr 4) (grownBy_setCell ..)
      · obtain ⟨r1, r2⟩ := rd_okm size n len hz hn (by omega)
        obtain ⟨N, rfl⟩ := Int.eq_ofNat_of_zero_le hn
        obtain ⟨s, rfl⟩ := Int.eq_ofNat_of_zero_le (show 0 ≤ size by rcases sizeB_cases hz with h | h | h <;> omega)
        have hle' : s * N ≤ len := by rw [← Int.natCast_mul] at hlt; omega
        have hM : ((s : Int) * (N : Int)).toNat = s * N := by rw [← Int.natCast_mul]; exact Int.toNat_natCast _
        rw [r1, r2, hM, if_pos rfl, Int.toNat_natCast, Int.toNat_natCast, numsTo_length]
        exact refMany_ok w d a len cap l at_ s N h ha hz hle'
  · have hE : rdE size n len er = er := by simp [rdE, her]
    refine (refMany_was w d a len cap l at_ er size n h her).mono ?_
    rintro e w' ⟨rfl, rfl⟩
    exact no er _ hE her h (World.grownBy.refl _ _)
end Go.Proofs.YtbfjkhafdkhhmaaDoor

namespace Go.Proofs.YtbfjkhafdkhhmaaDoor
open Go.ChangeShapes Go.WideShapes Go.ChangeAt Go.RowKit Go.Deep
set_option linter.unusedVariables false
set_option linter.unusedSimpArgs false

theorem lies_own64 {w : World} {b : Nat} {a : Option Addr} {len cap : Nat} {l : List Int} (hl : l.length = len) (h : w.ownsRow b 3 1 (.slice a len cap) len (i64s l)) : Lies .i64 w a len cap l := by
  subst hl
  obtain ⟨a', cap', e, hL⟩ := owns_liesk h
  injection e with e1 e2 e3
  rw [e1, e3]; exact hL
/-- What is wrong behind numbers that should be 0. -/
def zr (E : Int) (ns : List Int) : Int := if ns.all (· == 0) = true then E else spE E 3
theorem zr_succ (E : Int) (ns : List Int) (j : Nat) (h : j < ns.length) : zr E (ns.take (j + 1)) = if ns.getD j 0 = 0 then zr E (ns.take j) else spE (zr E (ns.take j)) 3 := by
  unfold zr
  rw [List.take_succ_eq_append_getElem h, List.all_append]
  have e : ns.getD j 0 = ns[j] := by simp [h]
  rw [e]
  by_cases hx : ns[j] = 0
  · simp [hx]
  · rw [if_neg hx]
    have : ([ns[j]].all (· == 0)) = false := by simp [hx]
    rw [this, Bool.and_false, if_neg (by decide)]
    unfold spE
    cases (ns.take j).all (· == 0) <;> by_cases hE : E = 0 <;> simp [hE]
theorem zr_nums (l : List Int) (ho : Oct l) (M : Nat) (hM : M ≤ 2) (hl : M ≤ l.length) (E : Int) : zr E (numsTo 1 l M) = if numOf (l.take M) = 0 then E else spE E 3 := by
  have h0 : ∀ x ∈ l, 0 ≤ x ∧ x < 256 := ho
  have hM' : M = 0 ∨ M = 1 ∨ M = 2 := by omega
  unfold zr
  rcases hM' with rfl | rfl | rfl
  · simp [numsTo, numOf]
  · match l, hl with
    | x :: t, _ => simp [numsTo, numOf, List.range, List.range.loop]
  · match l, hl with
    | x :: y :: t, _ =>
      have h1 := h0 x (by simp)
      have h2 := h0 y (by simp)
      have e : ((x = 0) ∧ (y = 0)) = (256 * x + y = 0) := by rw [eq_iff_iff]; omega
      simp [numsTo, numOf, List.range, List.range.loop, e]
/-- What is wrong behind bytes that should be 0. -/
def zE (l : List Int) (len : Nat) (er : Int) (size : Int) : Int := if numOf (l.take (rdN size 1 len er)) = 0 then rdE size 1 len er else spE (rdE size 1 len er) 3
set_option maxRecDepth 100000 in
set_option maxHeartbeats 1600000 in
theorem zeros_any (w : World) (d : Nat) (a : Option Addr) (len cap : Nat) (l : List Int) (at_ : Nat) (er size : Int) (h : RefAt w d a len cap l at_ er) (ha : ∀ x, a = some x → x.block < w.heap.size) (hz : size = 1 ∨ size = 2) :
    Calls Tryd.prog 40 #[.pointer (some ⟨d, 0, none⟩), .int .i64 size] w fun e w' => e = .returned (.tuple #[]) ∧ ∃ a2 cap2, Hid (RefAt w' d a2 (len - rdN size 1 len er) cap2 (l.drop (rdN size 1 len er)) (at_ + rdN size 1 len er) (zE l len er size)) ∧ Hid (w.grownBy w' (some d)) ∧ Hid (∀ x, a2 = some x → ∃ y, a = some y ∧ x.block = y.block) := by
  have hsz : sizeB size = true := by rcases hz with rfl | rfl <;> rfl
  obtain ⟨hE, hN⟩ := rd_take size len hsz er
  have hNE : rdN size 1 len er = (if rdE size 1 len er = 0 then size.toNat else 0) := by
    unfold rdN; rw [Int.mul_one]
  have hle := rdN_le size 1 len er
  have hZ : Hid (zE l len er size = zr (rdE size 1 len er) (numsTo 1 l (rdN size 1 len er))) := by
    rw [Hid, zE, zr_nums l h.oct _ (by rw [hNE]; rcases hz with rfl | rfl <;> split <;> decide) (by rw [h.lies.1]; exact hle)]
  have hdl : d < w.heap.size := h.lt
  have H := hid h
  have HA := hid ha
  clear h ha
  go_enter Tryd.func40, Tryd.ntmps40
  go_wp2_with fail
  refine (refMany_any w d a len cap l at_ er 1 size H.out HA.out).mono ?_
  rintro e w1 ⟨v, rfl, hown, a2, cap2, hR, hg, hbl⟩
  rw [hE, hN] at hR
  rw [hE, ← hNE, show (1 : Int).toNat = 1 from rfl, numsTo_length] at hown
  generalize hNN : rdN size 1 len er = M at *
  have HNN := hid hNN
  generalize rdE size 1 len er = E at *
  generalize hns : numsTo 1 l M = ns at *
  have hnl : ns.length = M := by rw [← hns, numsTo_length]
  obtain ⟨va, vc, rfl⟩ := owns_len hown
  have R1 := hid hR
  have G1 := hid hg
  have O1 := hid hown
  have BL := hid hbl
  clear hR hg hown hbl hE hN hNE H HA
  have hM2 : M ≤ 100000 := by have := R1.out.at_small; omega
  go_wp2_with fail
  go_loopw [5] (fun i wr => ∃ j : Nat, j ≤ M ∧ i = .int .i64 j ∧ Hid (RefAt wr d a2 (len - M) cap2 (l.drop M) (at_ + M) (zr E (ns.take j))) ∧ Hid (wr.ownsRow w.heap.size 3 1 (.slice va M vc) M (i64s ns)) ∧ Hid (w.grownBy wr (some d))) (fun i _ => M - (intOf i).toNat)
  case atStart => exact ⟨0, Nat.zero_le _, rfl, by simpa [zr] using R1, O1.out, G1.out⟩
  case round =>
    obtain ⟨j, hj, rfl, HR, HO, HG⟩ := hrel
    by_cases hlt : j < M
    · have hlt' : (j : Int) < (M : Int) := by omega
      obtain ⟨b, off, rfl, hc⟩ := (lies_own64 hnl HO.out).2.2.2.2 j hlt
      have hS := hid (zr_succ E ns j (by rw [hnl]; exact hlt))
      generalize ns.getD j 0 = x at *
      generalize zr E (ns.take j) = ej at *
      have h2 := HR.out.cell2
      have hsf := HR.out.soft 2
      by_cases hx : x = 0
      · have ex : (x != 0) = false := by simp [hx]
        rw [if_pos hx] at hS
        clear hx
        go_wp2_with fail
        go_roundw
        case rel => exact ⟨j + 1, by omega, by go_num, by rw [hS.out]; exact HR.out, HO.out, HG.out⟩
        case measure => simp [intOf]; omega
      · have ex : (x != 0) = true := by rw [bne_iff_ne]; exact hx
        rw [if_neg hx] at hS
        clear hx
        by_cases he : ej = 0
        · have ee : (ej == 0) = true := by simp [he]
          have HS2 : Hid (zr E (ns.take (j + 1)) = 3) := by rw [Hid, hS.out, spE, if_pos he]
          clear he hS
          have HR2 := hid (HR.out.setEr 3)
          have HG2 := hid (HG.out.trans (grownBy_setCell wr d 2 (.int .i64 3)))
          have HO2 := hid (ownsRow_kept HO.out hdl (grownBy_setCell wr d 2 (.int .i64 3)))
          go_wp2_with fail
          go_roundw
          case rel => exact ⟨j + 1, by omega, by go_num, by rw [HS2.out]; exact HR2.out, HO2.out, HG2.out⟩
          case measure => simp [intOf]; omega
        · have ee : (ej == 0) = false := by simp [he]
          have HS2 : Hid (zr E (ns.take (j + 1)) = ej) := by rw [Hid, hS.out, spE, if_neg he]
          clear he hS
          go_wp2_with fail
          go_roundw
          case rel => exact ⟨j + 1, by omega, by go_num, by rw [HS2.out]; exact HR.out, HO.out, HG.out⟩
          case measure => simp [intOf]; omega
    · obtain rfl : j = M := by omega
      rw [List.take_of_length_le (by rw [hnl]; exact Nat.le_refl _)] at HR
      go_wp2_with fail
      go_returns
      exact ⟨rfl, a2, cap2, by rw [HNN.out, hZ.out]; exact HR, HG, BL⟩
end Go.Proofs.YtbfjkhafdkhhmaaDoor

namespace Go.Proofs.YtbfjkhafdkhhmaaDoor
open Go.ChangeShapes Go.WideShapes Go.ChangeAt Go.RowKit Go.Deep
set_option linter.unusedVariables false
set_option linter.unusedSimpArgs false

theorem takeV_bd1 (l : List Int) (ho : Oct l) (z : Nat) (at_ len : Nat) (er : Int) (hz : z = 1 ∨ z = 2) : 0 ≤ takeV z l at_ len er ∧ takeV z l at_ len er < 65536 ∧ (z = 1 → takeV z l at_ len er < 256) := by
  have ho : Oct ((l.drop at_).take (rdN z 1 (len - at_) er)) := ho.cut _ _
  have hb := numOf_bd _ ho _ (Nat.le_refl _)
  rw [List.take_of_length_le (Nat.le_refl _)] at hb
  have hle : ((l.drop at_).take (rdN z 1 (len - at_) er)).length ≤ z := by
    rw [List.length_take]
    have : rdN z 1 (len - at_) er ≤ z := by
      unfold rdN
      split
      · rcases hz with rfl | rfl <;> simp
      · omega
    omega
  unfold takeV
  generalize (l.drop at_).take (rdN z 1 (len - at_) er) = ml at *
  have h3 : ml.length = 0 ∨ ml.length = 1 ∨ ml.length = 2 := by omega
  rcases h3 with e | e | e
  · rw [e] at hb; refine ⟨hb.1, by omega, fun _ => by omega⟩
  · rw [e] at hb
    have : (256 : Int) ^ 1 = 256 := by decide
    refine ⟨hb.1, by omega, fun _ => by omega⟩
  · rw [e] at hb
    have : (256 : Int) ^ 2 = 65536 := by decide
    refine ⟨hb.1, by omega, fun h1 => by omega⟩
theorem ptStep_eq (l : List Int) (s : Nat × Int × List Int) (p : Pa) (n : Int) (v : List Int) (h : rdFs p.f (takeV p.z l s.1 l.length s.2.1, s.2.2) = (n, v)) :
    ptStep l s p = (s.1 + rdN p.z 1 (l.length - s.1) s.2.1, if n = 0 then rdE p.z 1 (l.length - s.1) s.2.1 else spE (rdE p.z 1 (l.length - s.1) s.2.1) 3, v) := by
  unfold ptStep ptA ptE ptS ptN
  rw [h]
theorem rdF1 (f : Fl) (n : Int) (v : List Int) : rdFs [f] (n, v) = (fleft n f, v.set f.p (fval n f)) := rfl
theorem rdF2 (f g : Fl) (n : Int) (v : List Int) : rdFs [f, g] (n, v) = rdFs [g] (fleft n f, v.set f.p (fval n f)) := rfl
theorem rdF3 (f g h : Fl) (n : Int) (v : List Int) : rdFs [f, g, h] (n, v) = rdFs [g, h] (fleft n f, v.set f.p (fval n f)) := rfl
theorem pt_full (l : List Int) (ho : Oct l) (s : Nat × Int × List Int) (z j lst : Nat) (hz : (z = 1 ∧ lst = 255) ∨ (z = 2 ∧ lst = 65535)) :
    ptStep l s ⟨z, [⟨j, 0, lst⟩]⟩ = (s.1 + rdN z 1 (l.length - s.1) s.2.1, rdE z 1 (l.length - s.1) s.2.1, s.2.2.set j (takeV z l s.1 l.length s.2.1)) := by
  have hb := takeV_bd1 l ho z s.1 l.length s.2.1 (by omega)
  have e1 : fval (takeV z l s.1 l.length s.2.1) ⟨j, 0, lst⟩ = takeV z l s.1 l.length s.2.1 := by
    generalize takeV (z : Int) l s.1 l.length s.2.1 = x at *
    unfold fval
    rcases hz with ⟨rfl, rfl⟩ | ⟨rfl, rfl⟩ <;> simp <;> omega
  have e2 : fleft (takeV z l s.1 l.length s.2.1) ⟨j, 0, lst⟩ = 0 := by unfold fleft; rw [e1]; simp
  rw [ptStep_eq l s _ 0 (s.2.2.set j (takeV z l s.1 l.length s.2.1)) (by show rdFs [_] _ = _; rw [rdF1, e1, e2]), if_pos rfl]
theorem pt_none (l : List Int) (s : Nat × Int × List Int) (z : Nat) :
    ptStep l s ⟨z, []⟩ = (s.1 + rdN z 1 (l.length - s.1) s.2.1, zE (l.drop s.1) (l.length - s.1) s.2.1 z, s.2.2) := rfl
theorem pt_fl1 (l : List Int) (ho : Oct l) (s : Nat × Int × List Int) (b : Int) (hb : takeV 1 l s.1 l.length s.2.1 = b) :
    ptStep l s ⟨1, [⟨3, 7, 1⟩, ⟨4, 3, 7⟩, ⟨5, 0, 7⟩]⟩ = (s.1 + rdN 1 1 (l.length - s.1) s.2.1, if b / 64 % 2 = 1 then spE (rdE 1 1 (l.length - s.1) s.2.1) 3 else rdE 1 1 (l.length - s.1) s.2.1, ((s.2.2.set 3 (b / 128)).set 4 (b / 8 % 8)).set 5 (b % 8)) := by
  have hB := takeV_bd1 l ho 1 s.1 l.length s.2.1 (.inl rfl)
  have hB2 : 0 ≤ b ∧ b < 256 := by rw [← hb]; exact ⟨hB.1, hB.2.2 rfl⟩
  have e1 : fval b ⟨3, 7, 1⟩ = b / 128 := by unfold fval; simp; omega
  have f1 : fleft b ⟨3, 7, 1⟩ = b - b / 128 * 128 := by unfold fleft; rw [e1]; rfl
  have e2 : fval (b - b / 128 * 128) ⟨4, 3, 7⟩ = b / 8 % 8 := by unfold fval; simp; omega
  have f2 : fleft (b - b / 128 * 128) ⟨4, 3, 7⟩ = b - b / 128 * 128 - b / 8 % 8 * 8 := by unfold fleft; rw [e2]; rfl
  have e3 : fval (b - b / 128 * 128 - b / 8 % 8 * 8) ⟨5, 0, 7⟩ = b % 8 := by unfold fval; simp; omega
  have f3 : fleft (b - b / 128 * 128 - b / 8 % 8 * 8) ⟨5, 0, 7⟩ = b - b / 128 * 128 - b / 8 % 8 * 8 - b % 8 := by unfold fleft; rw [e3]; simp
  have e4 : (b - b / 128 * 128 - b / 8 % 8 * 8 - b % 8 = 0) = ¬ (b / 64 % 2 = 1) := by rw [eq_iff_iff]; omega
  rw [ptStep_eq l s _ (b - b / 128 * 128 - b / 8 % 8 * 8 - b % 8) (((s.2.2.set 3 (b / 128)).set 4 (b / 8 % 8)).set 5 (b % 8)) (by
    show rdFs [_, _, _] (takeV 1 l s.1 l.length s.2.1, _) = _
    rw [hb, rdF3, f1, e1, rdF2, f2, e2, rdF1, f3, e3])]
  by_cases h : b / 64 % 2 = 1
  · rw [if_pos h, if_neg (by rw [e4]; exact fun k => k h)]; rfl
  · rw [if_neg h, if_pos (by rw [e4]; exact h)]; rfl
theorem pt_fl2 (l : List Int) (ho : Oct l) (s : Nat × Int × List Int) (b : Int) (hb : takeV 1 l s.1 l.length s.2.1 = b) :
    ptStep l s ⟨1, [⟨7, 7, 1⟩, ⟨10, 6, 1⟩]⟩ = (s.1 + rdN 1 1 (l.length - s.1) s.2.1, if b % 64 = 0 then rdE 1 1 (l.length - s.1) s.2.1 else spE (rdE 1 1 (l.length - s.1) s.2.1) 3, (s.2.2.set 7 (b / 128)).set 10 (b / 64 % 2)) := by
  have hB := takeV_bd1 l ho 1 s.1 l.length s.2.1 (.inl rfl)
  have hB2 : 0 ≤ b ∧ b < 256 := by rw [← hb]; exact ⟨hB.1, hB.2.2 rfl⟩
  have e1 : fval b ⟨7, 7, 1⟩ = b / 128 := by unfold fval; simp; omega
  have f1 : fleft b ⟨7, 7, 1⟩ = b - b / 128 * 128 := by unfold fleft; rw [e1]; rfl
  have e2 : fval (b - b / 128 * 128) ⟨10, 6, 1⟩ = b / 64 % 2 := by unfold fval; simp; omega
  have f2 : fleft (b - b / 128 * 128) ⟨10, 6, 1⟩ = b % 64 := by unfold fleft; rw [e2]; simp; omega
  rw [ptStep_eq l s _ (b % 64) ((s.2.2.set 7 (b / 128)).set 10 (b / 64 % 2)) (by
    show rdFs [_, _] (takeV 1 l s.1 l.length s.2.1, _) = _
    rw [hb, rdF2, f1, e1, rdF1, f2, e2])]
  rfl
theorem pt_fl3 (l : List Int) (ho : Oct l) (s : Nat × Int × List Int) (b : Int) (hb : takeV 1 l s.1 l.length s.2.1 = b) :
    ptStep l s ⟨1, [⟨10, 7, 1⟩]⟩ = (s.1 + rdN 1 1 (l.length - s.1) s.2.1, if b % 128 = 0 then rdE 1 1 (l.length - s.1) s.2.1 else spE (rdE 1 1 (l.length - s.1) s.2.1) 3, s.2.2.set 10 (b / 128)) := by
  have hB := takeV_bd1 l ho 1 s.1 l.length s.2.1 (.inl rfl)
  have hB2 : 0 ≤ b ∧ b < 256 := by rw [← hb]; exact ⟨hB.1, hB.2.2 rfl⟩
  have e1 : fval b ⟨10, 7, 1⟩ = b / 128 := by unfold fval; simp; omega
  have f1 : fleft b ⟨10, 7, 1⟩ = b % 128 := by unfold fleft; rw [e1]; simp; omega
  rw [ptStep_eq l s _ (b % 128) (s.2.2.set 10 (b / 128)) (by
    show rdFs [_] (takeV 1 l s.1 l.length s.2.1, _) = _
    rw [hb, rdF1, f1, e1])]
  rfl
theorem vs_1_lit (v0 v1 v2 v3 v4 v5 v6 v7 v8 v9 v10 x k : Int) : (vm [v0, v1, v2, v3, v4, v5, v6, v7, v8, v9, v10] k).cs.setIfInBounds 1 (.int .i64 x) = (vm ([v0, v1, v2, v3, v4, v5, v6, v7, v8, v9, v10].set 0 x) k).cs := by kernel_rfl
theorem vs_1 (v : List Int) (hv : v.length = 11) (x k : Int) : (vm v k).cs.setIfInBounds 1 (.int .i64 x) = (vm (v.set 0 x) k).cs := by
  match v, hv with
  | [v0, v1, v2, v3, v4, v5, v6, v7, v8, v9, v10], _ => exact vs_1_lit v0 v1 v2 v3 v4 v5 v6 v7 v8 v9 v10 x k
theorem vs_2_lit (v0 v1 v2 v3 v4 v5 v6 v7 v8 v9 v10 x k : Int) : (vm [v0, v1, v2, v3, v4, v5, v6, v7, v8, v9, v10] k).cs.setIfInBounds 2 (.int .i64 x) = (vm ([v0, v1, v2, v3, v4, v5, v6, v7, v8, v9, v10].set 1 x) k).cs := by kernel_rfl
theorem vs_2 (v : List Int) (hv : v.length = 11) (x k : Int) : (vm v k).cs.setIfInBounds 2 (.int .i64 x) = (vm (v.set 1 x) k).cs := by
  match v, hv with
  | [v0, v1, v2, v3, v4, v5, v6, v7, v8, v9, v10], _ => exact vs_2_lit v0 v1 v2 v3 v4 v5 v6 v7 v8 v9 v10 x k
theorem vs_3_lit (v0 v1 v2 v3 v4 v5 v6 v7 v8 v9 v10 x k : Int) : (vm [v0, v1, v2, v3, v4, v5, v6, v7, v8, v9, v10] k).cs.setIfInBounds 3 (.int .i64 x) = (vm ([v0, v1, v2, v3, v4, v5, v6, v7, v8, v9, v10].set 2 x) k).cs := by kernel_rfl
theorem vs_3 (v : List Int) (hv : v.length = 11) (x k : Int) : (vm v k).cs.setIfInBounds 3 (.int .i64 x) = (vm (v.set 2 x) k).cs := by
  match v, hv with
  | [v0, v1, v2, v3, v4, v5, v6, v7, v8, v9, v10], _ => exact vs_3_lit v0 v1 v2 v3 v4 v5 v6 v7 v8 v9 v10 x k
theorem vs_4_lit (v0 v1 v2 v3 v4 v5 v6 v7 v8 v9 v10 x k : Int) : (vm [v0, v1, v2, v3, v4, v5, v6, v7, v8, v9, v10] k).cs.setIfInBounds 4 (.int .i64 x) = (vm ([v0, v1, v2, v3, v4, v5, v6, v7, v8, v9, v10].set 4 x) k).cs := by kernel_rfl
theorem vs_4 (v : List Int) (hv : v.length = 11) (x k : Int) : (vm v k).cs.setIfInBounds 4 (.int .i64 x) = (vm (v.set 4 x) k).cs := by
  match v, hv with
  | [v0, v1, v2, v3, v4, v5, v6, v7, v8, v9, v10], _ => exact vs_4_lit v0 v1 v2 v3 v4 v5 v6 v7 v8 v9 v10 x k
theorem vs_5_lit (v0 v1 v2 v3 v4 v5 v6 v7 v8 v9 v10 x k : Int) : (vm [v0, v1, v2, v3, v4, v5, v6, v7, v8, v9, v10] k).cs.setIfInBounds 5 (.int .i64 x) = (vm ([v0, v1, v2, v3, v4, v5, v6, v7, v8, v9, v10].set 5 x) k).cs := by kernel_rfl
theorem vs_5 (v : List Int) (hv : v.length = 11) (x k : Int) : (vm v k).cs.setIfInBounds 5 (.int .i64 x) = (vm (v.set 5 x) k).cs := by
  match v, hv with
  | [v0, v1, v2, v3, v4, v5, v6, v7, v8, v9, v10], _ => exact vs_5_lit v0 v1 v2 v3 v4 v5 v6 v7 v8 v9 v10 x k
theorem vs_6_lit (v0 v1 v2 v3 v4 v5 v6 v7 v8 v9 v10 x k : Int) : (vm [v0, v1, v2, v3, v4, v5, v6, v7, v8, v9, v10] k).cs.setIfInBounds 6 (.int .i64 x) = (vm ([v0, v1, v2, v3, v4, v5, v6, v7, v8, v9, v10].set 6 x) k).cs := by kernel_rfl
theorem vs_6 (v : List Int) (hv : v.length = 11) (x k : Int) : (vm v k).cs.setIfInBounds 6 (.int .i64 x) = (vm (v.set 6 x) k).cs := by
  match v, hv with
  | [v0, v1, v2, v3, v4, v5, v6, v7, v8, v9, v10], _ => exact vs_6_lit v0 v1 v2 v3 v4 v5 v6 v7 v8 v9 v10 x k
theorem vs_7_lit (v0 v1 v2 v3 v4 v5 v6 v7 v8 v9 v10 x k : Int) : (vm [v0, v1, v2, v3, v4, v5, v6, v7, v8, v9, v10] k).cs.setIfInBounds 7 (.int .i64 x) = (vm ([v0, v1, v2, v3, v4, v5, v6, v7, v8, v9, v10].set 8 x) k).cs := by kernel_rfl
theorem vs_7 (v : List Int) (hv : v.length = 11) (x k : Int) : (vm v k).cs.setIfInBounds 7 (.int .i64 x) = (vm (v.set 8 x) k).cs := by
  match v, hv with
  | [v0, v1, v2, v3, v4, v5, v6, v7, v8, v9, v10], _ => exact vs_7_lit v0 v1 v2 v3 v4 v5 v6 v7 v8 v9 v10 x k
theorem vs_8_lit (v0 v1 v2 v3 v4 v5 v6 v7 v8 v9 v10 x k : Int) : (vm [v0, v1, v2, v3, v4, v5, v6, v7, v8, v9, v10] k).cs.setIfInBounds 8 (.int .i64 x) = (vm ([v0, v1, v2, v3, v4, v5, v6, v7, v8, v9, v10].set 9 x) k).cs := by kernel_rfl
theorem vs_8 (v : List Int) (hv : v.length = 11) (x k : Int) : (vm v k).cs.setIfInBounds 8 (.int .i64 x) = (vm (v.set 9 x) k).cs := by
  match v, hv with
  | [v0, v1, v2, v3, v4, v5, v6, v7, v8, v9, v10], _ => exact vs_8_lit v0 v1 v2 v3 v4 v5 v6 v7 v8 v9 v10 x k
theorem vs_9_lit (v0 v1 v2 v3 v4 v5 v6 v7 v8 v9 v10 x k : Int) : (vm [v0, v1, v2, v3, v4, v5, v6, v7, v8, v9, v10] k).cs.setIfInBounds 9 (.bool (x == 1)) = (vm ([v0, v1, v2, v3, v4, v5, v6, v7, v8, v9, v10].set 3 x) k).cs := by kernel_rfl
theorem vs_9 (v : List Int) (hv : v.length = 11) (x k : Int) : (vm v k).cs.setIfInBounds 9 (.bool (x == 1)) = (vm (v.set 3 x) k).cs := by
  match v, hv with
  | [v0, v1, v2, v3, v4, v5, v6, v7, v8, v9, v10], _ => exact vs_9_lit v0 v1 v2 v3 v4 v5 v6 v7 v8 v9 v10 x k
theorem vs_10_lit (v0 v1 v2 v3 v4 v5 v6 v7 v8 v9 v10 x k : Int) : (vm [v0, v1, v2, v3, v4, v5, v6, v7, v8, v9, v10] k).cs.setIfInBounds 10 (.bool (x == 1)) = (vm ([v0, v1, v2, v3, v4, v5, v6, v7, v8, v9, v10].set 7 x) k).cs := by kernel_rfl
theorem vs_10 (v : List Int) (hv : v.length = 11) (x k : Int) : (vm v k).cs.setIfInBounds 10 (.bool (x == 1)) = (vm (v.set 7 x) k).cs := by
  match v, hv with
  | [v0, v1, v2, v3, v4, v5, v6, v7, v8, v9, v10], _ => exact vs_10_lit v0 v1 v2 v3 v4 v5 v6 v7 v8 v9 v10 x k
theorem vs_10no (v : List Int) (hv : v.length = 11) (x k : Int) : vm (v.set 10 x) k = vm v k := by
  match v, hv with
  | [v0, v1, v2, v3, v4, v5, v6, v7, v8, v9, v10], _ => rfl
end Go.Proofs.YtbfjkhafdkhhmaaDoor
