/- What Many of pack's cursor answers: contracts. -/
import Derived.Test.YtlfblldaiinghaaMore
namespace Go.Proofs.Ytlfblldaiinghaa
open Go.ChangeShapes Go.WideShapes Go.ChangeAt Go.RowKit
set_option linter.unusedVariables false
set_option linter.unusedSimpArgs false

def i64s (l : List Int) : List Value := l.map (Value.int .i64)

theorem many_no (w : World) (c : Nat) (a : Option Addr) (len cap at_ : Nat) (l : List Int) (er size n : Int) (h : CurAt w c a len cap l at_ er) (hE : rdE size n (len - at_) er ≠ 0) :
    Calls Try.prog 16 #[.pointer (some ⟨c, 0, none⟩), .int .i64 size, .int .i64 n] w fun e w' => e = .returned (.slice none 0 0) ∧
      CurAt w' c a len cap l at_ (rdE size n (len - at_) er) ∧ w.grownBy w' (some c) := by
  have hm : rdN size n (len - at_) er = 0 := by rw [rdN, if_neg hE]
  have H := hid h
  have HM := hid hm
  clear h hE hm
  go_enter Try.func16, Try.ntmps16
  go_wp2_with fail
  refine (read_any _ c a len cap at_ l er size n H.out).mono ?_
  rintro e w1 ⟨a1, rfl, hl1, hc1, hg1, hs1⟩
  rw [HM.out] at hc1 ⊢
  have HC1 := hid hc1
  have HG1 := hid hg1
  clear hl1 hc1 hg1 hs1
  go_wp2
  refine wp_loop_rounds 1 ?_
  rw [rounds_succ]
  go_wp2
  go_ret
  exact ⟨rfl, HC1.out, HG1.out⟩

theorem many_nil (w : World) (size n : Int) :
    Calls Try.prog 16 #[.pointer none, .int .i64 size, .int .i64 n] w fun e w' => e = .returned (.slice none 0 0) ∧ w' = w := by
  go_enter Try.func16, Try.ntmps16
  go_wp2_with (go_at_call 32; refine (read_nil _ _ _).mono ?_; rintro e w1 ⟨rfl, rfl⟩)
  refine wp_loop_rounds 1 ?_
  rw [rounds_succ]
  go_wp2
  go_ret
  exact ⟨rfl, rfl⟩

/-- The first k numbers of bytes. -/
def numsTo (s : Nat) (l : List Int) (k : Nat) : List Int := (List.range k).map fun i => numOf ((l.drop (s * i)).take s)
theorem numsTo_succ (s : Nat) (l : List Int) (k : Nat) : numsTo s l (k + 1) = numsTo s l k ++ [numOf ((l.drop (s * k)).take s)] := by
  unfold numsTo; rw [List.range_succ, List.map_append]; rfl
theorem numsTo_length (s : Nat) (l : List Int) (k : Nat) : (numsTo s l k).length = k := by simp [numsTo]

/-- An append of what was just laid down, number by number, onto a row of the call's own. -/
theorem wpList_push3 {ops : Array Oper} {rest : List Oper} {o : Oper} {a : Act} {Q : Exit → Act → World → Prop} {w : World} {cs : Array Value} {base m : Nat} {v : Value} {xs : List Value} (hgd : o.guard = none) (s x : Operand)
    (ho : o.op = .call { callee := .builtin .append, args := #[s, x], argTypes := #[23, 23] }) (hs : a.eval s = v) (hx : a.eval x = .slice (some ⟨w.heap.size, 0, none⟩) cs.size cs.size)
    (hown : w.ownsRow base 3 1 v m xs) (h1 : ∀ u ∈ cs.toList, u.oneCell' = true) (hb : base ≤ w.heap.size) (hm : m + cs.size ≤ 200000)
    (h : ∀ v' w', w'.ownsRow base 3 1 v' (m + cs.size) (xs ++ cs.toList) → Below base w w' → wpList Try.prog ops Q rest (a.put o.dst v') w') :
    wpList Try.prog ops Q (o :: rest) a (w.alloc (.cells cs 3)) := by
  obtain ⟨i0, hi, hz0, hz1, hz2⟩ := info_parts info3
  refine wpList_append_own _ hgd s x 23 ho base 3 i0 (.int .i64 0) 1 8 Try.underlying23 hi hz0 hz1 hz2 rfl (by decide) v m xs hs (hown.alloc _) ⟨w.heap.size, 0, none⟩ cs.size cs.size cs.toList hx (by simp) ?_ h1 (by unfold maxLen; omega) (by omega) (by simp; omega) ?_
  · intro j u hj
    exact World.news_of_block (heap_alloc_new w _) j u hj
  · intro v' w' h2 h3 _
    refine h v' w' h2 (Below.grown ((Below.refl _ _).alloc hb _) h3 (by simp; omega) ?_)
    intro k hk
    exact (hown.lt k hk).1
theorem ownsRow_i64 {w : World} {base base' n m : Nat} {v : Value} {xs ys : List Value} (h : w.ownsRow base 3 1 v n xs) (hb : base = base') (hn : n = m) (hx : xs = ys) : w.ownsRow base' 3 1 v m ys := by subst hb; subst hn; subst hx; exact h
theorem cut_cut (L : List Int) (m p s : Nat) (h : p + s ≤ m) : ((L.take m).drop p).take s = (L.drop p).take s := by
  rw [List.drop_take, List.take_take]; congr 1; omega

set_option maxHeartbeats 800000 in
theorem many_ok (w : World) (c : Nat) (a : Option Addr) (len cap at_ s N : Nat) (l : List Int) (h : CurAt w c a len cap l at_ 0) (hz : sizeB s = true) (hN : s * N ≤ len - at_) (hw : (Lit.int .i64 N).wf = true) :
    Calls Try.prog 16 #[.pointer (some ⟨c, 0, none⟩), .int .i64 s, .int .i64 N] w fun e w' => ∃ v, e = .returned v ∧ w'.ownsRow w.heap.size 3 1 v N (i64s (numsTo s (l.drop at_) N)) ∧
      CurAt w' c a len cap l (at_ + s * N) 0 ∧ w.grownBy w' (some c) := by
  have hs4 : 1 ≤ s ∧ s ≤ 4 := by rcases sizeB_cases hz with h | h | h <;> omega
  have hE : rdE s N (len - at_) 0 = 0 := by
    have : ¬ (((len - at_ : Nat) : Int) < (s : Int) * N) := by rw [← Int.natCast_mul]; omega
    simp [rdE, hz, this]
  have hM : rdN s N (len - at_) 0 = s * N := by rw [rdN, if_pos hE]; rw [← Int.natCast_mul]; exact Int.toNat_natCast _
  have hNN : N ≤ s * N := by have := Nat.mul_le_mul_right N hs4.1; omega
  have hsm := h.small
  have H := hid h
  have HE := hid hE
  have HM := hid hM
  have HO := hid h.oct
  have HZ := hid hz
  obtain ⟨i0, hi, hz0, hz1, hz2⟩ := info_parts info3
  clear h hE hM hz
  go_enter Try.func16, Try.ntmps16
  go_wp2_with fail
  refine (read_any _ c a len cap at_ l 0 s N H.out).mono ?_
  rintro e w1 ⟨a1, rfl, hl1, hc1, hg1, hs1⟩
  rw [HM.out] at hl1 hc1 ⊢
  rw [HE.out] at hc1
  generalize hmm : s * N = m at *
  have HMM := hid hmm
  have HC1 := hid hc1
  have HG1 := hid hg1
  have HL1 := hid hl1
  have HS1 := hid hs1
  clear hl1 hc1 hg1 hs1 hmm
  go_wp2
  go_loopw [7, 9] (fun v i wr => ∃ k p : Nat, k ≤ N ∧ Hid (p = s * k) ∧ p ≤ m ∧ i = .int .i64 p ∧ wr.ownsRow w1.heap.size 3 1 v k (i64s (numsTo s (l.drop at_) k)) ∧ Below w1.heap.size w1 wr) (fun _ i _ => m - (intOf i).toNat)
  case atStart => exact ⟨0, 0, Nat.zero_le _, rfl, Nat.zero_le _, rfl, World.ownsRow_nil _ _ _ _, Below.refl _ _⟩
  case round =>
    obtain ⟨k, p, hk, Hp, hpm, rfl, hown, hbr⟩ := hrel
    by_cases hlt : k < N
    · have hps : p + s ≤ m := by rw [Hp.out, ← HMM.out]; exact Nat.mul_le_mul_left s hlt
      have hlr := HL1.out.below hbr
      have HLR := hid (hlr.cut p s m (by omega) (by omega) (Nat.le_refl _) (a' := a1.map (·.add p)) (fun _ => rfl) (fun h => by omega))
      have hne : ¬ m = p := by omega
      clear hlr
      have HS := hid (numsTo_succ s (l.drop at_) k)
      have HV : Hid ((((l.drop at_).take m).drop p).take s = ((l.drop at_).drop (s * k)).take s) := by rw [Hid, cut_cut _ m p s hps, ← Hp.out]
      go_wp2_with fail
      refine (number_any _ _ _ _ _ HLR.out hs4.2 ((HO.out.cut at_ m).cut p s)).mono ?_
      rintro e wr ⟨rfl, rfl⟩
      rw [HV.out]
      generalize numOf (((l.drop at_).drop (s * k)).take s) = x at *
      go_wp2_with (at_builtin; refine wpList_push3 rfl _ _ rfl rfl rfl hown ?_ hbr.size ?_ ?_)
      case refine_1 => first | rfl | exact ⟨rfl, rfl⟩
      case refine_2 => simp; omega
      intro v3 w3 hown3 hb3
      have HO3 := hid hown3
      have HB3 := hid hb3
      clear hown3 hb3 hown
      go_wp2
      go_roundw
      case rel => exact ⟨k + 1, p + s, by omega, by rw [Hid, Hp.out, Nat.mul_add]; omega, by omega, by go_num, ownsRow_i64 HO3.out rfl rfl (by rw [HS.out]; simp [i64s]), hbr.trans HB3.out⟩
      case measure => simp [intOf]; omega
    · obtain rfl : k = N := by omega
      have hpm : p = m := by rw [Hp.out, HMM.out]
      have Hpm := hid hpm
      have hd : decide (p < m) = false := by simp; omega
      clear hpm
      go_wp2
      go_ret
      refine ⟨_, rfl, ownsRow_i64 hown HS1.out rfl rfl, ?_, grownBy_below HG1.out hbr⟩
      rw [HMM.out]
      exact HC1.out.below hbr
/-- The numbers that are read. -/
def manyL (size n : Int) (l : List Int) (at_ len : Nat) (er : Int) : List Int := numsTo size.toNat (l.drop at_) (if rdE size n (len - at_) er = 0 then n.toNat else 0)

theorem many_any (w : World) (c : Nat) (a : Option Addr) (len cap at_ : Nat) (l : List Int) (er size n : Int) (h : CurAt w c a len cap l at_ er) (hw : (Lit.int .i64 n).wf = true) :
    Calls Try.prog 16 #[.pointer (some ⟨c, 0, none⟩), .int .i64 size, .int .i64 n] w fun e w' => ∃ v, e = .returned v ∧ w'.ownsRow w.heap.size 3 1 v (manyL size n l at_ len er).length (i64s (manyL size n l at_ len er)) ∧
      CurAt w' c a len cap l (at_ + rdN size n (len - at_) er) (rdE size n (len - at_) er) ∧ w.grownBy w' (some c) := by
  by_cases hE : rdE size n (len - at_) er = 0
  · have her : er = 0 := by
      by_cases h0 : er = 0
      · exact h0
      · simp [rdE, h0] at hE
    subst her
    have hn : 0 ≤ n ∧ sizeB size = true ∧ size * n ≤ ((len - at_ : Nat) : Int) := by
      unfold rdE at hE
      rw [if_pos rfl] at hE
      split at hE
      · omega
      · split at hE
        · omega
        · rename_i h1 h2
          refine ⟨by omega, ?_, by omega⟩
          cases hz : sizeB size
          · exact absurd (Or.inr hz) h1
          · rfl
    obtain ⟨hn0, hz, hle⟩ := hn
    obtain ⟨N, rfl⟩ := Int.eq_ofNat_of_zero_le hn0
    obtain ⟨s, rfl⟩ := Int.eq_ofNat_of_zero_le (show 0 ≤ size by rcases sizeB_cases hz with h | h | h <;> omega)
    have hle' : s * N ≤ len - at_ := by rw [← Int.natCast_mul] at hle; omega
    have hM : rdN s N (len - at_) 0 = s * N := by rw [rdN, if_pos hE]; rw [← Int.natCast_mul]; exact Int.toNat_natCast _
    have hL : manyL s N l at_ len 0 = numsTo s (l.drop at_) N := by rw [manyL, if_pos hE]; simp
    refine (many_ok w c a len cap at_ s N l h hz hle' hw).mono ?_
    rintro e w' ⟨v, rfl, h1, h2, h3⟩
    rw [hM, hE, hL, numsTo_length]
    exact ⟨v, rfl, h1, h2, h3⟩
  · refine (many_no w c a len cap at_ l er size n h hE).mono ?_
    rintro e w' ⟨rfl, h2, h3⟩
    have hM : rdN size n (len - at_) er = 0 := by rw [rdN, if_neg hE]
    have hL : manyL size n l at_ len er = [] := by rw [manyL, if_neg hE]; rfl
    rw [hM, hL]
    exact ⟨_, rfl, World.ownsRow_nil _ _ _ _, h2, h3⟩
end Go.Proofs.Ytlfblldaiinghaa
