/- What addr's groupsOf answers. -/
import Derived.Test.YtoijfnkbjdekoaaDoorGof
import Derived.Deep.AppendLies
import Derived.Laws.AppendOwnNone
namespace Go.Proofs.YtoijfnkbjdekoaaDoor
open Go.ChangeShapes Go.WideShapes Go.ChangeAt Go.RowKit
set_option linter.unusedVariables false
set_option linter.unusedSimpArgs false

/-- One number is put behind a row of the call's own: other blocks stay, and are still others. -/
theorem wp_push2 {ops : Array Oper} {rest : List Oper} {o : Oper} {a : Act} {Q : Exit → Act → World → Prop} {w : World} {x : Value} {base m : Nat} {v : Value} {xs : List Value} (hgd : o.guard = none) (s y : Operand)
    (ho : o.op = .call { callee := .builtin .append, args := #[s, y], argTypes := #[29, 29] }) (hs : a.eval s = v) (hx : a.eval y = .slice (some ⟨w.heap.size, 0, none⟩) 1 1)
    (hown : w.ownsRow base 3 1 v m xs) (h1 : x.oneCell' = true) (hb : base ≤ w.heap.size) (hm : m ≤ 200000)
    (h : ∀ a' cap w', w'.ownsRow base 3 1 (.slice (some a') (m + 1) cap) (m + 1) (xs ++ [x]) → Below base w w' → (∀ b, b < w.heap.size → some b ≠ v.ownBlock → w'.heap[b]? = w.heap[b]? ∧ b ≠ a'.block) → wpList Tryd.prog ops Q rest (a.put o.dst (.slice (some a') (m + 1) cap)) w') :
    wpList Tryd.prog ops Q (o :: rest) a (w.alloc (.cells #[x] 3)) := by
  obtain ⟨i0, hi, hz0, hz1', hz2⟩ := info_parts row3
  refine wpList_append_lies _ hgd s y 29 ho base 3 i0 _ 1 8 Tryd.underlying29 hi hz0 hz1' hz2 rfl (by decide) v m xs hs (hown.alloc _) ⟨w.heap.size, 0, none⟩ 1 1 [x] hx (by simp) (cell_one_new _ _ _) (by simpa using h1) (by decide) (by unfold maxLen; omega) (by omega) (by simp; omega) (w.heap.size + 1) (by simp) ?_
  intro g cap w' h2 h3 h4 h5
  refine h ⟨g, 0, none⟩ cap w' h2 (Below.grown ((Below.refl _ _).alloc hb _) h3 (by simp; omega) (fun k hk => (hown.lt k hk).1)) ?_
  intro b hlt hne
  refine ⟨(h3.block b (by simp; omega) hne).trans (Below.heap_alloc w _ b hlt), ?_⟩
  rcases h4 with h4 | h4
  · intro e; apply hne; rw [h4, e]
  · show b ≠ g; omega

/-- A slice's numbers are put behind a row of the call's own. -/
theorem wp_appv {ops : Array Oper} {rest : List Oper} {o : Oper} {a : Act} {Q : Exit → Act → World → Prop} {w : World} {base m : Nat} {v : Value} {xs : List Value} (hgd : o.guard = none) (s y : Operand)
    (ho : o.op = .call { callee := .builtin .append, args := #[s, y], argTypes := #[29, 29] }) (ao : Option Addr) (n c : Nat) (hs : a.eval s = v) (hx : a.eval y = .slice ao n c)
    (hown : w.ownsRow base 3 1 v m xs) (l : List Int) (hl : l.length = n) (hnone : ao = none → n = 0 ∧ c = 0) (hc : ∀ ad, ao = some ad → ∀ j u, (i64c l)[j]? = some u → w.cell? (ad.add j) = some u) (hb : base ≤ w.heap.size) (hm : m + n ≤ 200000)
    (h : ∀ v' w', w'.ownsRow base 3 1 v' (m + n) (xs ++ i64c l) → Below base w w' → wpList Tryd.prog ops Q rest (a.put o.dst v') w') :
    wpList Tryd.prog ops Q (o :: rest) a w := by
  obtain ⟨i0, hi, hz0, hz1', hz2⟩ := info_parts row3
  cases ao with
  | some ad =>
    refine wpList_append_own w hgd s y 29 ho base 3 i0 _ 1 8 Tryd.underlying29 hi hz0 hz1' hz2 rfl (by decide) v m xs hs hown ad n c (i64c l) hx (by simp [i64c, hl]) (hc ad rfl) (by intro u hu; simp only [i64c, List.mem_map] at hu; obtain ⟨z, _, rfl⟩ := hu; rfl) (by unfold maxLen; omega) (by omega) hb ?_
    intro v' w' h2 h3 _
    exact h v' w' h2 (Below.grown (Below.refl _ _) h3 hb (fun k hk => (hown.lt k hk).1))
  | none =>
    obtain ⟨rfl, rfl⟩ := hnone rfl
    have hn : l = [] := List.eq_nil_of_length_eq_zero hl
    subst hn
    refine wpList_append_own_none hgd s y 29 ho base 3 i0 1 Tryd.underlying29 hi v m xs hs hown hx ?_
    exact h v w (by simpa [i64c] using hown) (Below.refl _ _)

/-- A row of the call's own, as a slice. -/
theorem own_form {w : World} {base : Nat} {v : Value} {l : List Int} (h : w.ownsRow base 3 1 v l.length (i64c l)) :
    ∃ a c, v = .slice a l.length c ∧ (a = none → l.length = 0 ∧ c = 0) ∧ ∀ ad, a = some ad → base ≤ ad.block ∧ ad.block < w.heap.size ∧ ∀ j u, (i64c l)[j]? = some u → w.cell? (ad.add j) = some u := by
  rcases own_cells h (by simp [i64c]) with ⟨rfl, hn⟩ | ⟨g, cap, rfl, hnc, hb, hg, hc⟩
  · refine ⟨none, 0, by rw [hn], ?_, ?_⟩
    · intro _; exact ⟨hn, rfl⟩
    · intro ad e; cases e
  · refine ⟨some ⟨g, 0, none⟩, cap, rfl, ?_, ?_⟩
    · intro e; cases e
    rintro ad e
    obtain rfl := Option.some.inj e
    refine ⟨hb, hg, fun j u hj => ?_⟩
    rw [Addr.add_mid, Nat.zero_add]
    exact hc j u hj
theorem own_lies {w : World} {base : Nat} {v : Value} {l : List Int} (h : w.ownsRow base 3 1 v l.length (i64c l)) : ∃ a c, v = .slice a l.length c ∧ Lies w a l.length l := by
  rcases own_cells h (by simp [i64c]) with ⟨rfl, hn⟩ | ⟨g, cap, rfl, hnc, hb, hg, hc⟩
  · exact ⟨none, 0, by rw [hn], rfl, fun k hk => by omega⟩
  · refine ⟨some ⟨g, 0, none⟩, cap, rfl, rfl, fun k hk => ⟨g, 0, rfl, ?_, hg⟩⟩
    rw [Nat.zero_add]
    exact hc k _ (by simp [i64c, hk])

def lenOf : Value → Nat
  | .slice _ n _ => n
  | _ => 0
def cutF (s : ByteArray) : ByteArray := ⟨(Lib.cut s.data.toList [58, 58]).1.toArray⟩
def cutB (s : ByteArray) : ByteArray := ⟨(Lib.cut s.data.toList [58, 58]).2.1.toArray⟩
def cutS (s : ByteArray) : Bool := (Lib.cut s.data.toList [58, 58]).2.2
/-- The groups that a text names. -/
def gofL (s : ByteArray) : List Int := if cutS s then nums (cutF s) ++ List.replicate (8 - ((nums (cutF s)).length + (nums (cutB s)).length)) 0 ++ nums (cutB s) else nums (cutF s) ++ nums (cutB s)
theorem cut_sizes (s : ByteArray) : (cutF s).size ≤ s.size ∧ (cutB s).size ≤ s.size := by
  obtain ⟨⟨d⟩⟩ := s
  have h : ∀ l : List UInt8, (⟨l.toArray⟩ : ByteArray).size = l.length := fun l => by show l.toArray.size = _; simp
  have hs : (⟨⟨d⟩⟩ : ByteArray).size = d.length := rfl
  unfold cutF cutB Lib.cut
  rw [hs]
  split
  · constructor
    · rw [h]; simp only [List.length_take]; omega
    · rw [h]; simp only [List.length_drop]; omega
  · constructor
    · rw [h]; exact Nat.le_refl _
    · rw [h]; simp

set_option maxRecDepth 100000 in
set_option maxHeartbeats 1600000 in
theorem groupsOf_any (s : ByteArray) (w : World) (hs : s.size ≤ 100) (hV : Vars w) :
    Calls Tryd.prog 29 #[.string s] w fun e w' => ∃ v, e = .returned v ∧ w'.ownsRow w.heap.size 3 1 v (gofL s).length (i64c (gofL s)) ∧ Below w.heap.size w w' := by
  obtain ⟨m, hm⟩ := hV.1
  have hcut : Calls Tryd.prog 37 #[.string s, .string ⟨#[58, 58]⟩] w fun e w' => e = .returned (.tuple #[.string (cutF s), .string (cutB s), .bool (cutS s)]) ∧ ∃ n, w' = w.drewN n := Tryd.strings_Cut s ⟨#[58, 58]⟩ m w (by omega) hm
  have hsF := (cut_sizes s).1
  have hsB := (cut_sizes s).2
  have hG : gofL s = if cutS s then nums (cutF s) ++ List.replicate (8 - ((nums (cutF s)).length + (nums (cutB s)).length)) 0 ++ nums (cutB s) else nums (cutF s) ++ nums (cutB s) := rfl
  have HCut : Hid (Calls Tryd.prog 37 #[.string s, .string ⟨#[58, 58]⟩] w fun e w' => e = .returned (.tuple #[.string (cutF s), .string (cutB s), .bool (cutS s)]) ∧ ∃ n, w' = w.drewN n) := hcut
  clear hcut
  have nF := nums_len (cutF s)
  have nB := nums_len (cutB s)
  generalize cutF s = f at *
  generalize cutB s = b at *
  generalize cutS s = q at *
  obtain ⟨F, hF⟩ : ∃ F, nums f = F := ⟨_, rfl⟩
  obtain ⟨B, hB⟩ : ∃ B, nums b = B := ⟨_, rfl⟩
  have hnF := numbers_any f
  have hnB := numbers_any b
  rw [hF] at hG hnF nF
  rw [hB] at hG hnB nB
  have HG : Hid (gofL s = if q then F ++ List.replicate (8 - (F.length + B.length)) 0 ++ B else F ++ B) := hG
  have HnF : Hid (∀ (w : World), f.size ≤ 100 → Vars w → Calls Tryd.prog 38 #[.string f] w fun e w' => ∃ v, e = .returned v ∧ w'.ownsRow w.heap.size 3 1 v F.length (i64c F) ∧ Below w.heap.size w w') := hnF
  have HnB : Hid (∀ (w : World), b.size ≤ 100 → Vars w → Calls Tryd.prog 38 #[.string b] w fun e w' => ∃ v, e = .returned v ∧ w'.ownsRow w.heap.size 3 1 v B.length (i64c B) ∧ Below w.heap.size w w') := hnB
  clear hG hnF hnB hF hB
  obtain ⟨nf, hnf⟩ : ∃ nf, F.length = nf := ⟨_, rfl⟩
  obtain ⟨nb, hnb⟩ : ∃ nb, B.length = nb := ⟨_, rfl⟩
  rw [hnf] at nF
  rw [hnb] at nB
  have HnfL : Hid (F.length = nf) := hnf
  have HnbL : Hid (B.length = nb) := hnb
  clear hnf hnb
  cases q
  · go_enter Tryd.func29, Tryd.ntmps29
    go_wp2_with (go_at_call 37; refine HCut.out.mono ?_; rintro e w1 ⟨rfl, qn, rfl⟩)
    refine (HnF.out _ (by omega) (hV.below (w' := w.drewN qn) (below_drewN (Below.refl _ _) _) hV.2.2.2.2)).mono ?_
    rintro e w1 ⟨v1, rfl, hO1, hb1⟩
    have O1 : Hid (w1.ownsRow w.heap.size 3 1 v1 F.length (i64c F)) := hO1
    have B1 : Hid (Below w.heap.size w w1) := below_drop hb1
    clear hO1 hb1
    go_wp2_with fail
    refine (HnB.out _ (by omega) (hV.grow B1.out)).mono ?_
    rintro e w2 ⟨v2, rfl, hO2, hb2⟩
    obtain ⟨a1, c1, rfl, hn1, hx1⟩ := own_form (own_below O1.out hb2)
    obtain ⟨a2, c2, rfl, hn2, hx2⟩ := own_form hO2
    have O3 : Hid (w2.ownsRow w.heap.size 3 1 (.slice a1 nf c1) nf (i64c F)) := by have := own_below O1.out hb2; rw [HnfL.out] at this; exact this
    have B2 : Hid (Below w.heap.size w w2) := B1.out.trans (hb2.mono B1.out.size)
    have N2 : Hid (a2 = none → nb = 0 ∧ c2 = 0) := by rw [HnbL.out] at hn2; exact hn2
    have X2 : Hid (∀ ad, a2 = some ad → w1.heap.size ≤ ad.block ∧ ad.block < w2.heap.size ∧ ∀ j u, (i64c B)[j]? = some u → w2.cell? (ad.add j) = some u) := hx2
    have Y1 : Hid (∀ ad, a1 = some ad → ad.block < w1.heap.size) := by
      obtain ⟨a1', c1', e1, _, hx⟩ := own_form O1.out
      injection e1 with e1 _ _
      subst e1
      exact fun ad e => (hx ad e).2.1
    rw [HnfL.out, HnbL.out]
    clear hO2 hb2 hn1 hx1 hn2 hx2 O1
    go_wp2_with (at_builtin; refine wp_appv rfl _ _ rfl a2 nb c2 rfl rfl O3.out B HnbL.out N2.out (fun ad e => (X2.out ad e).2.2) ?_ ?_ ?_)
    case refine_1 => exact B2.out.size
    case refine_2 => omega
    intro v3 w3 hO3 hb3
    have O4 : Hid (w3.ownsRow w.heap.size 3 1 v3 (gofL s).length (i64c (gofL s))) := own_as hO3 (by rw [HG.out]; simp [HnfL.out, HnbL.out]) (by rw [HG.out]; simp [i64c])
    have B3 : Hid (Below w.heap.size w w3) := B2.out.trans hb3
    clear hO3 hb3
    go_wp2
    go_ret
    exact ⟨_, rfl, O4.out, B3.out⟩
  · go_enter Tryd.func29, Tryd.ntmps29
    go_wp2_with (go_at_call 37; refine HCut.out.mono ?_; rintro e w1 ⟨rfl, qn, rfl⟩)
    refine (HnF.out _ (by omega) (hV.below (w' := w.drewN qn) (below_drewN (Below.refl _ _) _) hV.2.2.2.2)).mono ?_
    rintro e w1 ⟨v1, rfl, hO1, hb1⟩
    have O1 : Hid (w1.ownsRow w.heap.size 3 1 v1 F.length (i64c F)) := hO1
    have B1 : Hid (Below w.heap.size w w1) := below_drop hb1
    clear hO1 hb1
    go_wp2_with fail
    refine (HnB.out _ (by omega) (hV.grow B1.out)).mono ?_
    rintro e w2 ⟨v2, rfl, hO2, hb2⟩
    obtain ⟨a1, c1, rfl, hn1, hx1⟩ := own_form (own_below O1.out hb2)
    obtain ⟨a2, c2, rfl, hn2, hx2⟩ := own_form hO2
    have O3 : Hid (w2.ownsRow w.heap.size 3 1 (.slice a1 nf c1) nf (i64c F)) := by have := own_below O1.out hb2; rw [HnfL.out] at this; exact this
    have B2 : Hid (Below w.heap.size w w2) := B1.out.trans (hb2.mono B1.out.size)
    have N2 : Hid (a2 = none → nb = 0 ∧ c2 = 0) := by rw [HnbL.out] at hn2; exact hn2
    have X2 : Hid (∀ ad, a2 = some ad → w1.heap.size ≤ ad.block ∧ ad.block < w2.heap.size ∧ ∀ j u, (i64c B)[j]? = some u → w2.cell? (ad.add j) = some u) := hx2
    have Y1 : Hid (∀ ad, a1 = some ad → ad.block < w1.heap.size) := by
      obtain ⟨a1', c1', e1, _, hx⟩ := own_form O1.out
      injection e1 with e1 _ _
      subst e1
      exact fun ad e => (hx ad e).2.1
    rw [HnfL.out, HnbL.out]
    clear hO2 hb2 hn1 hx1 hn2 hx2 O1
    go_wp2
    go_loopw [6] (fun v wr => ∃ (ax : Option Addr) (cx j : Nat), v = .slice ax (nf + j) cx ∧ nf + nb + j ≤ 300 ∧ (j = 0 ∨ nf + nb + j ≤ 8) ∧ Hid (wr.ownsRow w.heap.size 3 1 (.slice ax (nf + j) cx) (nf + j) (i64c (F ++ List.replicate j 0))) ∧ Hid (Below w.heap.size w wr) ∧
        Hid (∀ ad, a2 = some ad → ad.block < wr.heap.size ∧ wr.heap[ad.block]? = w2.heap[ad.block]? ∧ ∀ x, ax = some x → ad.block ≠ x.block))
      (fun v _ => 300 - lenOf v)
    case atStart =>
      refine ⟨a1, c1, 0, rfl, by omega, Or.inl rfl, ?_, B2.out, ?_⟩
      · exact own_as O3.out (by omega) (by simp)
      · intro ad e
        refine ⟨(X2.out ad e).2.1, rfl, ?_⟩
        intro x ex
        have h1 := (X2.out ad e).1
        have h2 := Y1.out x ex
        omega
    case round =>
      obtain ⟨ax, cx, j, rfl, hj, hj8, HO, HB, HX⟩ := hrel
      by_cases hlt : nf + nb + j < 8
      · have i1 : ((nf + j : Nat) : Int) + (nb : Int) < 8 := by omega
        go_wp2_with (at_builtin; refine wp_push2 rfl _ _ rfl rfl rfl HO.out rfl ?_ ?_ ?_)
        case refine_1 => exact HB.out.size
        case refine_2 => omega
        intro ay cy w3 hO3 hb3 hx3
        have O4 : Hid (w3.ownsRow w.heap.size 3 1 (.slice (some ay) (nf + (j + 1)) cy) (nf + (j + 1)) (i64c (F ++ List.replicate (j + 1) 0))) := own_as hO3 rfl (by rw [List.replicate_succ']; simp [i64c])
        have B3 : Hid (Below w.heap.size w w3) := HB.out.trans hb3
        have X3 : Hid (∀ ad, a2 = some ad → ad.block < w3.heap.size ∧ w3.heap[ad.block]? = w2.heap[ad.block]? ∧ ∀ x, some ay = some x → ad.block ≠ x.block) := by
          intro ad e
          obtain ⟨x1, x2, x3⟩ := HX.out ad e
          have hne : some ad.block ≠ (Value.slice ax (nf + j) cx).ownBlock := by
            cases ax with
            | none => simp [Value.ownBlock]
            | some x => simp only [Value.ownBlock]; intro e; exact x3 x rfl (Option.some.inj e)
          obtain ⟨y1, y2⟩ := hx3 ad.block x1 hne
          refine ⟨Nat.lt_of_lt_of_le x1 hb3.size, y1.trans x2, ?_⟩
          intro x ex; obtain rfl := Option.some.inj ex; exact y2
        clear hO3 hb3 hx3
        go_wp2
        go_roundw
        case rel => exact ⟨some ay, cy, j + 1, rfl, by omega, Or.inr (by omega), O4, B3, X3⟩
        case measure => simp [lenOf]; omega
      · have i1 : ¬ ((nf + j : Nat) : Int) + (nb : Int) < 8 := by omega
        have XC : Hid (∀ ad, a2 = some ad → ∀ jj u, (i64c B)[jj]? = some u → wr.cell? (ad.add jj) = some u) := by
          intro ad e jj u hu
          refine Eq.trans (World.cell?_of_block (w := w2) (a := ad.add jj) ?_) ((X2.out ad e).2.2 jj u hu)
          have hbl : (ad.add jj).block = ad.block := by unfold Addr.add; split <;> rfl
          rw [hbl]; exact (HX.out ad e).2.1
        have HJ : Hid (j = 8 - (nf + nb)) := by show _ = _; omega
        go_wp2_with (at_builtin; refine wp_appv rfl _ _ rfl a2 nb c2 rfl rfl HO.out B HnbL.out N2.out XC.out ?_ ?_ ?_)
        case refine_1 => exact HB.out.size
        case refine_2 => omega
        intro v3 w3 hO3 hb3
        have O4 : Hid (w3.ownsRow w.heap.size 3 1 v3 (gofL s).length (i64c (gofL s))) := own_as hO3 (by rw [HG.out, if_pos (by trivial), HnfL.out, HnbL.out, ← HJ.out]; simp [HnfL.out, HnbL.out]; omega) (by rw [HG.out, if_pos (by trivial), HnfL.out, HnbL.out, ← HJ.out]; simp [i64c])
        have B3 : Hid (Below w.heap.size w w3) := HB.out.trans hb3
        clear hO3 hb3
        go_wp2
        go_ret
        exact ⟨_, rfl, O4.out, B3.out⟩
end Go.Proofs.YtoijfnkbjdekoaaDoor
