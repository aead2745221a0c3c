/- What Many of pack's cursor answers: contracts. -/
import Derived.Test.YtbgogeojdibmkaaDoorPackMore
namespace Go.Proofs.YtbgogeojdibmkaaDoor
open Go.ChangeShapes Go.WideShapes Go.ChangeAt Go.RowKit
set_option linter.unusedVariables false
set_option linter.unusedSimpArgs false

def i64s (l : List Int) : List Value := l.map (Value.int .i64)

/-- The first k numbers of bytes. -/
def numsTo (s : Nat) (l : List Int) (k : Nat) : List Int := (List.range k).map fun i => numOf ((l.drop (s * i)).take s)
theorem numsTo_succ (s : Nat) (l : List Int) (k : Nat) : numsTo s l (k + 1) = numsTo s l k ++ [numOf ((l.drop (s * k)).take s)] := by
  unfold numsTo; rw [List.range_succ, List.map_append]; rfl
theorem numsTo_length (s : Nat) (l : List Int) (k : Nat) : (numsTo s l k).length = k := by simp [numsTo]

/-- An append of what was just laid down, number by number, onto a row of the call's own. -/
theorem wpList_push3 {ops : Array Oper} {rest : List Oper} {o : Oper} {a : Act} {Q : Exit → Act → World → Prop} {w : World} {cs : Array Value} {base m : Nat} {v : Value} {xs : List Value} (hgd : o.guard = none) (s x : Operand)
    (ho : o.op = .call { callee := .builtin .append, args := #[s, x], argTypes := #[35, 35] }) (hs : a.eval s = v) (hx : a.eval x = .slice (some ⟨w.heap.size, 0, none⟩) cs.size cs.size)
    (hown : w.ownsRow base 3 1 v m xs) (h1 : ∀ u ∈ cs.toList, u.oneCell' = true) (hb : base ≤ w.heap.size) (hm : m + cs.size ≤ 200000)
    (h : ∀ v' w', w'.ownsRow base 3 1 v' (m + cs.size) (xs ++ cs.toList) → Below base w w' → wpList Tryd.prog ops Q rest (a.put o.dst v') w') :
    wpList Tryd.prog ops Q (o :: rest) a (w.alloc (.cells cs 3)) := by
  obtain ⟨i0, hi, hz0, hz1, hz2⟩ := info_parts info3
  refine wpList_append_own _ hgd s x 35 ho base 3 i0 (.int .i64 0) 1 8 Tryd.underlying35 hi hz0 hz1 hz2 rfl (by decide) v m xs hs (hown.alloc _) ⟨w.heap.size, 0, none⟩ cs.size cs.size cs.toList hx (by simp) ?_ h1 (by unfold maxLen; omega) (by omega) (by simp; omega) ?_
  · intro j u hj
    exact World.news_of_block (heap_alloc_new w _) j u hj
  · intro v' w' h2 h3 _
    refine h v' w' h2 (Below.grown ((Below.refl _ _).alloc hb _) h3 (by simp; omega) ?_)
    intro k hk
    exact (hown.lt k hk).1
theorem ownsRow_i64 {w : World} {base base' n m : Nat} {v : Value} {xs ys : List Value} (h : w.ownsRow base 3 1 v n xs) (hb : base = base') (hn : n = m) (hx : xs = ys) : w.ownsRow base' 3 1 v m ys := by subst hb; subst hn; subst hx; exact h
theorem cut_cut (L : List Int) (m p s : Nat) (h : p + s ≤ m) : ((L.take m).drop p).take s = (L.drop p).take s := by
  rw [List.drop_take, List.take_take]; congr 1; omega

/-- The numbers that are read. -/
def manyL (size n : Int) (l : List Int) (at_ len : Nat) (er : Int) : List Int := numsTo size.toNat (l.drop at_) (if rdE size n (len - at_) er = 0 then n.toNat else 0)

end Go.Proofs.YtbgogeojdibmkaaDoor
