/- Rows of the call's own beside each other: bytes, texts, a sum. -/
import Derived.Test.YtinfkjnneibklaaRefs
namespace Go.Proofs.Ytinfkjnneibklaa
open Go.ChangeShapes Go.WideShapes Go.ChangeAt Go.RowKit
set_option linter.unusedVariables false
set_option linter.unusedSimpArgs false

theorem info27 : (Try.prog.info? 27).map (fun i => (i.zero, i.size, i.bytes)) = some (some (.slice none 0 0), 1, 24) := by kernel_rfl

/-- Rows of different kinds lie apart. -/
theorem own_apart {w : World} {base base' : Nat} {e e' : TypeId} {size size' : Nat} {v v' : Value} {n n' : Nat} {xs xs' : List Value} (h : w.ownsRow base e size v n xs) (h' : w.ownsRow base' e' size' v' n' xs') (hne : e ≠ e') : v.ownBlock = none ∨ v.ownBlock ≠ v'.ownBlock := by
  rcases h.2 with ⟨rfl, _⟩ | ⟨g, cap, cur, rfl, _, hg, _⟩
  · exact .inl rfl
  · refine .inr ?_
    rcases h'.2 with ⟨rfl, _⟩ | ⟨g', cap', cur', rfl, _, hg', _⟩
    · simp [Value.ownBlock]
    · simp only [Value.ownBlock]
      intro he
      obtain rfl := Option.some.inj he
      rw [hg] at hg'
      simp at hg'
      exact hne hg'.2
theorem own_sum {w : World} {base : Nat} {e : TypeId} {size : Nat} {v : Value} {n : Nat} {xs : List Value} {c : Nat} {l : List Int} (h : w.ownsRow base e size v n xs) (hs : SumAt w c l) (hne : e ≠ 26) : v.ownBlock = none ∨ v.ownBlock ≠ some c := by
  rcases h.2 with ⟨rfl, _⟩ | ⟨g, cap, cur, rfl, _, hg, _⟩
  · exact .inl rfl
  · refine .inr ?_
    simp only [Value.ownBlock]
    intro he
    obtain rfl := Option.some.inj he
    rw [hs.block] at hg
    simp at hg
    exact hne hg.2.symm
theorem SumAt.kept {w w' : World} {row : Option Nat} {c : Nat} {l : List Int} (hs : SumAt w c l) (hg : w.grownBy w' row) (hne : row ≠ some c) : SumAt w' c l := ⟨by rw [hg.block c hs.lt (fun e => hne e.symm)]; exact hs.block, hs.oct, hs.small⟩
theorem sum_row {w : World} {base : Nat} {e : TypeId} {size : Nat} {v : Value} {n : Nat} {xs : List Value} {c : Nat} {l : List Int} (h : w.ownsRow base e size v n xs) (hs : SumAt w c l) (hne : e ≠ 26) : v.ownBlock ≠ some c := by
  rcases own_sum h hs hne with h | h
  · rw [h]; simp
  · exact h

/-- An append onto a row of the call's own, from wherever: what it writes. -/
theorem wpList_append_own_by {P : Program} (w : World) {ops : Array Oper} {rest : List Oper} {o : Oper} {a : Act} {Q : Exit → Act → World → Prop} (hgd : o.guard = none) (s x : Operand) (t : TypeId)
    (ho : o.op = .call { callee := .builtin .append, args := #[s, x], argTypes := #[t, t] })
    (base : Nat) (e : TypeId) (i : TypeInfo) (z : Value) (size bytes : Nat) (ht : P.underlying t = some (.slice e)) (hi : P.info? e = some i) (hz : i.zero = some z)
    (hsize : i.size = size) (hby : i.bytes = bytes) (hzs : z.cells.size = size) (hsz : 0 < size)
    (v : Value) (n : Nat) (xs : List Value) (hs : a.eval s = v) (hown : w.ownsRow base e size v n xs)
    (ao : Option Addr) (m c : Nat) (news : List Value) (hx : a.eval x = .slice ao m c) (hl : news.length = m * size) (hnone : ao = none → m = 0 ∧ c = 0) (hnews : ∀ ad, ao = some ad → ∀ j u, news[j]? = some u → w.cell? (ad.add j) = some u) (h1 : ∀ u ∈ news, u.oneCell' = true)
    (h63 : n + m ≤ maxLen) (hbytes : (n + m) * bytes ≤ 140737488355328) (hbase : base ≤ w.heap.size)
    (h : ∀ v' w', w'.ownsRow base e size v' (n + m) (xs ++ news) → w.grownBy w' v.ownBlock → wpList P ops Q rest (a.put o.dst v') w') : wpList P ops Q (o :: rest) a w := by
  cases ao with
  | some ad =>
    refine wpList_append_own w hgd s x t ho base e i z size bytes ht hi hz hsize hby hzs hsz v n xs hs hown ad m c news hx hl (hnews ad rfl) h1 h63 hbytes hbase ?_
    intro v' w' h2 h3 _
    exact h v' w' h2 h3
  | none =>
    obtain ⟨rfl, rfl⟩ := hnone rfl
    have hn : news = [] := List.eq_nil_of_length_eq_zero (by simpa using hl)
    subst hn
    refine wpList_append_own_none hgd s x t ho base e i size ht hi v n xs hs hown hx ?_
    exact h v w (by simpa using hown) (World.grownBy.refl _ _)

theorem bown {w w1 w2 : World} {e : TypeId} {size : Nat} {v : Value} {n : Nat} {xs : List Value} (h : Below w.heap.size w w1) (ho : w1.ownsRow w.heap.size e size v n xs) (k : w1.grownBy w2 v.ownBlock) : Below w.heap.size w w2 :=
  Below.grown h k h.size (fun j hj => (ho.lt j hj).1)

/-- A row of texts of the call's own. -/
theorem owns_texts {w : World} {base : Nat} {v : Value} {T : List Txt} (h : w.ownsRow base 27 1 v T.length (T.map Txt.v)) (hok : ∀ t ∈ T, t.ok w) : ∃ a cap, v = .slice a T.length cap ∧ Texts w a T.length cap T := by
  rcases h.2 with ⟨rfl, hn⟩ | ⟨g, cap, cur, rfl, hb, hg, hnc, hcm, hcs, hx⟩
  · exact ⟨none, 0, by rw [hn], rfl, by omega, by decide, fun k hk => by omega, hok⟩
  · refine ⟨_, cap, rfl, rfl, hnc, hcm, fun k hk => ⟨g, 0, rfl, ?_⟩, hok⟩
    rw [Nat.zero_add, cell_of_row w g k cur 27 (0, 0) hg]
    have h1 : (cur.toList.take (T.length * 1))[k]? = (T.map Txt.v)[k]? := by rw [hx]
    rw [List.getElem?_take, if_pos (by omega)] at h1
    simp [hk] at h1
    simp [h1, hk]

def cutT (t : Txt) : Txt := ⟨t.a, min t.n 300, t.cap, t.l.take (min t.n 300)⟩
def cutL (L : List Txt) (k : Nat) : List Txt := (L.take k).map cutT
theorem cutT_ok {w : World} {t : Txt} (h : t.ok w) : (cutT t).ok w := ⟨h.1.pre (min t.n 300) (Nat.min_le_left ..), oct_take h.2 _⟩
theorem cutL_snoc (L : List Txt) (k : Nat) (h : k < L.length) : cutL L (k + 1) = cutL L k ++ [cutT (L.getD k Txt.none)] := by
  rw [cutL, cutL, List.take_succ_eq_append_getElem h, List.map_append]; simp [h]
theorem cutL_length (L : List Txt) (k : Nat) (h : k ≤ L.length) : (cutL L k).length = k := by simp [cutL]; omega
theorem bytes_app (S T : List Txt) : bytes (S ++ T) = bytes S ++ bytes T := List.flatMap_append
theorem bytes_cutL (L : List Txt) (k : Nat) : (bytes (cutL L k)).length ≤ 300 * k := by
  induction k with
  | zero => simp [cutL, bytes]
  | succ k ih =>
    by_cases h : k < L.length
    · rw [cutL_snoc L k h, bytes_app, List.length_append]
      have : (bytes [cutT (L.getD k Txt.none)]).length ≤ 300 := by simp [bytes, cutT]; omega
      omega
    · have : cutL L (k + 1) = cutL L k := by unfold cutL; rw [List.take_of_length_le (by omega), List.take_of_length_le (by omega)]
      rw [this]; omega

/-- What stands in memory between two rounds of SumAdds. -/
structure LoopAt (w wr : World) (v4 v5 : Value) (T : List Txt) : Prop where
  sum : SumAt wr w.heap.size (bytes T)
  all : wr.ownsRow w.heap.size 5 1 v4 (bytes T).length (u8s (bytes T))
  txt : wr.ownsRow w.heap.size 27 1 v5 T.length (T.map Txt.v)
  oks : ∀ t ∈ T, t.ok w
  bel : Below w.heap.size w wr
end Go.Proofs.Ytinfkjnneibklaa
