/- The first one of some kinds; what is left; one of many options. -/
import Derived.Test.YtbgogeojdibmkaaDoorFwo
import Derived.Test.YtbgogeojdibmkaaDoorSam4
import Derived.Test.YtbgogeojdibmkaaDoorOff
import Derived.Test.YtbgogeojdibmkaaDoorJoinsWalk
namespace Go.Proofs.YtbgogeojdibmkaaDoor
open Go.ChangeShapes Go.WideShapes Go.ChangeAt Go.RowKit Go.Deep
set_option linter.unusedVariables false
set_option linter.unusedSimpArgs false

/-- The first one of some kinds among so many. -/
def fstTo (ks : List Int) (L : List Ov) : Nat → Int
  | 0 => -1
  | k + 1 => if hitB ks (L.getD k Ov.zero).k = true ∧ fstTo ks L k < 0 then k else fstTo ks L k
theorem fstTo_bd (ks : List Int) (L : List Ov) (k : Nat) : -1 ≤ fstTo ks L k ∧ fstTo ks L k < k := by
  induction k with
  | zero => simp [fstTo]
  | succ k ih => rw [fstTo]; split <;> omega
theorem fstTo_none (ks : List Int) (L : List Ov) (k : Nat) (h : ∀ j, j < k → hitB ks (L.getD j Ov.zero).k = false) : fstTo ks L k = -1 := by
  induction k with
  | zero => rfl
  | succ k ih => rw [fstTo, h k (by omega), if_neg (by simp), ih (fun j hj => h j (by omega))]
theorem fstTo_some (ks : List Int) (L : List Ov) (i k : Nat) (hi : i < k) (hy : hitB ks (L.getD i Ov.zero).k = true) (h : ∀ j, j < i → hitB ks (L.getD j Ov.zero).k = false) : fstTo ks L k = i := by
  induction k with
  | zero => omega
  | succ k ih =>
    rw [fstTo]
    by_cases e : i = k
    · subst e
      rw [if_pos ⟨hy, by rw [fstTo_none ks L i h]; decide⟩]
    · have := ih (by omega)
      rw [if_neg (by rw [this]; omega), this]
theorem lft_get (ks : List Int) (P : List Po) (j : Nat) (h : j < P.length) (hh : hitB ks (P.getD j Po.none).k = false) : (lft ks (P.take j)).length < (lft ks P).length ∧ (lft ks P).getD (lft ks (P.take j)).length Po.none = P.getD j Po.none := by
  have e : lft ks P = lft ks (P.take j) ++ ([P.getD j Po.none] ++ lft ks (P.drop (j + 1))) := by
    rw [← List.append_assoc, ← lft_yes ks P j h hh, lft, lft, lft, ← List.filter_append, List.take_append_drop]
  rw [e]
  simp
theorem lft_take_le (ks : List Int) (P : List Po) (j : Nat) : (lft ks (P.take j)).length ≤ j := by
  have := List.length_filter_le (fun p => !hitB ks p.k) (P.take j)
  simp at this ⊢
  unfold lft
  omega
/-- One of many options, in a slice of its own. -/
theorem Opts.one {w : World} {b off : Nat} {n cap : Nat} {L : List Ov} (h : Opts w (some ⟨b, off, Option.none⟩) n cap L) (k : Nat) (hk : k < n) : Opts w (some ⟨b, off + k * 19, Option.none⟩) 1 (cap - k) [L.getD k Ov.zero] := by
  have h1 := h.le
  have h2 := h.max
  refine ⟨rfl, by omega, by omega, (fun h => by cases h), fun j hj => ?_, fun o ho => ?_⟩
  · obtain rfl : j = 0 := by omega
    obtain ⟨b', off', he, hp⟩ := h.cell k hk
    obtain ⟨rfl, rfl⟩ : b = b' ∧ off = off' := by have := Option.some.inj he; simpa using this
    exact ⟨b, off + k * 19, rfl, by simpa using hp⟩
  · rw [List.mem_singleton.1 ho]; exact h.at k hk
theorem step_bsOw {ops : Array Oper} {o : Oper} {a : Act} {w : World} {K : Act → World → Prop} {Q : Exit → Act → World → Prop} {E : Prop} {ts t : TypeId} (hT : ST ts t) (hw : Region.wanted o (yielded ops a.tmps) = true) (y : Operand) (ho : o.op = .buildSlice ts 1 #[(0, y)])
    (v : Ov) (hl : Adr v.ad) (hy : a.eval y = .agg v.cs) (h : K (a.put o.dst (.slice (some ⟨w.heap.size, 0, none⟩) 1 1)) (w.alloc (.cells v.cs t))) :
    if Region.wanted o (yielded ops a.tmps) = true then Oper.wp Tryd.prog o a w K Q else E := by
  rw [if_pos hw]
  obtain ⟨ie, hi, hz, hs, hb⟩ := info_parts hT.ot.zero
  refine wp_buildSlice ts t 1 _ ho v.cs ie _ hT.und hi hz (by rw [hs]; decide) (by rw [hs]; decide) ?_ h
  rw [hs]
  simp only [List.map_toArray, List.map_cons, List.map_nil, hy]
  exact fillO v hl.1
theorem mem_take_succ {l : List Int} {x : Int} {k : Nat} (hk : k < l.length) : decide (x ∈ l.take (k + 1)) = (decide (x ∈ l.take k) || (l.getD k 0 == x)) := by
  have e : l.getD k 0 = l[k] := by simp [hk]
  rw [List.take_succ_eq_append_getElem hk, Bool.eq_iff_iff, e]
  simp only [List.mem_append, List.mem_singleton, decide_eq_true_eq, Bool.or_eq_true, beq_iff_eq]
  constructor
  · rintro (h | h)
    · exact .inl h
    · exact .inr h.symm
  · rintro (h | h)
    · exact .inl h
    · exact .inr h.symm
/-- What To makes: small ones. -/
theorem to_law (a : Option Addr) (n cap : Nat) (L : List Ov) (w : World) (hL : Opts w a n cap L) :
    Calls Tryd.prog 7 #[.slice a n cap] w fun e w' => (∃ a' m cap' L', e = .returned (.slice a' m cap') ∧ m ≤ 20 ∧ Hid (Opts w' a' m cap' L') ∧ Hid (∀ o ∈ L', o.n.n ≤ 12 ∧ o.t.n ≤ 100)) ∧ Below w.heap.size w w' := by
  refine (to_any a n cap L w hL).mono ?_
  rintro e w' ⟨a', cap', L', rfl, hO, hp, hb⟩
  refine ⟨⟨a', min n 20, cap', L', rfl, by omega, hO, fun o ho => ?_⟩, hb⟩
  have hm : o.p ∈ ((pos L).take 20).map cutP := by rw [← hp]; exact List.mem_map_of_mem ho
  obtain ⟨q, _, hq⟩ := List.mem_map.1 hm
  have hok := hO.ok o ho
  have e1 : o.n.l = q.n.take 12 := congrArg Po.n hq.symm
  have e2 : o.t.l = q.t.take 100 := congrArg Po.t hq.symm
  have h1 := hok.n.1
  have h2 := hok.t.1
  rw [e1, List.length_take] at h1
  rw [e2, List.length_take] at h2
  omega
end Go.Proofs.YtbgogeojdibmkaaDoor
