/- Appends of options and of guarded bytes; the first ones of options; what is joined. -/
import Derived.Test.YtbgogeojdibmkaaDoorToo
import Derived.Test.YtbgogeojdibmkaaDoorKnw
namespace Go.Proofs.YtbgogeojdibmkaaDoor
open Go.ChangeShapes Go.WideShapes Go.ChangeAt Go.RowKit Go.Deep
set_option linter.unusedVariables false
set_option linter.unusedSimpArgs false

theorem Opts.pre {w : World} {a : Option Addr} {n cap : Nat} {L : List Ov} (h : Opts w a n cap L) (m : Nat) (hm : m ≤ n) : Opts w a m cap (L.take m) := by
  refine ⟨by rw [List.length_take, h.len]; omega, Nat.le_trans hm h.le, h.max, h.isNil, fun k hk => ?_, fun o ho => h.ok o (List.mem_of_mem_take ho)⟩
  obtain ⟨b, off, he, hc⟩ := h.cell k (by omega)
  refine ⟨b, off, he, ?_⟩
  have : (L.take m).getD k Ov.zero = L.getD k Ov.zero := by simp [List.getD, List.getElem?_take, hk]
  rw [this]; exact hc
theorem Opts.cells {w : World} {a : Option Addr} {n cap : Nat} {L : List Ov} (h : Opts w a n cap L) : ∀ ad, a = some ad → ∀ j u, (ocs L)[j]? = some u → w.cell? (ad.add j) = some u := by
  intro ad ha j u hj
  have had : ∀ o ∈ L, Adr o.ad := fun o ho => (h.ok o ho).ad
  have hlen := ocs_length had
  have hj' : j < L.length * 19 := by have := (List.getElem?_eq_some_iff.1 hj).1; omega
  have hk : j / 19 < L.length := by omega
  obtain ⟨b, off, he, hc⟩ := h.cell (j / 19) (by rw [← h.len]; exact hk)
  rw [ha] at he
  obtain rfl := Option.some.inj he
  have hm : j % 19 < 19 := Nat.mod_lt _ (by decide)
  have e : j = j / 19 * 19 + j % 19 := by omega
  rw [Addr.add_lit, e, ← Nat.add_assoc]
  refine hc (j % 19) u ?_
  rw [← ocs_at had (j / 19) hk (j % 19) hm, ← e]; exact hj
/-- Options that lie somewhere, behind a row of the call's own. -/
theorem wpList_appO {ops : Array Oper} {rest : List Oper} {o : Oper} {a : Act} {Q : Exit → Act → World → Prop} {w : World} {base n m cap : Nat} {v : Value} {xs l : List Ov} {ao : Option Addr} {ts t : TypeId} (hT : ST ts t) (hgd : o.guard = none) (s x : Operand)
    (ho : o.op = .call { callee := .builtin .append, args := #[s, x], argTypes := #[ts, ts] }) (hs : a.eval s = v) (hx : a.eval x = .slice ao m cap)
    (hown : w.ownsRow base t 19 v n (ocs xs)) (hl : Opts w ao m cap l) (hb : base ≤ w.heap.size) (hm : n + m ≤ 200000)
    (h : ∀ v' w', w'.ownsRow base t 19 v' (n + m) (ocs (xs ++ l)) → Below base w w' → wpList Tryd.prog ops Q rest (a.put o.dst v') w') :
    wpList Tryd.prog ops Q (o :: rest) a w := by
  obtain ⟨i0, hi, hz0, hz1, hz2⟩ := info_parts hT.ot.zero
  refine wpList_append_own_any w hgd s x ts ho base t i0 _ 19 72 hT.und hi hz0 hz1 hz2 cells_zero (by decide) v n _ hs hown ao m cap (ocs l) hx (by rw [ocs_length (fun o ho => (hl.ok o ho).ad), hl.len]) (fun ha => by have h1 := hl.isNil ha; have := hl.le; omega) (fun ad had => hl.cells ad had) (ocs_one l) (by unfold maxLen; omega) (by omega) hb ?_
  intro v' w' h2 h3
  exact h v' w' (by rw [ocs_app]; exact h2) h3
/-- Bytes that lie somewhere, behind a row of the call's own, guarded. -/
theorem wpList_appBg {ops : Array Oper} {rest : List Oper} {o : Oper} {a : Act} {Q : Exit → Act → World → Prop} {w : World} {base n m cap : Nat} {v : Value} {xs l : List Int} {ao : Option Addr} (hw : Region.wanted o (yielded ops a.tmps) = true) (s x : Operand)
    (ho : o.op = .call { callee := .builtin .append, args := #[s, x], argTypes := #[26, 26] }) (hs : a.eval s = v) (hx : a.eval x = .slice ao m cap)
    (hown : w.ownsRow base 5 1 v n (u8s xs)) (hl : Lies .u8 w ao m cap l) (hb : base ≤ w.heap.size) (hm : n + m ≤ 200000)
    (h : ∀ v' w', w'.ownsRow base 5 1 v' (n + m) (u8s (xs ++ l)) → Below base w w' → wpList Tryd.prog ops Q rest (a.put o.dst v') w') :
    wpList Tryd.prog ops Q (o :: rest) a w := by
  obtain ⟨ie, hi, hz, hz1, hz2⟩ := info_parts info5
  refine wpList_step fun K hK => ?_
  rw [if_pos hw]
  cases ao with
  | some ad =>
    refine wp_append_own w s x 26 ho base 5 ie _ 1 1 Tryd.underlying26 hi hz hz1 hz2 rfl (by decide) v n _ hs hown ad m cap (l.map (Value.int .u8)) hx (by rw [List.length_map, hl.1]; omega) (hl.cells ad rfl) (ints_oneCell8 l .u8) (by unfold maxLen; omega) (by omega) hb ?_
    intro v' w' h2 h3 _
    exact hK _ _ (h v' w' (by rw [u8s, List.map_append]; exact h2) (Below.grown (Below.refl _ _) h3 hb (fun k hk => (hown.lt k hk).1)))
  | none =>
    obtain ⟨rfl, rfl⟩ := hl.isNil rfl
    have hn : l = [] := List.eq_nil_of_length_eq_zero hl.1
    subst hn
    have hrun := run_append_owned_none (P := Tryd.prog) (w := w) base 26 o.type 5 ie 1 Tryd.underlying26 hi v n _ hown
    unfold Oper.wp
    simp [execOp, ho, resolve, invoke, builtin, hs, hx, hrun, Result.andThen]
    exact hK _ _ (h v w (by simpa using hown) (Below.refl _ _))
theorem encE_small (P : List Po) (h : P.length ≤ 16) : encE P = if bad P ≠ 0 then bad P else if 1280 < (encs P).length then 2 else 0 := by rw [encE, if_neg (by omega)]
theorem bad_ne (P : List Po) : bad P = 0 ∨ bad P ≠ 0 := by omega
/-- What is joined. -/
theorem joins_pure (P R : List Po) (hP : P.length ≤ 8) (hR : R.length ≤ 8) : (encE P ≠ 0 → encE (P ++ R) ≠ 0) ∧ (encE P = 0 → encE R ≠ 0 → encE (P ++ R) ≠ 0) ∧
    (encE P = 0 → encE R = 0 → (encE (P ++ R) = 2 ∧ 1280 < (encL P).length + (encL R).length) ∨ (encE (P ++ R) = 0 ∧ encL (P ++ R) = encL P ++ encL R)) := by
  have h1 := encE_small P (by omega)
  have h2 := encE_small R (by omega)
  have h3 := encE_small (P ++ R) (by rw [List.length_append]; omega)
  have h4 : (encs (P ++ R)).length = (encs P).length + (encs R).length := by rw [encs_app, List.length_append]
  rcases bad_ne P with hb | hb
  · have hb2 := bad_app P R hb
    rw [hb2] at h3
    rw [if_neg (by omega)] at h1
    rcases bad_ne R with hc | hc
    · rw [if_neg (by omega)] at h2 h3
      rw [h4] at h3
      refine ⟨fun h => ?_, fun h h' => ?_, fun h h' => ?_⟩
      · have : 1280 < (encs P).length := by by_cases hl : 1280 < (encs P).length; exact hl; rw [if_neg hl] at h1; exact absurd h1 h
        rw [h3, if_pos (by omega)]; decide
      · have : 1280 < (encs R).length := by by_cases hl : 1280 < (encs R).length; exact hl; rw [if_neg hl] at h2; exact absurd h2 h'
        rw [h3, if_pos (by omega)]; decide
      · have e1 : encL P = encs P := by rw [encL, if_pos h]
        have e2 : encL R = encs R := by rw [encL, if_pos h']
        by_cases hl : 1280 < (encs P).length + (encs R).length
        · rw [if_pos hl] at h3
          exact .inl ⟨h3, by rw [e1, e2]; exact hl⟩
        · rw [if_neg hl] at h3
          exact .inr ⟨h3, by rw [encL, if_pos h3, e1, e2, encs_app]⟩
    · rw [if_pos hc] at h2 h3
      refine ⟨fun _ => by rw [h3]; exact hc, fun _ _ => by rw [h3]; exact hc, fun _ h' => ?_⟩
      rw [h2] at h'; exact absurd h' hc
  · have hb2 := bad_app_no P R hb
    rw [hb2, if_pos hb] at h3
    rw [if_pos hb] at h1
    refine ⟨fun _ => by rw [h3]; exact hb, fun h => ?_, fun h => ?_⟩ <;> (rw [h1] at h; exact absurd h hb)
theorem encL_le (P : List Po) : (encL P).length ≤ 1280 := by
  unfold encL
  split
  · rename_i h
    unfold encE at h
    split at h
    · omega
    · split at h
      · rename_i hb; exact absurd h hb
      · split at h
        · omega
        · omega
  · simp
end Go.Proofs.YtbgogeojdibmkaaDoor
