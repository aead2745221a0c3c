/- What the document's Decode answers, whole; headers compared whole. -/
import Derived.Test.YtmpkemlnpmephaaRdd
import Derived.Test.YtmpkemlnpmephaaOpn
namespace Go.Proofs.Ytmpkemlnpmephaa
open Go.ChangeShapes Go.WideShapes Go.ChangeAt Go.RowKit
set_option linter.unusedVariables false
set_option linter.unusedSimpArgs false

theorem rdec_bad (a : Option Addr) (len cap : Nat) (l : List Int) (w : World) (e : Int) (hE : decE l = e) (he : e ≠ 0)
    (hc : Calls Try.prog 17 #[.slice a len cap] w fun r w' => r = .returned (.tuple #[.agg Hd.zero.cs, .slice none 0 0, .int .i64 e]) ∧ Below w.heap.size w w') :
    Calls Try.prog 17 #[.slice a len cap] w fun r w' => ∃ a' n' c', r = .returned (.tuple #[.agg (decV l).cs, .slice a' n' c', .int .i64 (decE l)]) ∧ Lies .u8 w' a' n' c' (decR l) ∧ Below w.heap.size w w' := by
  have h1 : decV l = Hd.zero := by rw [decV, hE, if_neg he]
  have h2 : decR l = [] := by rw [decR, hE, if_neg he]
  refine hc.mono ?_
  rintro r w' ⟨rfl, hb⟩
  rw [h1, h2, hE]
  exact ⟨_, _, _, rfl, Lies.nil _ _, hb⟩

theorem refDecode_any (a : Option Addr) (len cap : Nat) (l : List Int) (w : World) (h : Lies .u8 w a len cap l) (ho : Oct l) :
    Calls Try.prog 17 #[.slice a len cap] w fun r w' => ∃ a' n' c', r = .returned (.tuple #[.agg (decV l).cs, .slice a' n' c', .int .i64 (decE l)]) ∧ Lies .u8 w' a' n' c' (decR l) ∧ Below w.heap.size w w' := by
  have hn := h.1
  by_cases h1 : len < 40
  · exact rdec_bad a len cap l w 4 (by unfold decE; rw [if_pos (by omega)]) (by omega) (rdec_short a len cap l w h h1)
  · by_cases h2 : l.getD 0 0 / 16 = 6
    · by_cases h3 : 1280 < len
      · exact rdec_bad a len cap l w 2 (by unfold decE; rw [if_neg (by omega), if_neg (by simpa using h2), if_pos (by omega)]) (by omega) (rdec_long a len cap l w h ho h3 h2)
      · obtain ⟨b, off, rfl, _⟩ := h.2.2.2.2 0 (by omega)
        exact rdec_rest b off len cap l w h ho (by omega) h2 (by omega)
    · exact rdec_bad a len cap l w 3 (by unfold decE; rw [if_neg (by omega), if_pos h2]) (by omega) (rdec_form a len cap l w h ho (by omega) h2)

theorem held24 : Try.prog.stoodInHeld 24 = false := by kernel_rfl
theorem fs24' : (Try.prog.fieldsOf 24).toList.map (fun f => (f.name == "_", f.type, f.offset)) = [(false, 3, 0), (false, 3, 1), (false, 3, 2), (false, 3, 3), (false, 3, 4), (false, 22, 5), (false, 22, 21)] := by kernel_rfl
theorem info5' : (Try.prog.info? 5).isSome = true := by kernel_rfl
theorem eqItems_d (w : World) (l : List Int) : ∀ (is : List Nat), (∀ i ∈ is, i < l.length) →
    (Op.eqItems 9998 5 (Try.prog.cellsOf 5) (arr l) (arr l) is).run Try.prog w = .ok true w
  | [], _ => by simp [Op.eqItems]
  | i :: is, hi => by
    have h1 : Try.prog.cellsOf 5 = 1 := by kernel_rfl
    have hil : i < l.length := hi i (by simp)
    have ih := eqItems_d w l is (fun j hj => hi j (by simp [hj]))
    have hp : (part 5 (arr l) (i * 1)).run Try.prog w = .ok (.int .u8 (l.getD i 0)) w := by
      have hagg : (isAgg 5).run Try.prog w = .ok false w := by unfold isAgg; rw [Sem.run_bind, run_underlying Try.underlying5 w]; rfl
      simp only [part, Sem.run_bind, hagg, Result.andThen_ok, Bool.false_eq_true, if_false, Nat.mul_one, arr_at l i hil, Sem.run_pure]
    simp only [Op.eqItems, Sem.run_bind, h1, hp, Result.andThen_ok, run_equalIn_int (P := Try.prog) w 9997 5 .u8 .u8 (l.getD i 0) (l.getD i 0) Try.underlying5]
    rw [h1] at ih
    simp only [beq_self_eq_true, Bool.not_true, Bool.false_eq_true, if_false]
    exact ih
theorem eq22_d (l : List Int) (hl : l.length = 16) (w : World) : (Op.equalIn 9999 22 (.agg (arr l)) (.agg (arr l))).run Try.prog w = .ok true w := by
  obtain ⟨i, hi⟩ := Option.isSome_iff_exists.1 info5'
  rw [run_equalIn_array w 9998 (arr l) (arr l) Try.underlying22 hi]
  exact eqItems_d w l _ (by intro i hi; simp at hi; omega)
theorem ext_F {h : Hd} (k : h.ok) : h.cs.extract 5 21 = arr h.f := by
  have h1 : h.f.length = 16 := k.1.1
  apply Array.ext'
  simp [Hd.cs, arr, u8s, List.extract_eq_take_drop, List.take_append, h1]
theorem ext_T {h : Hd} (k : h.ok) : h.cs.extract 21 37 = arr h.t := by
  have h1 : h.f.length = 16 := k.1.1
  have h2 : h.t.length = 16 := k.2.1
  apply Array.ext'
  simp [Hd.cs, arr, u8s, List.extract_eq_take_drop, List.drop_append, List.take_append, h1, h2]
  exact List.take_of_length_le (by simp [h2])
theorem eqFields_h (fs : List Field) (hf : fs.map (fun f => (f.name == "_", f.type, f.offset)) = [(false, 3, 0), (false, 3, 1), (false, 3, 2), (false, 3, 3), (false, 3, 4), (false, 22, 5), (false, 22, 21)]) (h : Hd) (k : h.ok) (w : World) :
    (Op.eqFields 9999 h.cs h.cs fs).run Try.prog w = .ok true w := by
  have hlen : fs.length = 7 := by have := congrArg List.length hf; simpa using this
  match fs, hlen, hf with
  | [f0, f1, f2, f3, f4, f5, f6], _, hf =>
    simp only [List.map_cons, List.map_nil, List.cons.injEq, Prod.mk.injEq, and_true, beq_eq_false_iff_ne] at hf
    obtain ⟨⟨n0, t0, o0⟩, ⟨n1, t1, o1⟩, ⟨n2, t2, o2⟩, ⟨n3, t3, o3⟩, ⟨n4, t4, o4⟩, ⟨n5, t5, o5⟩, n6, t6, o6⟩ := hf
    have a22 : (isAgg 22).run Try.prog w = .ok true w := by unfold isAgg; rw [Sem.run_bind, run_underlying Try.underlying22 w]; rfl
    have a3 : (isAgg 3).run Try.prog w = .ok false w := by unfold isAgg; rw [Sem.run_bind, run_underlying Try.underlying3 w]; rfl
    have s22 : (sizeOf 22).run Try.prog w = .ok 16 w := by
      obtain ⟨i, hi, hs⟩ := Option.map_eq_some_iff.1 size22
      simp only [sizeOf, typeInfo, Sem.run_bind, run_program, hi, Result.andThen_ok, Sem.run_pure, hs]
    have hp5 : (part 22 h.cs 5).run Try.prog w = .ok (.agg (arr h.f)) w := by
      simp only [part, Sem.run_bind, a22, s22, Result.andThen_ok, if_true, ext_F k, Sem.run_pure]
    have hp6 : (part 22 h.cs 21).run Try.prog w = .ok (.agg (arr h.t)) w := by
      simp only [part, Sem.run_bind, a22, s22, Result.andThen_ok, if_true, ext_T k, Sem.run_pure]
    have hq : ∀ (j : Nat) (n : Int), h.cs[j]? = some (.int .i64 n) → (part 3 h.cs j).run Try.prog w = .ok (.int .i64 n) w := by
      intro j n e
      simp only [part, Sem.run_bind, a3, Result.andThen_ok, Bool.false_eq_true, if_false, e, Sem.run_pure]
    have e3 : ∀ n : Int, (Op.equalIn 9999 3 (.int .i64 n) (.int .i64 n)).run Try.prog w = .ok true w := by
      intro n
      have e2 := run_equalIn_int (P := Try.prog) w 9998 3 .i64 .i64 n n Try.underlying3
      rw [beq_self_eq_true] at e2
      exact e2
    have e5 := eq22_d h.f k.1.1 w
    have e6 := eq22_d h.t k.2.1 w
    rw [Op.eqFields, if_pos n0, t0, o0, Sem.run_bind, hq 0 _ h.at0, Result.andThen_ok, Sem.run_bind, hq 0 _ h.at0, Result.andThen_ok, Sem.run_bind, e3, Result.andThen_ok]
    simp only [Bool.not_true, Bool.false_eq_true, if_false]
    rw [Op.eqFields, if_pos n1, t1, o1, Sem.run_bind, hq 1 _ h.at1, Result.andThen_ok, Sem.run_bind, hq 1 _ h.at1, Result.andThen_ok, Sem.run_bind, e3, Result.andThen_ok]
    simp only [Bool.not_true, Bool.false_eq_true, if_false]
    rw [Op.eqFields, if_pos n2, t2, o2, Sem.run_bind, hq 2 _ h.at2, Result.andThen_ok, Sem.run_bind, hq 2 _ h.at2, Result.andThen_ok, Sem.run_bind, e3, Result.andThen_ok]
    simp only [Bool.not_true, Bool.false_eq_true, if_false]
    rw [Op.eqFields, if_pos n3, t3, o3, Sem.run_bind, hq 3 _ h.at3, Result.andThen_ok, Sem.run_bind, hq 3 _ h.at3, Result.andThen_ok, Sem.run_bind, e3, Result.andThen_ok]
    simp only [Bool.not_true, Bool.false_eq_true, if_false]
    rw [Op.eqFields, if_pos n4, t4, o4, Sem.run_bind, hq 4 _ h.at4, Result.andThen_ok, Sem.run_bind, hq 4 _ h.at4, Result.andThen_ok, Sem.run_bind, e3, Result.andThen_ok]
    simp only [Bool.not_true, Bool.false_eq_true, if_false]
    rw [Op.eqFields, if_pos n5, t5, o5, Sem.run_bind, hp5, Result.andThen_ok, Sem.run_bind, hp5, Result.andThen_ok, Sem.run_bind, e5, Result.andThen_ok]
    simp only [Bool.not_true, Bool.false_eq_true, if_false]
    rw [Op.eqFields, if_pos n6, t6, o6, Sem.run_bind, hp6, Result.andThen_ok, Sem.run_bind, hp6, Result.andThen_ok, Sem.run_bind, e6, Result.andThen_ok]
    simp only [Bool.not_true, Bool.false_eq_true, if_false]
    rfl
theorem eq24_same (h : Hd) (k : h.ok) : ∀ w : World, (Op.equalIn 10000 24 (.agg h.cs) (.agg h.cs)).run Try.prog w = .ok true w := fun w => by
  rw [run_equalIn_struct w 9999 24 _ _ fields24 held24]
  exact eqFields_h _ fs24' h k w
end Go.Proofs.Ytmpkemlnpmephaa
