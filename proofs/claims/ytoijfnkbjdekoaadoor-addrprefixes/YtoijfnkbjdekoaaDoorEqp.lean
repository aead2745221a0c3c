/- Prefixes compared whole. -/
import Derived.Test.YtoijfnkbjdekoaaDoorSlc
namespace Go.Proofs.YtoijfnkbjdekoaaDoor
open Go.ChangeShapes Go.WideShapes Go.ChangeAt Go.RowKit
set_option linter.unusedVariables false
set_option linter.unusedSimpArgs false
theorem eqFields_two (fs : List Field) (h : fs.map (fun f => (f.name == "_", f.type, f.offset)) = [(false, 25, 0), (false, 3, 16)]) (l : List Int) (n : Int) (hl : l.length = 16) (w : World) :
    (Op.eqFields 9999 (pfx l n) (pfx l n) fs).run Tryd.prog w = .ok true w := by
  have hlen : fs.length = 2 := by have := congrArg List.length h; simpa using this
  match fs, hlen, h with
  | [f0, f1], _, h =>
    simp only [List.map_cons, List.map_nil, List.cons.injEq, Prod.mk.injEq, and_true, beq_eq_false_iff_ne] at h
    obtain ⟨⟨n0, t0, o0⟩, n1, t1, o1⟩ := h
    have a25 : (isAgg 25).run Tryd.prog w = .ok true w := by unfold isAgg; rw [Sem.run_bind, run_underlying Tryd.underlying25 w]; rfl
    have a3 : (isAgg 3).run Tryd.prog w = .ok false w := by unfold isAgg; rw [Sem.run_bind, run_underlying Tryd.underlying3 w]; rfl
    have s25 : (sizeOf 25).run Tryd.prog w = .ok 16 w := by
      obtain ⟨i, hi, hs⟩ := Option.map_eq_some_iff.1 size25
      simp only [sizeOf, typeInfo, Sem.run_bind, run_program, hi, Result.andThen_ok, Sem.run_pure, hs]
    have hp : (part 25 (pfx l n) 0).run Tryd.prog w = .ok (.agg (u8s l)) w := by
      simp only [part, Sem.run_bind, a25, s25, Result.andThen_ok, if_true, Nat.zero_add, extract_pfx l n hl, Sem.run_pure]
    have hq : (part 3 (pfx l n) 16).run Tryd.prog w = .ok (.int .i64 n) w := by
      have : (pfx l n)[16]? = some (.int .i64 n) := by rw [pfx, Array.getElem?_push, u8s_size, hl]; rfl
      simp only [part, Sem.run_bind, a3, Result.andThen_ok, Bool.false_eq_true, if_false, this, Sem.run_pure]
    have e1 := eq25_d l hl w
    have e2 := run_equalIn_int (P := Tryd.prog) w 9998 3 .i64 .i64 n n Tryd.underlying3
    rw [beq_self_eq_true] at e2
    rw [Op.eqFields, if_pos n0, t0, o0, Sem.run_bind, hp, Result.andThen_ok, Sem.run_bind, hp, Result.andThen_ok, Sem.run_bind, e1, Result.andThen_ok]
    simp only [Bool.not_true, Bool.false_eq_true, if_false]
    rw [Op.eqFields, if_pos n1, t1, o1, Sem.run_bind, hq, Result.andThen_ok, Sem.run_bind, hq, Result.andThen_ok, Sem.run_bind, e2, Result.andThen_ok]
    simp only [Bool.not_true, Bool.false_eq_true, if_false]
    rfl
theorem eq42_same (l : List Int) (n : Int) (hl : l.length = 16) : ∀ w : World, (Op.equalIn 10000 42 (.agg (pfx l n)) (.agg (pfx l n))).run Tryd.prog w = .ok true w := fun w => by
  rw [run_equalIn_struct w 9999 42 _ _ fields42 held42]
  exact eqFields_two _ fs42 l n hl w
end Go.Proofs.YtoijfnkbjdekoaaDoor
