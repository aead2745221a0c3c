/- Reading: takeParts. -/
import Derived.Test.YtbgogeojdibmkaaDoorSkp
import Derived.Test.YtbgogeojdibmkaaDoorCon
namespace Go.Proofs.YtbgogeojdibmkaaDoor
open Go.ChangeShapes Go.WideShapes Go.ChangeAt Go.RowKit Go.Deep
set_option linter.unusedVariables false
set_option linter.unusedSimpArgs false

def Ov.setA (o : Ov) (F : List Int) : Ov := ⟨o.k, o.n, F, o.t⟩
theorem splice_A {o : Ov} {F : List Int} (h : Adr o.ad) (hF : F.length = 16) : (o.cs.toList.take 2 ++ u8s F ++ o.cs.toList.drop (2 + (u8s F).length)).toArray = (o.setA F).cs := by
  have e : o.cs.toList = [.int .i64 o.k, o.n.v] ++ (u8s o.ad ++ [o.t.v]) := by simp [Ov.cs, arr]
  have l1 : (u8s o.ad).length = 16 := by rw [u8s_len, h.1]
  have l2 : (u8s F).length = 16 := by rw [u8s_len, hF]
  apply Array.ext'
  rw [e, l2]
  have e1 : ([Value.int .i64 o.k, o.n.v] ++ (u8s o.ad ++ [o.t.v])).take 2 = [.int .i64 o.k, o.n.v] := rfl
  have e2 : ([Value.int .i64 o.k, o.n.v] ++ (u8s o.ad ++ [o.t.v])).drop (2 + 16) = [o.t.v] := by
    rw [show 2 + 16 = ([Value.int .i64 o.k, o.n.v] ++ u8s o.ad).length by simp [l1], ← List.append_assoc, List.drop_left]
  rw [e1, e2]
  simp [Ov.cs, Ov.setA, arr]
/-- copy(o.Addr[:], ..) as one step of a region that draws its order. -/
theorem step_copyA {ops : Array Oper} {op : Oper} {a : Act} {w : World} {K : Act → World → Prop} {Q : Exit → Act → World → Prop} {E : Prop} (hgd : op.guard = none) (d s : Operand)
    (hop : op.op = .call { callee := .builtin .copy, args := #[d, s], argTypes := #[26, 26] }) (g dCap sCap : Nat) (sp : Option Addr) (hd : a.eval d = .slice (some ⟨g, 2, none⟩) 16 dCap) (hs : a.eval s = .slice sp 16 sCap)
    (o : Ov) (hA : Adr o.ad) (hr : Row w g 43 o.cs) (F : List Int) (hl : Lies .u8 w sp 16 sCap F)
    (h : K (a.put op.dst (goInt 16)) (w.setRow g (o.setA F).cs)) :
    if Region.wanted op (yielded ops a.tmps) = true then Oper.wp Tryd.prog op a w K Q else E := by
  have hw : Region.wanted op (yielded ops a.tmps) = true := by simp [Region.wanted, hgd]
  rw [if_pos hw]
  have hF : F.length = 16 := hl.1
  have l2 : (u8s F).length = 16 := by rw [u8s_len, hF]
  obtain ⟨b, off, e, _⟩ := hl.2.2.2.2 0 (by omega)
  subst e
  have hrun := run_copy_row (P := Tryd.prog) w 26 26 op.type 5 g 2 16 dCap ⟨b, off, none⟩ 16 sCap o.cs 43 (u8s F) Tryd.underlying26 (by kernel_rfl) hr (by rw [l2]; rfl) (hl.cells _ rfl) (by rw [l2, Ov.size hA]; decide) (ints_oneCell8 F .u8)
  rw [splice_A hA hF, l2] at hrun
  unfold Oper.wp
  simp [execOp, hop, resolve, invoke, builtin, hd, hs, hrun, Result.andThen]
  exact h
/-- Reading one part more: how many bytes were read, the numbers, the address. -/
def stp (l : List Int) (s : Nat × List Int × List Int) (p : Int × Int) : Nat × List Int × List Int :=
  if (p.1 == 16) = true then (s.1 + 16, s.2.1, (l.drop s.1).take 16) else (s.1 + p.1.toNat, s.2.1 ++ [numOf ((l.drop s.1).take p.1.toNat)], s.2.2)
def stps (l : List Int) (P : List (Int × Int)) : Nat × List Int × List Int := P.foldl (stp l) (0, [], zeros)
theorem stps_succ (l : List Int) (P : List (Int × Int)) (j : Nat) (h : j < P.length) : stps l (P.take (j + 1)) = stp l (stps l (P.take j)) (P.getD j (0, 0)) := by
  rw [List.take_succ_eq_append_getElem h, stps, List.foldl_append]; simp [stps, h]
theorem stps_at (l : List Int) (P : List (Int × Int)) (h : ∀ p ∈ P, (p.1 == 16) = true ∨ sizeB p.1 = true) (j : Nat) (hj : j ≤ P.length) : ((stps l (P.take j)).1 : Int) = sumP (P.take j) := by
  induction j with
  | zero => rfl
  | succ j ih =>
    have hj' : j < P.length := by omega
    rw [stps_succ l P j hj', sumP_succ P j hj', ← ih (by omega)]
    have hm : P.getD j (0, 0) ∈ P := by simp [hj']
    rcases h _ hm with hp | hp
    · rw [stp, if_pos hp]
      have : (P.getD j (0, 0)).1 = 16 := by simpa using hp
      rw [this]; simp
    · have hne : ¬ ((P.getD j (0, 0)).1 == 16) = true := by rcases sizeB_cases hp with e | e | e <;> rw [e] <;> decide
      rw [stp, if_neg hne]
      rcases sizeB_cases hp with e | e | e <;> rw [e] <;> simp
theorem stps_adr (l : List Int) (P : List (Int × Int)) (h : ∀ p ∈ P, (p.1 == 16) = true ∨ sizeB p.1 = true) (ho : Oct l) (hl : sumP P = l.length) (j : Nat) (hj : j ≤ P.length) (hle : ∀ i, i ≤ P.length → sumP (P.take i) ≤ sumP P) : Adr (stps l (P.take j)).2.2 := by
  induction j with
  | zero => exact adr_zeros
  | succ j ih =>
    have hj' : j < P.length := by omega
    have ha := stps_at l P h j (by omega)
    have hs := sumP_succ P j hj'
    have hb := hle (j + 1) hj
    rw [stps_succ l P j hj', stp]
    split
    · rename_i h16
      have : (P.getD j (0, 0)).1 = 16 := by simpa using h16
      refine ⟨?_, ho.cut _ _⟩
      rw [List.length_take, List.length_drop]
      omega
    · exact ih (by omega)
theorem rd_n (size : Int) (len at_ : Nat) (hz : sizeB size = true) (h : (at_ : Int) + size ≤ len) : rdE size 1 (len - at_) 0 = 0 ∧ rdN size 1 (len - at_) 0 = size.toNat := by
  have h1 : rdE size 1 (len - at_) 0 = 0 := by
    unfold rdE
    rw [if_pos rfl, if_neg (by rw [hz]; simp), if_neg (by omega)]
  refine ⟨h1, ?_⟩
  rw [rdN, if_pos h1]; simp
theorem rd_b (n len at_ : Nat) (h : at_ + n ≤ len) : rdE 1 n (len - at_) 0 = 0 ∧ rdN 1 n (len - at_) 0 = n := by
  have h1 : rdE 1 n (len - at_) 0 = 0 := by
    unfold rdE
    have hz : sizeB 1 = true := by decide
    rw [if_pos rfl, if_neg (by rw [hz]; simp), if_neg (by omega)]
  refine ⟨h1, ?_⟩
  rw [rdN, if_pos h1]; simp
end Go.Proofs.YtbgogeojdibmkaaDoor
