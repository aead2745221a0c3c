/- The document's answer: the bytes of an option, as letters tell them. -/
import Derived.Test.YtbgogeojdibmkaaDoorRck2
namespace Go.Proofs.YtbgogeojdibmkaaDoor
open Go.ChangeShapes Go.WideShapes Go.ChangeAt Go.RowKit Go.Deep
set_option linter.unusedVariables false
set_option linter.unusedSimpArgs false

/-- Is a letter a number that is written digit by digit? -/
def isN (c : Int) : Bool := !(c == 97) && (!(c == 116) && !(c == 120))
def acnt (l : List Int) (i : Nat) : Nat := ((l.take i).filter isN).length
theorem acnt_succ (l : List Int) (i : Nat) (h : i < l.length) : acnt l (i + 1) = acnt l i + (if isN (l.getD i 0) = true then 1 else 0) := by
  unfold acnt
  rw [List.take_succ_eq_append_getElem h, List.filter_append, List.length_append]
  simp [h]
  split <;> simp_all
/-- The bytes of a letter. -/
def piece (l n ad t : List Int) (j : Nat) : List Int :=
  if (l.getD j 0 == 97) = true then ad else if (l.getD j 0 == 116) = true then t else if (l.getD j 0 == 120) = true then List.replicate (n.getD 0 0).toNat 0 else digs (szc (l.getD j 0)) (n.getD (acnt l j) 0)
def rBto (l n ad t : List Int) (i : Nat) : List Int := (List.range i).flatMap (piece l n ad t)
theorem rBto_succ (l n ad t : List Int) (i : Nat) : rBto l n ad t (i + 1) = rBto l n ad t i ++ piece l n ad t i := by
  unfold rBto; rw [List.range_succ, List.flatMap_append]; simp
theorem cl_x : ∀ k, k < 10 → ∀ i, i < (cl k).length → (cl k).getD i 0 = 120 → i = 0 ∧ k = 1 := by decide
theorem cl_n : ∀ k, k < 10 → ∀ i, i < (cl k).length → isN ((cl k).getD i 0) = true → acnt (cl k) i < (nmb (prt k)).length ∧ sizeB (szc ((cl k).getD i 0)) = true := by decide
theorem len_eq {n : List Int} {m : Nat} (h : n.length = m) : n = (List.range m).map (fun i => n.getD i 0) := by
  apply List.ext_getElem
  · simp [h]
  · intro i h1 h2
    simp [h1]
theorem con_nt (k : Nat) (ok : Int) (n ad : List Int) (hz : zer k = false) : conP k ⟨ok, n, ad, []⟩ = partsB (prt k) n ad := by rw [conP, hz]; simp
theorem rB_con (o : Po) (k : Nat) (hk : k < 10) (hok : o.k = k) (h : chkP o = 0) : rBto (cl k) o.n o.ad o.t (chs k).size = conP k o := by
  obtain ⟨h1, h2, h3, h4⟩ := chk0 h
  rw [hok, Int.toNat_natCast] at h2 h3
  have hn := frm_len h2
  have ht : txb k = false → o.t = [] := by
    intro e
    simp only [frmB, e, Bool.or_false, Bool.and_eq_true, beq_iff_eq] at h2
    exact List.eq_nil_of_length_eq_zero h2.2.2
  obtain ⟨ok, n, ad, t⟩ := o
  simp only at hn ht ⊢
  have e := len_eq hn
  match k, hk with
  | 0, _ => rw [ht rfl]; rfl
  | 1, _ => rw [ht rfl, show (chs 1).size = 1 from rfl]; simp [rBto, piece, conP, zer, List.range_succ, cl, chs, chsL]
  | 2, _ => rw [show (chs 2).size = 1 from rfl]; simp [rBto, piece, conP, zer, List.range_succ, cl, chs, chsL, prt, prts, partsB]
  | 3, _ => rw [ht rfl, e, con_nt _ _ _ _ rfl]; rfl
  | 4, _ => rw [ht rfl, e]; rfl
  | 5, _ => rw [ht rfl, e, con_nt _ _ _ _ rfl]; rfl
  | 6, _ => rw [ht rfl, e]; rfl
  | 7, _ => rw [ht rfl, e, con_nt _ _ _ _ rfl]; rfl
  | 8, _ => rw [ht rfl, e, con_nt _ _ _ _ rfl]; rfl
  | 9, _ => rw [ht rfl, e]; rfl
end Go.Proofs.YtbgogeojdibmkaaDoor
