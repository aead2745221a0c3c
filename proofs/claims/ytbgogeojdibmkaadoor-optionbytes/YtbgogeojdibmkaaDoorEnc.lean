/- The bytes of options: Encode. -/
import Derived.Test.YtbgogeojdibmkaaDoorWrt
namespace Go.Proofs.YtbgogeojdibmkaaDoor
open Go.ChangeShapes Go.WideShapes Go.ChangeAt Go.RowKit Go.Deep
set_option linter.unusedVariables false
set_option linter.unusedSimpArgs false

theorem layO_new (w : World) (t : TypeId) (o : Ov) : Row ((w.alloc (.cells Ov.zero.cs t)).setRow w.heap.size o.cs) w.heap.size t o.cs := (Row.new w t _).setRow _
theorem layO_below (w : World) (t : TypeId) (o : Ov) : Below w.heap.size w ((w.alloc (.cells Ov.zero.cs t)).setRow w.heap.size o.cs) := below_setRow' (balloc (Below.refl w.heap.size w) _) (Nat.le_refl _) _

theorem ret_tup {v : Value} {b c : Int} (h : b = c) : Ending.returned (.tuple #[v, .int .i64 b]) = .returned (.tuple #[v, .int .i64 c]) := by rw [h]
/-- The first error. -/
def bad : List Po → Int
  | [] => 0
  | o :: L => if chkP o = 0 then bad L else chkP o
/-- The bytes of all. -/
def encs (L : List Po) : List Int := L.flatMap encP
/-- What is wrong with options. -/
def encE (L : List Po) : Int := if 16 < L.length then 2 else if bad L ≠ 0 then bad L else if 1280 < (encs L).length then 2 else 0
def encL (L : List Po) : List Int := if encE L = 0 then encs L else []
def Po.none : Po := ⟨0, [], [], []⟩
theorem bad_app (L M : List Po) (h : bad L = 0) : bad (L ++ M) = bad M := by
  induction L with
  | nil => rfl
  | cons o L ih =>
    rw [bad] at h
    split at h
    · rename_i hc
      rw [List.cons_append, bad, if_pos hc]; exact ih h
    · rename_i hc; exact absurd h hc
theorem bad_app_no (L M : List Po) (h : bad L ≠ 0) : bad (L ++ M) = bad L := by
  induction L with
  | nil => exact absurd rfl h
  | cons o L ih =>
    rw [bad] at h
    rw [List.cons_append, bad, bad]
    split
    · rename_i hc
      rw [if_pos hc] at h; exact ih h
    · rfl
theorem bad_at (L : List Po) (j : Nat) (hj : j < L.length) (h : bad (L.take j) = 0) : (chkP (L.getD j Po.none) = 0 → bad (L.take (j + 1)) = 0) ∧ (chkP (L.getD j Po.none) ≠ 0 → bad L = chkP (L.getD j Po.none)) := by
  have e : L.getD j Po.none = L[j] := by simp [hj]
  rw [e]
  constructor
  · intro hc
    rw [List.take_succ_eq_append_getElem hj, bad_app _ _ h, bad, if_pos hc]; rfl
  · intro hc
    have : L = L.take j ++ (L[j] :: L.drop (j + 1)) := by rw [← List.drop_eq_getElem_cons hj, List.take_append_drop]
    have e2 : bad L = bad (L.take j ++ (L[j] :: L.drop (j + 1))) := congrArg bad this
    rw [e2, bad_app _ _ h, bad, if_neg hc]
theorem encs_succ (L : List Po) (j : Nat) (hj : j < L.length) : encs (L.take (j + 1)) = encs (L.take j) ++ encP (L.getD j Po.none) := by
  rw [encs, encs, List.take_succ_eq_append_getElem hj, List.flatMap_append]; simp [hj]
theorem encs_app (L M : List Po) : encs (L ++ M) = encs L ++ encs M := List.flatMap_append
/-- Options in memory, as options. -/
def pos (L : List Ov) : List Po := L.map Ov.p
theorem pos_len (L : List Ov) : (pos L).length = L.length := by simp [pos]
theorem pos_at (L : List Ov) (j : Nat) (hj : j < L.length) : (pos L).getD j Po.none = (L.getD j Ov.zero).p := by simp [pos, hj]

set_option maxHeartbeats 1600000 in
theorem encode_any {B : Nat} (a : Option Addr) (n cap : Nat) (L : List Ov) (w : World) (hL : Opts w a n cap L) (hV : Vars B w) (hn : n ≤ 1000) :
    Calls Tryd.prog 9 #[.slice a n cap] w fun e w' => ∃ v, e = .returned (.tuple #[v, .int .i64 (encE (pos L))]) ∧ w'.ownsRow w.heap.size 5 1 v (encL (pos L)).length (u8s (encL (pos L))) ∧ Below w.heap.size w w' := by
  have hz := zov
  have HPL : Hid ((pos L).length = n) := by rw [Hid, pos_len]; exact hL.len
  by_cases h16 : 16 < n
  · have hE : encE (pos L) = 2 := by rw [encE, if_pos (by rw [HPL.out]; exact h16)]
    have hLL : encL (pos L) = [] := by rw [encL, hE]; rfl
    rw [hE, hLL]
    have h16' : (16 : Int) < (n : Int) := by omega
    clear hL hV hz
    go_enter Tryd.func9, Tryd.ntmps9
    go_wp2_with fail
    go_ret2
    exact ⟨_, rfl, World.ownsRow_nil _ _ _ _, Below.refl _ _⟩
  · have h16' : ¬ (16 : Int) < (n : Int) := by omega
    have HE : Hid (encE (pos L) = if bad (pos L) ≠ 0 then bad (pos L) else if 1280 < (encs (pos L)).length then 2 else 0) := by rw [Hid, encE, if_neg (by rw [HPL.out]; exact h16)]
    have HLL : Hid (encL (pos L) = if encE (pos L) = 0 then encs (pos L) else []) := rfl
    have HL := hid hL
    have HV := hid hV
    have hlen := hL.len
    have HLen := hid hlen
    clear hL hV hlen
    go_enter Tryd.func9, Tryd.ntmps9
    go_wp2_with fail
    go_loopw [4, 13] (fun v i wr => ∃ j : Nat, j ≤ n ∧ i = .int .i64 j ∧ Hid (bad ((pos L).take j) = 0) ∧ Hid ((encs ((pos L).take j)).length ≤ 257 * j) ∧ Hid (wr.ownsRow w.heap.size 5 1 v (encs ((pos L).take j)).length (u8s (encs ((pos L).take j)))) ∧ Hid (Below w.heap.size w wr)) (fun _ i _ => n - (intOf i).toNat)
    case atStart => exact ⟨0, Nat.zero_le _, rfl, rfl, Nat.zero_le _, World.ownsRow_nil _ _ _ _, Below.refl _ _⟩
    case round =>
      obtain ⟨j, hj, rfl, hbad, hln, hown, hb⟩ := hrel
      by_cases hlt : j < n
      · have hL1 := HL.out.below hb.out
        obtain ⟨b, off, rfl, hp⟩ := hL1.cell j hlt
        have hjl : j < L.length := by rw [HLen.out]; exact hlt
        have hok := hL1.at j hlt
        have hba := bad_at (pos L) j (by rw [pos_len]; exact hjl) hbad.out
        have hes := encs_succ (pos L) j (by rw [pos_len]; exact hjl)
        rw [pos_at L j hjl] at hba hes
        generalize hoo : L.getD j Ov.zero = o at *
        have PP := hid hp
        have OK := hid hok
        have HBA := hid hba
        have HES := hid hes
        have HA := hid hok.ad
        have V1 := hid (HV.out.below hb.out)
        clear hL1 hp hok hba hes hoo hjl
        have R2 := hid (layO_new wr 43 o)
        have B2 := hid (layO_below wr 43 o)
        go_wp2_with (first | (refine ldO o43 _ rfl rfl _ _ rfl o HA.out PP.out ?_) | (refine ldO o43 _ rfl rfl _ _ rfl o HA.out (layO_new wr 43 o).part ?_) | (refine stO o43 _ _ rfl rfl wr.heap.size o HA.out rfl rfl 43 Ov.zero adr_zeros (Row.new wr 43 _) ?_))
        generalize hw2 : (wr.alloc (.cells Ov.zero.cs 43)).setRow wr.heap.size o.cs = w2 at *
        have O2 := hid (own_below hown.out B2.out)
        have OK2 := hid (OK.out.below B2.out)
        have V2 := hid (V1.out.below B2.out)
        have B3 := hid (bthen hb.out B2.out)
        generalize hgs : wr.heap.size = g at *
        clear hw2 hgs PP OK V1 B2
        refine (check_any o _ OK2.out V2.out).mono ?_
        rintro e w3 ⟨rfl, hb3⟩
        have R3 := hid (R2.out.below hb3)
        have O3 := hid (own_below O2.out hb3)
        have OK3 := hid (OK2.out.below hb3)
        have V3 := hid (V2.out.below hb3)
        have B4 := hid (bthen B3.out hb3)
        clear hb3 R2 O2 OK2 V2 B3
        by_cases hc : chkP o.p = 0
        · have HC := hid hc
          rw [hc]
          clear hc
          have hel := encP_le HC.out HA.out.1
          go_wp2_with (refine ldO o43 _ rfl rfl g 0 rfl o HA.out R3.out.part ?_)
          refine (written_any o _ OK3.out V3.out HC.out).mono ?_
          rintro e w4 ⟨v4, rfl, hown4, hb4⟩
          obtain ⟨a4, c4, rfl, hl4, _⟩ := owns_lies hown4
          have L4 := hid hl4
          have O4 := hid (own_below O3.out hb4)
          have B5 := hid (bthen B4.out hb4)
          clear hb4 hown4 hl4
          generalize hel2 : (encP o.p).length = el at *
          have HEL := hid hel2
          clear hel2
          go_wp2_with (at_builtin; refine wpList_appB rfl _ _ rfl rfl rfl O4.out L4.out ?c1 ?c2 ?_)
          case c1 => exact B5.out.size
          case c2 => have := hln.out; omega
          intro v5 w5 ho5 hb5
          have O5 := hid ho5
          have B6 := hid (B5.out.trans hb5)
          clear ho5 hb5
          go_wp2_with fail
          go_roundw
          case rel =>
            refine ⟨j + 1, by omega, by go_num, HBA.out.1 HC.out, ?_, ?_, B6.out⟩
            · rw [Hid, HES.out, List.length_append, HEL.out]; have := hln.out; omega
            · rw [Hid, HES.out, List.length_append, HEL.out]; exact O5.out
          case measure => simp [intOf]; omega
        · have HC := hid hc
          have hc' : (chkP o.p != 0) = true := by simpa using hc
          clear hc
          have HB := hid (HBA.out.2 HC.out)
          generalize chkP o.p = c at *
          go_wp2_with fail
          go_ret2
          have e1 : encE (pos L) = c := by rw [HE.out, HB.out, if_pos HC.out]
          refine ⟨_, ret_tup e1.symm, ?_, B4.out⟩
          rw [HLL.out, e1, if_neg HC.out]
          exact World.ownsRow_nil _ _ _ _
      · obtain rfl : j = n := by omega
        rw [List.take_of_length_le (by rw [HPL.out]; exact Nat.le_refl _)] at hbad hln hown
        obtain ⟨va, vc, hv⟩ := owns_len hown.out
        subst hv
        have hln2 := hln.out
        have hE2 : Hid (encE (pos L) = if 1280 < (encs (pos L)).length then 2 else 0) := by rw [Hid, HE.out, hbad.out]; rfl
        have HEN : Hid ((encs (pos L)).length = (encs (pos L)).length) := rfl
        generalize hen : (encs (pos L)).length = en at *
        by_cases hlong : 1280 < en
        · have hlong' : (1280 : Int) < (en : Int) := by omega
          go_wp2_with fail
          go_ret2
          have e1 : encE (pos L) = 2 := by rw [hE2.out, if_pos hlong]
          refine ⟨_, ret_tup e1.symm, ?_, hb.out⟩
          rw [HLL.out, e1]
          exact World.ownsRow_nil _ _ _ _
        · have hlong' : ¬ (1280 : Int) < (en : Int) := by omega
          go_wp2_with fail
          go_ret2
          have e1 : encE (pos L) = 0 := by rw [hE2.out, if_neg hlong]
          refine ⟨_, ret_tup e1.symm, ?_, hb.out⟩
          rw [HLL.out, e1, if_pos rfl, hen]
          exact hown.out
end Go.Proofs.YtbgogeojdibmkaaDoor
