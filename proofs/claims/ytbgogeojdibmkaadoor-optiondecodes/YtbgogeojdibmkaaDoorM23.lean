/- OptionDecodes' walk. · A world that meets the rows' lists. -/
import Derived.Test.YtbgogeojdibmkaaDoorM21
import Derived.Test.YtbgogeojdibmkaaDoorM22
import Derived.Test.YtbgogeojdibmkaaDoorM20
namespace Go.Proofs.YtbgogeojdibmkaaDoor
open Go.ChangeShapes Go.WideShapes Go.ChangeAt Go.RowKit Go.Deep
set_option linter.unusedVariables false
set_option linter.unusedSimpArgs false

theorem dec_law {B : Nat} (a : Option Addr) (len cap : Nat) (l : List Int) (w : World) (h : Lies .u8 w a len cap l) (ho : Oct l) (hl : len ≤ 700) (hV : Vars B w) :
    Calls Tryd.prog 19 #[.slice a len cap] w fun e w' => (∃ a' m cap' L', e = .returned (.tuple #[.slice a' m cap', .int .i64 (dec 0 l).2]) ∧ m ≤ 16 ∧ Hid (Opts w' a' m cap' L') ∧ Hid (pos L' = if (dec 0 l).2 = 0 then (dec 0 l).1 else [])) ∧ Below w.heap.size w w' := by
  refine (decode_any a len cap l w h ho (by omega) hV).mono ?_
  rintro e w' ⟨v, L, rfl, hb, hown, hO, hp, h16⟩
  obtain ⟨a', cap', rfl, hOp⟩ := owns_opts hown (fun o ho => (hO o ho).ok)
  exact ⟨⟨a', L.length, cap', L, rfl, h16, hOp, hp⟩, hb⟩
theorem rdec_law (a : Option Addr) (len cap : Nat) (l : List Int) (w : World) (h : Lies .u8 w a len cap l) (ho : Oct l) (hl : len ≤ 700) :
    Calls Tryd.prog 22 #[.slice a len cap] w fun e w' => (∃ a' m cap' L', e = .returned (.tuple #[.slice a' m cap', .int .i64 (dec 0 l).2]) ∧ Hid (Opts w' a' m cap' L') ∧ Hid (pos L' = if (dec 0 l).2 = 0 then (dec 0 l).1 else [])) ∧ Below w.heap.size w w' := by
  refine (refDecode_any a len cap l w h ho hl).mono ?_
  rintro e w' ⟨v, L, rfl, hb, hown, hO, hp⟩
  obtain ⟨a', cap', rfl, hOp⟩ := owns_opts hown (fun o ho => (hO o ho).ok hb)
  exact ⟨⟨a', L.length, cap', L, rfl, hOp, hp⟩, hb⟩
set_option maxRecDepth 1000000 in
set_option maxHeartbeats 3200000 in
theorem decodes_core (a : Option Addr) (len cap n : Nat) (l : List Int) (w : World) (hmin : (if (600 : Int) < (len : Int) then (600 : Int) else (len : Int)) = (n : Int)) (hn : n ≤ len ∧ n ≤ 600) (h : Lies .u8 w a n cap l) (hlc : len ≤ cap) (ho : Oct l) (hV : Vars w.heap.size w) :
    Calls Tryd.prog 4 #[.slice a len cap] w fun e w' => e = .returned (.bool true) ∧ Below w.heap.size w w' := by
  have hcm := h.2.2.1
  unfold maxLen at hcm
  have HL := hid h
  have HV := hid hV
  have HO := hid ho
  have HEn := hid (fun he => enc_of l ho (by rw [h.1]; omega) he)
  clear h hV ho
  go_enter Tryd.func4, Tryd.ntmps4
  go_wp2_with fail
  refine (dec_law a n cap l _ HL.out HO.out (by omega) HV.out).mono ?_
  rintro e w1 ⟨⟨xa, xm, xc, X, rfl, h16, hX, hPX⟩, hb1⟩
  have X1 := hid hX.out
  have PX := hid hPX.out
  have B1 := hid hb1
  have V1 := hid (HV.out.below hb1)
  have L1 := hid (HL.out.below hb1)
  clear hX hPX hb1 HV HL
  go_wp2_with fail
  refine (rdec_law a n cap l _ L1.out HO.out (by omega)).mono ?_
  rintro e w2 ⟨⟨ya, ym, yc, Y, rfl, hY, hPY⟩, hb2⟩
  have X2 := hid (X1.out.below hb2)
  have Y2 := hid hY.out
  have PY := hid hPY.out
  have B2 := hid (bthen B1.out hb2)
  have V2 := hid (V1.out.below hb2)
  have L2 := hid (L1.out.below hb2)
  clear hY hPY hb2 V1 L1 X1 B1
  have PE : Hid (pos X = pos Y) := by rw [Hid, PX.out, PY.out]
  have PX0 : Hid ((dec 0 l).2 = 0 → encE (pos X) = 0 ∧ encL (pos X) = l) := fun he => by rw [PX.out, if_pos he]; exact HEn.out he
  clear PX PY HEn
  generalize (dec 0 l).2 = er at *
  have hee : (er != er) = false := by simp
  go_wp2_with fail
  refine (of_law xa xm xc X _ X2.out (by omega)).mono ?_
  rintro e w3 ⟨⟨oa, oc, rfl, hO⟩, hb3⟩
  have X3 := hid (X2.out.below hb3)
  have Y3 := hid (Y2.out.below hb3)
  have B3 := hid (bthen B2.out hb3)
  have V3 := hid (V2.out.below hb3)
  have L3 := hid (L2.out.below hb3)
  have O3 := hid hO.out
  clear hb3 hO V2 L2 X2 Y2 B2
  go_wp2_with fail
  refine (refAll_any oa ya xm oc ym yc X Y _ O3.out Y3.out).mono ?_
  rintro e w4 ⟨rfl, hb4⟩
  have X4 := hid (X3.out.below hb4)
  have B4 := hid (bthen B3.out hb4)
  have V4 := hid (V3.out.below hb4)
  have L4 := hid (L3.out.below hb4)
  clear hb4 V3 L3 X3 Y3 B3 O3
  rw [PE.out, allB_self]
  by_cases he : er = 0
  · have HE := hid (PX0.out he)
    subst he
    clear PX0
    go_wp2_with fail
    refine (encode_any xa xm xc X _ X4.out V4.out (by omega)).mono ?_
    rintro e w5 ⟨v5, rfl, hown5, hb5⟩
    obtain ⟨ba, bc, rfl, hb8, _⟩ := owns_lies hown5
    rw [HE.out.1, HE.out.2]
    rw [HE.out.2] at hb8
    have LB5 := hid hb8
    have B5 := hid (bthen B4.out hb5)
    have V5 := hid (V4.out.below hb5)
    have L5 := hid (L4.out.below hb5)
    clear hown5 hb5 hb8 V4 L4 X4 B4
    generalize l.length = ll at *
    go_wp2_with fail
    refine (known_any _ V5.out).mono ?_
    rintro e w6 ⟨rfl, hb6⟩
    have LB6 := hid (LB5.out.below hb6)
    have B6 := hid (bthen B5.out hb6)
    have L6 := hid (L5.out.below hb6)
    clear hb6 V5 L5 LB5 B5
    go_wp2_with fail
    refine (same_any ba a ll bc n cap l l _ LB6.out L6.out).mono ?_
    rintro e w7 ⟨rfl, q, rfl⟩
    rw [beq_self_eq_true]
    go_wp2_with fail
    go_ret
    exact ⟨rfl, bdrew B6.out q⟩
  · have he1 : (er != 0) = true := by rw [bne_iff_ne]; exact he
    clear he
    go_wp2_with fail
    refine (known_any _ V4.out).mono ?_
    rintro e w6 ⟨rfl, hb6⟩
    have B6 := hid (bthen B4.out hb6)
    clear hb6
    go_wp2_with fail
    go_ret
    exact ⟨rfl, B6.out⟩
theorem decodes_walk (a : Option Addr) (len cap : Nat) (z : List Int) (w : World) (hr : IsRow .u8 w a len cap z) (hV : Vars w.heap.size w) :
    Calls Tryd.prog 4 #[.slice a len cap] w fun e w' => e = .returned (.bool true) ∧ Below w.heap.size w w' := by
  refine decodes_core a len cap (min len 600) ((z.take len).take (min len 600)) w ?_ (by omega) (hr.lies.pre (min len 600) (by omega)) hr.lies.2.1 (fun x hx => hr.oct x (List.mem_of_mem_take (List.mem_of_mem_take hx))) hV
  split <;> omega
end Go.Proofs.YtbgogeojdibmkaaDoor

namespace Go.Proofs.YtbgogeojdibmkaaDoor
open Go.ChangeShapes Go.WideShapes Go.ChangeAt Go.RowKit Go.Deep
set_option linter.unusedVariables false
set_option linter.unusedSimpArgs false
set_option maxRecDepth 100000

theorem own : ownKnob Tryd.prog.godebug = none := by kernel_rfl
theorem laidOut : laidOutB Tryd.prog = true := by kernel_rfl
noncomputable def lowW : Nat := (World.holding Tryd.prog default ⟨#[], #[], []⟩).heap.size
def put (c : Array Value) : Obj → Obj
  | .cells _ t frozen => .cells c t frozen
  | o => o
def pblk (k : Nat) : Obj := .cells (pcs (prt k)).toArray 87
noncomputable def shc (k : Nat) (j : Nat) : List Value := [.string (wrd k), .slice (some ⟨lowW + j, 0, none⟩) (prt k).length (prt k).length, .bool (zer k), .bool (txb k)]
def shn (k : Nat) : List Value := [.string (wrd k), .slice none 0 0, .bool (zer k), .bool (txb k)]
noncomputable def shAll : Array Value := (shn 0 ++ (shc 1 0 ++ (shn 2 ++ (shc 3 1 ++ (shc 4 2 ++ (shc 5 3 ++ (shc 6 4 ++ (shc 7 5 ++ (shc 8 6 ++ shc 9 7))))))))).toArray
noncomputable def laidWorld (os : Os) : World :=
  let w0 := World.holding Tryd.prog os ⟨#[pblk 1, pblk 3, pblk 4, pblk 5, pblk 6, pblk 7, pblk 8, pblk 9], #[], []⟩
  { w0 with heap := w0.heap.modify 0 (put shAll) }
set_option maxRecDepth 100000 in
theorem laid_met (os : Os) (args : Array Value) : laidMet Tryd.prog Rows.optionJoinsRow.laid ((laidWorld os).forCall (fun _ _ => 0) ⟨#[], args, []⟩).memory :=
  laidMet_of_run' 8 (by kernel_rfl) (by kernel_rfl)
end Go.Proofs.YtbgogeojdibmkaaDoor
