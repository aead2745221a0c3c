/- What addr's Right, Cut, All, Multicast, Global and Link answer. -/
import Derived.Test.YtoijfnkbjdekoaaDoorHas
namespace Go.Proofs.YtoijfnkbjdekoaaDoor
open Go.ChangeShapes Go.WideShapes Go.ChangeAt Go.RowKit
set_option linter.unusedVariables false
set_option linter.unusedSimpArgs false

theorem built42' (a0 a1 a2 a3 a4 a5 a6 a7 a8 a9 a10 a11 a12 a13 a14 a15 n : Int) : Tryd.prog.built 42 [(0, .agg (u8s [a0, a1, a2, a3, a4, a5, a6, a7, a8, a9, a10, a11, a12, a13, a14, a15])), (1, .int .i64 n)] = some (pfx [a0, a1, a2, a3, a4, a5, a6, a7, a8, a9, a10, a11, a12, a13, a14, a15] n) := by kernel_rfl
theorem built42 (l : List Int) (n : Int) (hl : l.length = 16) : Tryd.prog.built 42 [(0, .agg (u8s l)), (1, .int .i64 n)] = some (pfx l n) := by
  match l, hl with
  | [a0, a1, a2, a3, a4, a5, a6, a7, a8, a9, a10, a11, a12, a13, a14, a15], _ => exact built42' a0 a1 a2 a3 a4 a5 a6 a7 a8 a9 a10 a11 a12 a13 a14 a15 n
theorem wp_bd {P : Program} {ops : Array Oper} {rest : List Oper} {o : Oper} {a : Act} {w : World} {Q : Exit → Act → World → Prop} (t : TypeId) (parts : Array (Nat × Operand)) (ho : o.op = .build t parts) (hg : o.guard = none)
    (cs : Array Value) (hf : P.built t (parts.map fun (i, x) => (i, a.eval x)).toList = some cs)
    (h : wpList P ops Q rest (a.put o.dst (.agg cs)) w) : wpList P ops Q (o :: rest) a w :=
  wpList_build hg t parts ho (by rw [hf]; rfl) (by rw [hf]; exact h)
theorem bd42 {ops : Array Oper} {rest : List Oper} {o : Oper} {a : Act} {w : World} {Q : Exit → Act → World → Prop} (x y : Operand) (ho : o.op = .build 42 #[(0, x), (1, y)]) (hg : o.guard = none)
    (l : List Int) (n : Int) (hl : l.length = 16) (hx : a.eval x = .agg (u8s l)) (hy : a.eval y = .int .i64 n)
    (h : wpList Tryd.prog ops Q rest (a.put o.dst (.agg (pfx l n))) w) : wpList Tryd.prog ops Q (o :: rest) a w :=
  wp_bd 42 #[(0, x), (1, y)] ho hg (pfx l n) (by simp only [List.map_toArray, List.map_cons, List.map_nil, hx, hy]; exact built42 l n hl) h

/-- Is it a prefix? -/
def rightB (p : List Int) (n : Int) : Bool := hasB p n p
def zeros : List Int := List.replicate 16 0
theorem zeros_len : zeros.length = 16 := rfl
theorem adr_zeros : Adr zeros := ⟨rfl, by intro x hx; simp only [zeros, List.mem_replicate] at hx; omega⟩

theorem right_any (p : List Int) (n : Int) (w : World) (hp : Adr p) :
    Calls Tryd.prog 25 #[.agg (pfx p n)] w fun e w' => e = .returned (.bool (rightB p n)) ∧ Below w.heap.size w w' := by
  have hR : Row (w.alloc (.cells (pfx p n) 42)) w.heap.size 42 (pfx p n) := Row.new w 42 _
  go_enter Tryd.func25, Tryd.ntmps25
  go_wp2_with (first
    | (refine ld42 _ rfl rfl w.heap.size 0 rfl p n hp.1 hR.part ?_)
    | (refine ld25 _ rfl rfl w.heap.size 0 rfl p hp.1 hR.pre ?_)
    | (go_at_call 26; refine (has_any p n p _ hp hp).mono ?_; rintro e w2 ⟨rfl, hb2⟩))
  go_ret
  exact ⟨rfl, (below_new w _).trans (hb2.mono (by simp))⟩

/-- What Cut answers. -/
def cutA (bits : Int) (l : List Int) : List Int := if bitsB bits then cutL bits l else zeros
def cutN (bits : Int) : Int := if bitsB bits then bits else 0
def cutE (bits : Int) : Int := if bitsB bits then 0 else 1
theorem adr_cutA {bits : Int} {l : List Int} (h : Adr l) : Adr (cutA bits l) := by unfold cutA; split; exact adr_cut h; exact adr_zeros

theorem zpfx : (#[.int .u8 0, .int .u8 0, .int .u8 0, .int .u8 0, .int .u8 0, .int .u8 0, .int .u8 0, .int .u8 0, .int .u8 0, .int .u8 0, .int .u8 0, .int .u8 0, .int .u8 0, .int .u8 0, .int .u8 0, .int .u8 0, .int .i64 0] : Array Value) = pfx zeros 0 := rfl
theorem zadr : (#[.int .u8 0, .int .u8 0, .int .u8 0, .int .u8 0, .int .u8 0, .int .u8 0, .int .u8 0, .int .u8 0, .int .u8 0, .int .u8 0, .int .u8 0, .int .u8 0, .int .u8 0, .int .u8 0, .int .u8 0, .int .u8 0] : Array Value) = u8s zeros := rfl

theorem cutP_any (l : List Int) (bits : Int) (w : World) (ha : Adr l) :
    Calls Tryd.prog 27 #[.agg (u8s l), .int .i64 bits] w fun e w' => e = .returned (.tuple #[.agg (pfx (cutA bits l) (cutN bits)), .int .i64 (cutE bits)]) ∧ Below w.heap.size w w' := by
  have hA : Row ((w.alloc (.cells (u8s l) 25)).alloc (.cells (pfx zeros 0) 42)) w.heap.size 25 (u8s l) := (Row.new w 25 _).alloc _
  have hR : Row ((w.alloc (.cells (u8s l) 25)).alloc (.cells (pfx zeros 0) 42)) (w.heap.size + 1) 42 (pfx zeros 0) := by simpa using Row.new (w.alloc (.cells (u8s l) 25)) 42 (pfx zeros 0)
  have hz := zpfx
  cases h : bitsB bits
  · have HE : Hid (cutA bits l = zeros ∧ cutN bits = 0 ∧ cutE bits = 1) := by simp [Hid, cutA, cutN, cutE, h]
    have H : Hid (bitsB bits = false) := h
    clear h
    go_enter Tryd.func27, Tryd.ntmps27
    go_wp2_with (first
      | (go_at_call 36; refine (isBits_any _ _).mono ?_; rintro e w1 ⟨rfl, rfl⟩; rw [H.out])
      | (refine st42 _ _ rfl rfl (w.heap.size + 1) zeros 0 zeros_len rfl rfl 42 _ (by rfl) hR ?_))
    obtain ⟨e1, e2, e3⟩ := HE.out
    refine bodyPost_ret (res42e rfl _ _ _ 42 zeros 0 zeros_len (.int .i64 1) rfl rfl (hR.setRow _)) rfl ⟨by rw [e1, e2, e3], ?_⟩
    exact below_setRow (below_new2 w _ _) (by omega) _
  · have HE : Hid (cutA bits l = cutL bits l ∧ cutN bits = bits ∧ cutE bits = 0) := by simp [Hid, cutA, cutN, cutE, h]
    have H : Hid (bitsB bits = true) := h
    clear h
    go_enter Tryd.func27, Tryd.ntmps27
    go_wp2_with (first
      | (go_at_call 36; refine (isBits_any _ _).mono ?_; rintro e w1 ⟨rfl, rfl⟩; rw [H.out])
      | (refine ld25 _ rfl rfl w.heap.size 0 rfl l ha.1 hA.part ?_)
      | (go_at_call 34; refine (cut_any l bits _ ha (bitsB_yes H.out).1 (bitsB_yes H.out).2).mono ?_; rintro e w2 ⟨rfl, hb2⟩; have B2 : Hid (Below (w.heap.size + 2) ((w.alloc (.cells (u8s l) 25)).alloc (.cells (pfx zeros 0) 42)) w2) := ⟨hb2.os, hb2.tape, hb2.output, hb2.size, fun k hk => hb2.block k (by simpa using hk)⟩; clear hb2; have R2 := hR.below B2.out (by omega))
      | (refine bd42 _ _ rfl rfl (cutL bits l) bits (by rw [cutL_len]; exact ha.1) rfl rfl ?_)
      | (refine st42 _ _ rfl rfl (w.heap.size + 1) (cutL bits l) bits (by rw [cutL_len]; exact ha.1) rfl rfl 42 _ (by rfl) R2 ?_))
    obtain ⟨e1, e2, e3⟩ := HE.out
    refine bodyPost_ret (res42e rfl _ _ _ 42 (cutL bits l) bits (by rw [cutL_len]; exact ha.1) (.int .i64 0) rfl rfl (R2.setRow _)) rfl ⟨by rw [e1, e2, e3], ?_⟩
    exact below_setRow ((below_new2 w _ _).trans (B2.out.mono (by omega))) (by omega) _

def allL : List Int := [255, 2, 0, 0, 0, 0, 0, 0, 0, 0, 0, 0, 0, 0, 0, 26]
theorem all_any (w : World) : Calls Tryd.prog 33 #[] w fun e w' => e = .returned (.agg (u8s allL)) ∧ Below w.heap.size w w' := by
  have hR : Row (w.alloc (.cells (u8s zeros) 25)) w.heap.size 25 (u8s zeros) := Row.new w 25 _
  have hz := zadr
  go_enter Tryd.func33, Tryd.ntmps33
  go_wp2_with (refine st25 _ _ rfl rfl w.heap.size allL rfl rfl rfl 25 _ (by rfl) hR ?_)
  refine bodyPost_ret (res25 rfl _ _ _ 25 allL rfl rfl (hR.setRow _)) rfl ⟨rfl, ?_⟩
  exact below_setRow (below_new w _) (Nat.le_refl _) _

theorem multicast_any (l : List Int) (w : World) (ha : Adr l) :
    Calls Tryd.prog 20 #[.agg (u8s l)] w fun e w' => e = .returned (.bool (l.getD 0 0 == 255)) ∧ Below w.heap.size w w' := by
  have hR : Row (w.alloc (.cells (u8s l) 25)) w.heap.size 25 (u8s l) := Row.new w 25 _
  have hc : (w.alloc (.cells (u8s l) 25)).cell? ⟨w.heap.size, 0, none⟩ = some (.int .u8 (l.getD 0 0)) := by rw [hR.cell, u8s_at l 0 (by rw [ha.1]; omega)]
  generalize l.getD 0 0 = x at *
  clear hR ha
  go_enter Tryd.func20, Tryd.ntmps20
  go_wp2
  go_ret
  exact ⟨rfl, below_new w _⟩
end Go.Proofs.YtoijfnkbjdekoaaDoor
