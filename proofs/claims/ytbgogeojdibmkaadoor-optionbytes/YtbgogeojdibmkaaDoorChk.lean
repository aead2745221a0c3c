/- What is wrong with an option: formed, within, Check. -/
import Derived.Test.YtbgogeojdibmkaaDoorNmb
namespace Go.Proofs.YtbgogeojdibmkaaDoor
open Go.ChangeShapes Go.WideShapes Go.ChangeAt Go.RowKit Go.Deep
set_option linter.unusedVariables false
set_option linter.unusedSimpArgs false

/-! How two addresses are compared. -/
theorem info5' : (Tryd.prog.info? 5).isSome = true := by kernel_rfl
theorem eqItems_u8 (w : World) (l m : List Int) (h : l.length = m.length) : ∀ (is : List Nat), (∀ i ∈ is, i < l.length) →
    (Op.eqItems 9999 5 (Tryd.prog.cellsOf 5) (arr l) (arr m) is).run Tryd.prog w = .ok (is.all fun i => l.getD i 0 == m.getD i 0) w
  | [], _ => by simp [Op.eqItems]
  | i :: is, hi => by
    have h1 : Tryd.prog.cellsOf 5 = 1 := by kernel_rfl
    have hil : i < l.length := hi i (by simp)
    have ih := eqItems_u8 w l m h is (fun j hj => hi j (by simp [hj]))
    have hp : ∀ l' : List Int, i < l'.length → (part 5 (arr l') (i * 1)).run Tryd.prog w = .ok (.int .u8 (l'.getD i 0)) w := by
      intro l' hl'
      have hagg : (isAgg 5).run Tryd.prog w = .ok false w := by unfold isAgg; rw [Sem.run_bind, run_underlying Tryd.underlying5 w]; rfl
      simp only [part, Sem.run_bind, hagg, Result.andThen_ok, Bool.false_eq_true, if_false, Nat.mul_one, arr_at l' i hl', Sem.run_pure]
    simp only [Op.eqItems, Sem.run_bind, h1, hp l hil, hp m (by omega), Result.andThen_ok, run_equalIn_int (P := Tryd.prog) w 9998 5 .u8 .u8 (l.getD i 0) (m.getD i 0) Tryd.underlying5]
    rw [h1] at ih
    cases hb : (l.getD i 0 == m.getD i 0)
    · simp only [List.all_cons, hb, Bool.false_and, Bool.not_false, if_true, Sem.run_pure]
    · simp only [List.all_cons, hb, Bool.true_and, Bool.not_true, Bool.false_eq_true, if_false]; exact ih
theorem all_eq (l m : List Int) (n : Nat) (hl : l.length = n) (hm : m.length = n) : ((List.range n).all fun i => l.getD i 0 == m.getD i 0) = (l == m) := by
  rw [Bool.eq_iff_iff]
  simp only [List.all_eq_true, List.mem_range, beq_iff_eq]
  constructor
  · intro h
    apply List.ext_getElem (by omega)
    intro i h1 h2
    have := h i (by omega)
    simpa [h1, h2] using this
  · rintro rfl i _; rfl
theorem eq41 (l m : List Int) (hl : l.length = 16) (hm : m.length = 16) : ∀ w : World, (Op.equalIn 10000 41 (.agg (arr l)) (.agg (arr m))).run Tryd.prog w = .ok (l == m) w := fun w => by
  obtain ⟨i, hi⟩ := Option.isSome_iff_exists.1 info5'
  rw [run_equalIn_array w 9999 (arr l) (arr m) Tryd.underlying41 hi, eqItems_u8 w l m (by omega) _ (by intro i hi; simp at hi; omega), all_eq l m 16 hl hm]
theorem eq36 (l m : List Int) (hl : l.length = 16) (hm : m.length = 16) : ∀ w : World, (Op.equalIn 10000 36 (.agg (arr l)) (.agg (arr m))).run Tryd.prog w = .ok (l == m) w := fun w => by
  obtain ⟨i, hi⟩ := Option.isSome_iff_exists.1 info5'
  rw [run_equalIn_array w 9999 (arr l) (arr m) Tryd.underlying36 hi, eqItems_u8 w l m (by omega) _ (by intro i hi; simp at hi; omega), all_eq l m 16 hl hm]
theorem size41 : (Tryd.prog.info? 41).map (·.size) = some 16 := by kernel_rfl
theorem size36 : (Tryd.prog.info? 36).map (·.size) = some 16 := by kernel_rfl
theorem built41 : Tryd.prog.built 41 [] = some (arr zeros) := by kernel_rfl
theorem ld41 {ops : Array Oper} {rest : List Oper} {o : Oper} {a : Act} {w : World} {Q : Exit → Act → World → Prop} (x : Operand) (ho : o.op = .load 41 x) (hw : Region.wanted o (yielded ops a.tmps) = true) (g off : Nat) (hx : a.eval x = .pointer (some ⟨g, off, none⟩)) (l : List Int) (hl : Adr l) (hg : Part w g off (arr l))
    (h : wpList Tryd.prog ops Q rest (a.put o.dst (.agg (arr l))) w) : wpList Tryd.prog ops Q (o :: rest) a w :=
  wp_ld 41 x ho hw g off hx (arr l) _ Tryd.underlying41 rfl (by rw [arr_size, hl.1]; exact size41) hg h
theorem ld36 {ops : Array Oper} {rest : List Oper} {o : Oper} {a : Act} {w : World} {Q : Exit → Act → World → Prop} (x : Operand) (ho : o.op = .load 36 x) (hw : Region.wanted o (yielded ops a.tmps) = true) (g off : Nat) (hx : a.eval x = .pointer (some ⟨g, off, none⟩)) (l : List Int) (hl : Adr l) (hg : Part w g off (arr l))
    (h : wpList Tryd.prog ops Q rest (a.put o.dst (.agg (arr l))) w) : wpList Tryd.prog ops Q (o :: rest) a w :=
  wp_ld 36 x ho hw g off hx (arr l) _ Tryd.underlying36 rfl (by rw [arr_size, hl.1]; exact size36) hg h
theorem bd41 {ops : Array Oper} {rest : List Oper} {o : Oper} {a : Act} {w : World} {Q : Exit → Act → World → Prop} (ho : o.op = .build 41 #[]) (hg : o.guard = none)
    (hn : wpList Tryd.prog ops Q rest (a.put o.dst (.agg (arr zeros))) w) : wpList Tryd.prog ops Q (o :: rest) a w :=
  wp_bd 41 _ ho hg (arr zeros) (by simp only [List.map_toArray, List.map_nil]; exact built41) hn

/-- A row of the call's own is a slice. -/
theorem owns_len {w : World} {base : Nat} {e : TypeId} {size : Nat} {v : Value} {n : Nat} {xs : List Value} (h : w.ownsRow base e size v n xs) : ∃ a cap, v = .slice a n cap := by
  rcases h.2 with ⟨rfl, hn⟩ | ⟨g, cap, cur, rfl, _⟩
  · exact ⟨none, 0, by rw [hn]⟩
  · exact ⟨_, cap, rfl⟩

def hasA (k : Nat) : Bool := decide ((nmb (prt k)).length < (prt k).length)
/-- Has an option what its kind has? -/
def frmB (k : Nat) (o : Po) : Bool := (o.n.length == (nmb (prt k)).length) && ((o.ad == zeros || hasA k) && (o.t.length == 0 || txb k))

set_option maxHeartbeats 800000 in
theorem formed_any {B : Nat} (o : Ov) (k : Nat) (hk : k < 10) (hok : o.k = k) (w : World) (ho : o.ok w) (hV : Vars B w) :
    Calls Tryd.prog 30 #[.agg o.cs] w fun e w' => e = .returned (.bool (frmB k o.p)) ∧ Below w.heap.size w w' := by
  have hq := eq41 o.ad zeros ho.ad.1 rfl
  have HR0 := hid (Row.new w 43 o.cs)
  have B0 := hid (balloc (Below.refl w.heap.size w) (.cells o.cs 43))
  have V0 := hid (hV.below B0.out)
  have HF : Hid (frmB k o.p = ((o.n.n == (nmb (prt k)).length) && ((o.ad == zeros || hasA k) && (o.t.n == 0 || txb k)))) := by rw [Hid, frmB, Ov.p, ho.n.1, ho.t.1]
  have hA : hasA k = decide ((nmb (prt k)).length < (prt k).length) := rfl
  have HA := hid ho.ad
  have hnle := (prt_small k hk).1
  have hmle := nmb_le (prt k)
  have hnl : o.n.n ≤ maxLen := Nat.le_trans ho.n.2.1 ho.n.2.2.1
  have htl : o.t.n ≤ maxLen := Nat.le_trans ho.t.2.1 ho.t.2.2.1
  unfold maxLen at hnl htl
  clear hV
  generalize frmB k o.p = fb at *
  generalize (o.ad == zeros) = zb at *
  go_enter Tryd.func30, Tryd.ntmps30
  go_upto_region 1 with fail
  generalize hw1 : w.alloc (.cells o.cs 43) = w1 at *
  have c0 := (HR0.out.cell 0).trans o.at0
  rw [hok] at c0
  clear hw1
  go_wp2_with fail
  refine (numbers_any k hk _ V0.out).mono ?_
  rintro e w2 ⟨v, rfl, hown, hb⟩
  obtain ⟨va, vc, rfl⟩ := owns_len hown
  have V1 := V0.out.below hb
  have R1 := hid (HR0.out.below hb)
  have B1 := hid (bthen B0.out hb)
  obtain ⟨sa, sn, sc, s1, hP⟩ := V1.parts k hk
  have s3 := V1.text k hk
  have hsn := hP.len
  clear hown hb c0 V1 hP HR0 B0 V0
  have c0 := (R1.out.cell 0).trans o.at0
  rw [hok] at c0
  have c1 := (R1.out.cell 1).trans o.at1
  have c18 := (R1.out.cell 18).trans (Ov.at18 HA.out)
  have PA := hid (R1.out.part.ovA HA.out)
  have HO := hid hok
  generalize (nmb (prt k)).length = m at *
  generalize (prt k).length = pn at *
  subst hsn
  clear hok
  generalize hasA k = ha at *
  generalize txb k = tb at *
  generalize o.n.n = nl at *
  generalize o.t.n = tl at *
  by_cases hlen : nl = m
  · have e1 : ((nl : Int) != (m : Int)) = false := by simp [hlen]
    have HL := hid hlen
    by_cases hlt : m < pn
    · have e2 : decide (m < pn) = true := decide_eq_true hlt
      have e2' : decide ((m : Int) < (pn : Int)) = true := decide_eq_true (by omega)
      rw [e2] at hA
      subst hA
      by_cases htl0 : tl = 0
      · have HT := hid htl0
        have e3 : ((tl : Int) == 0) = true := by simp [htl0]
        clear htl0 hlen
        cases zb <;>
        ( go_wp2_with (first | (refine ld41 _ rfl rfl w.heap.size (0 + 2) rfl o.ad HA.out PA.out ?_) | (refine bd41 rfl rfl ?_))
          go_ret
          exact ⟨ret_bool (by rw [HF.out, HL.out, HT.out]; simp), B1.out⟩)
      · have HT := hid htl0
        have e3 : ((tl : Int) == 0) = false := by simp [htl0]
        clear htl0 hlen
        cases zb <;> cases tb <;>
        ( go_wp2_with (first | (refine ld41 _ rfl rfl w.heap.size (0 + 2) rfl o.ad HA.out PA.out ?_) | (refine bd41 rfl rfl ?_))
          go_ret
          exact ⟨ret_bool (by rw [HF.out, HL.out]; simp [HT.out]), B1.out⟩)
    · have e2 : decide (m < pn) = false := decide_eq_false hlt
      have e2' : decide ((m : Int) < (pn : Int)) = false := decide_eq_false (by omega)
      rw [e2] at hA
      subst hA
      cases zb
      · clear hlen
        go_wp2_with (first | (refine ld41 _ rfl rfl w.heap.size (0 + 2) rfl o.ad HA.out PA.out ?_) | (refine bd41 rfl rfl ?_))
        go_ret
        exact ⟨ret_bool (by rw [HF.out]; simp), B1.out⟩
      · by_cases htl0 : tl = 0
        · have HT := hid htl0
          have e3 : ((tl : Int) == 0) = true := by simp [htl0]
          clear htl0 hlen
          go_wp2_with (first | (refine ld41 _ rfl rfl w.heap.size (0 + 2) rfl o.ad HA.out PA.out ?_) | (refine bd41 rfl rfl ?_))
          go_ret
          exact ⟨ret_bool (by rw [HF.out, HL.out, HT.out]; simp), B1.out⟩
        · have HT := hid htl0
          have e3 : ((tl : Int) == 0) = false := by simp [htl0]
          clear htl0 hlen
          cases tb <;>
          ( go_wp2_with (first | (refine ld41 _ rfl rfl w.heap.size (0 + 2) rfl o.ad HA.out PA.out ?_) | (refine bd41 rfl rfl ?_))
            go_ret
            exact ⟨ret_bool (by rw [HF.out, HL.out]; simp [HT.out]), B1.out⟩)
  · have e1 : ((nl : Int) != (m : Int)) = true := by rw [bne_iff_ne]; omega
    have HL := hid hlen
    clear hlen
    by_cases hlt : m < pn
    · have e2' : decide ((m : Int) < (pn : Int)) = true := decide_eq_true (by omega)
      go_wp2_with fail
      go_ret
      exact ⟨ret_bool (by rw [HF.out]; simp [HL.out]), B1.out⟩
    · have e2' : decide ((m : Int) < (pn : Int)) = false := decide_eq_false (by omega)
      go_wp2_with fail
      go_ret
      exact ⟨ret_bool (by rw [HF.out]; simp [HL.out]), B1.out⟩
end Go.Proofs.YtbgogeojdibmkaaDoor
