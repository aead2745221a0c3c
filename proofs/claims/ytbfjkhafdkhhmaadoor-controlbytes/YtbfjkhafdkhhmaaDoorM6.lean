/- Slices of options of the call's own: how they are made and put behind, in regions that draw their order too. · Options of some kinds: slices.Index, Contains, IndexFunc, oneOf; slices.Clone, copied. · An option with lists of its own: slices.Clone, copied. -/
import Derived.Test.YtbfjkhafdkhhmaaDoorM5
import Derived.Great.BuildSlice
namespace Go.Proofs.YtbfjkhafdkhhmaaDoor
open Go.ChangeShapes Go.WideShapes Go.ChangeAt Go.RowKit Go.Deep
set_option linter.unusedVariables false
set_option linter.unusedSimpArgs false

theorem fillO' (k : Int) (na : Option Addr) (nl nc : Nat) (l : List Int) (a0 a1 a2 a3 a4 a5 a6 a7 a8 a9 a10 a11 a12 a13 a14 a15 : Int) (ta : Option Addr) (tl tc : Nat) (m : List Int) :
    Instr.fill (fun i => some (i * 19, 19)) ((Array.range (1 * 19)).map ((Value.agg Ov.zero.cs).cells[· % (Value.agg Ov.zero.cs).cells.size]!)) [(0, .agg (Ov.cs ⟨k, ⟨na, nl, nc, l⟩, [a0, a1, a2, a3, a4, a5, a6, a7, a8, a9, a10, a11, a12, a13, a14, a15], ⟨ta, tl, tc, m⟩⟩))] = some (Ov.cs ⟨k, ⟨na, nl, nc, l⟩, [a0, a1, a2, a3, a4, a5, a6, a7, a8, a9, a10, a11, a12, a13, a14, a15], ⟨ta, tl, tc, m⟩⟩) := by kernel_rfl
theorem fillO (o : Ov) (h : o.ad.length = 16) : Instr.fill (fun i => some (i * 19, 19)) ((Array.range (1 * 19)).map ((Value.agg Ov.zero.cs).cells[· % (Value.agg Ov.zero.cs).cells.size]!)) [(0, .agg o.cs)] = some o.cs := by
  obtain ⟨k, ⟨na, nl, nc, l⟩, ad, ⟨ta, tl, tc, m⟩⟩ := o
  simp only at h
  match ad, h with
  | [a0, a1, a2, a3, a4, a5, a6, a7, a8, a9, a10, a11, a12, a13, a14, a15], _ => exact fillO' k na nl nc l a0 a1 a2 a3 a4 a5 a6 a7 a8 a9 a10 a11 a12 a13 a14 a15 ta tl tc m
/-- A type of slices of options. -/
structure ST (ts t : TypeId) : Prop where
  und : Tryd.prog.underlying ts = some (.slice t)
  ot : OTo t
theorem s23 : ST 27 54 := ⟨Tryd.underlying27, o43⟩
theorem s22 : ST 23 57 := ⟨Tryd.underlying23, o38⟩
theorem cells_zero : (Value.agg Ov.zero.cs).cells.size = 19 := by rw [Value.cells]; rfl
/-- A slice of one option. -/
theorem bsO {ops : Array Oper} {rest : List Oper} {o : Oper} {a : Act} {w : World} {Q : Exit → Act → World → Prop} {ts t : TypeId} (hT : ST ts t) (hg : o.guard = none) (y : Operand) (ho : o.op = .buildSlice ts 1 #[(0, y)])
    (v : Ov) (hl : Adr v.ad) (hy : a.eval y = .agg v.cs) (h : wpList Tryd.prog ops Q rest (a.put o.dst (.slice (some ⟨w.heap.size, 0, none⟩) 1 1)) (w.alloc (.cells v.cs t))) : wpList Tryd.prog ops Q (o :: rest) a w := by
  obtain ⟨ie, hi, hz, hs, hb⟩ := info_parts hT.ot.zero
  refine wpList_buildSlice hg ts t 1 _ ho v.cs ie _ hT.und hi hz (by rw [hs]; decide) (by rw [hs]; decide) ?_ h
  rw [hs]
  simp only [List.map_toArray, List.map_cons, List.map_nil, hy]
  exact fillO v hl.1
theorem step_bsO {ops : Array Oper} {o : Oper} {a : Act} {w : World} {K : Act → World → Prop} {Q : Exit → Act → World → Prop} {E : Prop} {ts t : TypeId} (hT : ST ts t) (hg : o.guard = none) (y : Operand) (ho : o.op = .buildSlice ts 1 #[(0, y)])
    (v : Ov) (hl : Adr v.ad) (hy : a.eval y = .agg v.cs) (h : K (a.put o.dst (.slice (some ⟨w.heap.size, 0, none⟩) 1 1)) (w.alloc (.cells v.cs t))) :
    if Region.wanted o (yielded ops a.tmps) = true then Oper.wp Tryd.prog o a w K Q else E := by
  rw [if_pos (by simp [Region.wanted, hg])]
  obtain ⟨ie, hi, hz, hs, hb⟩ := info_parts hT.ot.zero
  refine wp_buildSlice ts t 1 _ ho v.cs ie _ hT.und hi hz (by rw [hs]; decide) (by rw [hs]; decide) ?_ h
  rw [hs]
  simp only [List.map_toArray, List.map_cons, List.map_nil, hy]
  exact fillO v hl.1
theorem news_row {w : World} {g : Nat} {t : TypeId} {cs : Array Value} (h : Row w g t cs) : ∀ j u, cs.toList[j]? = some u → w.cell? ((⟨g, 0, none⟩ : Addr).add j) = some u := by
  intro j u hj
  rw [Addr.add_lit, Nat.zero_add, h.cell]
  simpa using hj
theorem one_list (v : Ov) : ∀ u ∈ v.cs.toList, u.oneCell' = true := by
  intro u hu
  have := v.one
  rw [Array.all_eq_true_iff_forall_mem] at this
  exact this u (by simpa using hu)
/-- An option more. -/
theorem step_pushO {ops : Array Oper} {o : Oper} {a : Act} {w : World} {K : Act → World → Prop} {Q : Exit → Act → World → Prop} {E : Prop} {ts t : TypeId} (hT : ST ts t) (hg : o.guard = none) (s y : Operand)
    (ho : o.op = .call { callee := .builtin .append, args := #[s, y], argTypes := #[ts, ts] }) (base m g : Nat) (v : Value) (xs : List Value) (hs : a.eval s = v) (hown : w.ownsRow base t 19 v m xs)
    (x : Ov) (hl : Adr x.ad) (hx : a.eval y = .slice (some ⟨g, 0, none⟩) 1 1) (hr : Row w g t x.cs) (hb : base ≤ w.heap.size) (hm : m ≤ 200000)
    (h : ∀ v' w', w'.ownsRow base t 19 v' (m + 1) (xs ++ x.cs.toList) → w.grownBy w' v.ownBlock → K (a.put o.dst v') w') :
    if Region.wanted o (yielded ops a.tmps) = true then Oper.wp Tryd.prog o a w K Q else E := by
  rw [if_pos (by simp [Region.wanted, hg])]
  obtain ⟨ie, hi, hz, hz1, hz2⟩ := info_parts hT.ot.zero
  refine wp_append_own w s y ts ho base t ie _ 19 72 hT.und hi hz hz1 hz2 cells_zero (by decide) v m xs hs hown ⟨g, 0, none⟩ 1 1 x.cs.toList hx (by rw [Array.length_toList, Ov.size hl]) (news_row hr) (one_list x) (by unfold maxLen; omega) (by omega) hb ?_
  intro v' w' h2 h3 _
  exact h v' w' h2 h3
/-- Numbers that lie somewhere, behind a row of the call's own, in a region that draws its order. -/
theorem step_appI {ops : Array Oper} {o : Oper} {a : Act} {w : World} {K : Act → World → Prop} {Q : Exit → Act → World → Prop} {E : Prop} {base n m cap : Nat} {v : Value} {xs l : List Int} {ao : Option Addr} (hg : o.guard = none) (s x : Operand)
    (ho : o.op = .call { callee := .builtin .append, args := #[s, x], argTypes := #[52, 52] }) (hs : a.eval s = v) (hx : a.eval x = .slice ao m cap)
    (hown : w.ownsRow base 3 1 v n (i64s xs)) (hl : Lies .i64 w ao m cap l) (hb : base ≤ w.heap.size) (hm : n + m ≤ 200000)
    (h : ∀ v' w', w'.ownsRow base 3 1 v' (n + m) (i64s (xs ++ l)) → w.grownBy w' v.ownBlock → K (a.put o.dst v') w') :
    if Region.wanted o (yielded ops a.tmps) = true then Oper.wp Tryd.prog o a w K Q else E := by
  rw [if_pos (by simp [Region.wanted, hg])]
  obtain ⟨ie, hi, hz, hz1, hz2⟩ := info_parts info3
  cases ao with
  | some ad =>
    refine wp_append_own w s x 52 ho base 3 ie _ 1 8 Tryd.underlying52 hi hz hz1 hz2 rfl (by decide) v n _ hs hown ad m cap (l.map (Value.int .i64)) hx (by rw [List.length_map, hl.1]; omega) (hl.cells ad rfl) (ints_oneCell8 l .i64) (by unfold maxLen; omega) (by omega) hb ?_
    intro v' w' h2 h3 _
    exact h v' w' (by rw [i64s, List.map_append]; exact h2) h3
  | none =>
    obtain ⟨rfl, rfl⟩ := hl.isNil rfl
    have hn : l = [] := List.eq_nil_of_length_eq_zero hl.1
    subst hn
    have hrun := run_append_owned_none (P := Tryd.prog) (w := w) base 52 o.type 3 ie 1 Tryd.underlying52 hi v n _ hown
    unfold Oper.wp
    simp [execOp, ho, resolve, invoke, builtin, hs, hx, hrun, Result.andThen]
    exact h v w (by simpa using hown) (World.grownBy.refl _ _)
theorem yields_ldo {P : Program} {ops : Array Oper} {S : World → Prop} {op : Oper} {a : Act} (hw : Region.wanted op (yielded ops a.tmps) = true) (ty : TypeId) (x : Operand) (ho : op.op = .load ty x)
    (g off : Nat) (hx : a.eval x = .pointer (some ⟨g, off, none⟩)) (cs : Array Value) (d : TypeDesc) (hS : ∀ w, S w → Part w g off cs)
    (hu : P.underlying ty = some d) (hd : (match d with | .struct _ | .array _ _ => true | _ => false) = true) (hi : (P.info? ty).map (·.size) = some cs.size) : YieldsIf P ops S op (.agg cs) a :=
  .inl ⟨hw, fun w hw' => by
    unfold execOp
    simp only [ho, hx, Instr.loadAt, Instr.sureAddr, Sem.run_bind, Sem.run_pure, Result.andThen_ok, run_loadVar_part w g off ty cs d (hS w hw') hu hd hi]⟩
theorem yld36 {ops : Array Oper} {S : World → Prop} {op : Oper} {a : Act} (hw : Region.wanted op (yielded ops a.tmps) = true) (x : Operand) (ho : op.op = .load 22 x)
    (g off : Nat) (hx : a.eval x = .pointer (some ⟨g, off, none⟩)) (l : List Int) (hl : Adr l) (hS : ∀ w, S w → Part w g off (arr l)) : YieldsIf Tryd.prog ops S op (.agg (arr l)) a :=
  yields_ldo hw 22 x ho g off hx (arr l) _ hS Tryd.underlying22 rfl (by rw [arr_size, hl.1]; exact size36)
theorem yld41 {ops : Array Oper} {S : World → Prop} {op : Oper} {a : Act} (hw : Region.wanted op (yielded ops a.tmps) = true) (x : Operand) (ho : op.op = .load 26 x)
    (g off : Nat) (hx : a.eval x = .pointer (some ⟨g, off, none⟩)) (l : List Int) (hl : Adr l) (hS : ∀ w, S w → Part w g off (arr l)) : YieldsIf Tryd.prog ops S op (.agg (arr l)) a :=
  yields_ldo hw 26 x ho g off hx (arr l) _ hS Tryd.underlying26 rfl (by rw [arr_size, hl.1]; exact size41)
theorem yldOo {ops : Array Oper} {S : World → Prop} {op : Oper} {a : Act} {t : TypeId} (ht : OTo t) (hw : Region.wanted op (yielded ops a.tmps) = true) (x : Operand) (ho : op.op = .load t x)
    (g off : Nat) (hx : a.eval x = .pointer (some ⟨g, off, none⟩)) (v : Ov) (hl : Adr v.ad) (hS : ∀ w, S w → Part w g off v.cs) : YieldsIf Tryd.prog ops S op (.agg v.cs) a := by
  obtain ⟨fs, h1⟩ := ht.desc
  exact yields_ldo hw t x ho g off hx v.cs _ hS h1 rfl (by rw [Ov.size hl]; exact ht.info)
theorem ybdO {ops : Array Oper} {S : World → Prop} {op : Oper} {a : Act} {t : TypeId} (ht : OTo t) (hw : Region.wanted op (yielded ops a.tmps) = true) (x0 x1 x2 x3 : Operand) (ho : op.op = .build t #[(0, x0), (1, x1), (2, x2), (3, x3)])
    (h : Ov) (hl : Adr h.ad) (h0 : a.eval x0 = .int .i64 h.k) (h1 : a.eval x1 = h.n.v) (h2 : a.eval x2 = .agg (arr h.ad)) (h3 : a.eval x3 = h.t.v) : YieldsIf Tryd.prog ops S op (.agg h.cs) a :=
  .inl ⟨hw, fun w _ => by
    have hf : Tryd.prog.built t ((#[(0, x0), (1, x1), (2, x2), (3, x3)] : Array (Nat × Operand)).map fun (i, x) => (i, a.eval x)).toList = some h.cs := by
      simp only [List.map_toArray, List.map_cons, List.map_nil, h0, h1, h2, h3]; exact ht.full h hl.1
    unfold execOp
    simp only [ho, Sem.run_bind, run_build w t _ h.cs hf, Result.andThen_ok]
    rfl⟩
end Go.Proofs.YtbfjkhafdkhhmaaDoor

namespace Go.Proofs.YtbfjkhafdkhhmaaDoor
open Go.ChangeShapes Go.WideShapes Go.ChangeAt Go.RowKit Go.Deep
set_option linter.unusedVariables false
set_option linter.unusedSimpArgs false

theorem not_mem_take {l : List Int} {x : Int} {k : Nat} (hk : k < l.length) (h : ¬ x ∈ l.take k) (hne : ¬ x = l.getD k 0) : ¬ x ∈ l.take (k + 1) := by
  rw [List.take_succ_eq_append_getElem hk, List.mem_append]
  intro h'
  rcases h' with h' | h'
  · exact h h'
  · simp at h'; exact hne (by simp [hk, h'])
theorem index_any (a : Option Addr) (n cap : Nat) (l : List Int) (x : Int) (w : World) (h : Lies .i64 w a n cap l) :
    Calls Tryd.prog 74 #[.slice a n cap, .int .i64 x] w fun e w' => (∃ r : Int, e = .returned (.int .i64 r) ∧ decide (0 ≤ r) = decide (x ∈ l)) ∧ w' = w := by
  obtain ⟨hl, hlc, hcm, _, hc⟩ := h
  unfold maxLen at hcm
  have HC : Hid _ := hc
  have HL : Hid (l.length = n) := hl
  clear hc hl
  go_enter Tryd.func74, Tryd.ntmps74
  go_wp2
  go_loop [8] (fun i => ∃ k : Nat, k ≤ n ∧ i = .int .i64 k ∧ Hid (¬ x ∈ l.take k)) (fun i => n - (intOf i).toNat)
  case atStart => exact ⟨0, Nat.zero_le _, rfl, by rw [Hid]; simp⟩
  case round =>
    obtain ⟨k, hk, rfl, hno⟩ := hrel
    by_cases hlt : k < n
    · obtain ⟨b, off, rfl, hcell⟩ := HC.out k hlt
      have hlt' : (k : Int) < (n : Int) := by omega
      have HM : Hid (l.getD k 0 ∈ l) := by rw [Hid]; simp [show k < l.length by rw [HL.out]; exact hlt]
      have HN : Hid (¬ x = l.getD k 0 → ¬ x ∈ l.take (k + 1)) := not_mem_take (by rw [HL.out]; exact hlt) hno.out
      generalize l.getD k 0 = z at *
      by_cases hz : x = z
      · have he : (x == z) = true := by simp [hz]
        have HZ := hid hz
        clear hz
        go_wp2
        go_ret
        exact ⟨⟨_, rfl, by rw [HZ.out]; simp [HM.out]⟩, rfl⟩
      · have he : (x == z) = false := by simp [hz]
        have HZ := hid hz
        clear hz
        go_wp2
        go_round
        case rel => exact ⟨k + 1, by omega, by go_num, HN.out HZ.out⟩
        case measure => simp [intOf]; omega
    · obtain rfl : k = n := by omega
      go_wp2
      go_ret
      refine ⟨⟨_, rfl, ?_⟩, rfl⟩
      have := hno.out
      rw [List.take_of_length_le (by rw [HL.out]; exact Nat.le_refl _)] at this
      simp [this]
theorem contains_any (a : Option Addr) (n cap : Nat) (l : List Int) (x : Int) (w : World) (h : Lies .i64 w a n cap l) :
    Calls Tryd.prog 45 #[.slice a n cap, .int .i64 x] w fun e w' => e = .returned (.bool (decide (x ∈ l))) ∧ w' = w := by
  have HL := hid h
  clear h
  go_enter Tryd.func45, Tryd.ntmps45
  go_wp2_with fail
  refine (index_any a n cap l x _ HL.out).mono ?_
  rintro e w1 ⟨⟨r, rfl, hr⟩, rfl⟩
  have HR := hid hr
  clear hr
  go_wp2_with fail
  go_ret
  exact ⟨ret_bool HR.out, rfl⟩
/-- Is an option of one of some kinds? -/
def hitB (ks : List Int) (k : Int) : Bool := decide (k ∈ ks)
theorem oneOf1_any (o : Ov) (g : Nat) (ka : Option Addr) (kn kc : Nat) (ks : List Int) (w : World) (hc : w.cell? ⟨g, 0, none⟩ = some (.slice ka kn kc)) (hk : Lies .i64 w ka kn kc ks) :
    Calls Tryd.prog 88 #[.agg o.cs, .pointer (some ⟨g, 0, none⟩)] w fun e w' => e = .returned (.bool (hitB ks o.k)) ∧ Below w.heap.size w w' := by
  have HR0 := hid (Row.new w 54 o.cs)
  have B0 := hid (balloc (Below.refl w.heap.size w) (.cells o.cs 54))
  have K0 := hid (hk.below B0.out)
  have C0 := hid ((B0.out.cell (p := ⟨g, 0, none⟩) (World.block_lt_of_cell? w _ hc)).trans hc)
  clear hk hc
  go_enter Tryd.func88, Tryd.ntmps88
  go_upto_region 1 with fail
  generalize hw1 : w.alloc (.cells o.cs 54) = w1 at *
  have c0 := (HR0.out.cell 0).trans o.at0
  have d0 := C0.out
  clear hw1
  go_wp2_with fail
  refine (contains_any ka kn kc ks o.k _ K0.out).mono ?_
  rintro e w1 ⟨rfl, rfl⟩
  go_wp2_with fail
  go_ret
  exact ⟨rfl, B0.out⟩
theorem oneOf_any (ka : Option Addr) (kn kc : Nat) (w : World) :
    Calls Tryd.prog 72 #[.slice ka kn kc] w fun e w' => e = .returned (.func (.func 88) #[] #[.pointer (some ⟨w.heap.size, 0, none⟩)]) ∧ w' = w.alloc (.cells #[.slice ka kn kc] 52) := by
  have hmf : ∀ (fn : Fn) (first cap : Array Value) (w : World), (Instr.makeFunc fn first cap).run Tryd.prog w = .ok (.func fn first cap) w := fun _ _ _ _ => rfl
  go_enter Tryd.func72, Tryd.ntmps72
  go_wp2_with fail
  go_ret
  exact ⟨rfl, rfl⟩
/-- Which is the first one? -/
def firstAt (ks : List Int) (L : List Ov) (r : Int) : Prop := (r = -1 ∧ ∀ o ∈ L, hitB ks o.k = false) ∨ ∃ i : Nat, i < L.length ∧ r = i ∧ hitB ks (L.getD i Ov.zero).k = true ∧ ∀ j, j < i → hitB ks (L.getD j Ov.zero).k = false
set_option maxRecDepth 100000 in
set_option maxHeartbeats 800000 in
theorem indexFunc_any (a : Option Addr) (n cap : Nat) (L : List Ov) (g : Nat) (ka : Option Addr) (kn kc : Nat) (ks : List Int) (w : World) (hL : Opts w a n cap L) (hc : w.cell? ⟨g, 0, none⟩ = some (.slice ka kn kc)) (hk : Lies .i64 w ka kn kc ks) :
    Calls Tryd.prog 71 #[.slice a n cap, .func (.func 88) #[] #[.pointer (some ⟨g, 0, none⟩)]] w fun e w' => (∃ r : Int, e = .returned (.int .i64 r) ∧ Hid (firstAt ks L r)) ∧ Below w.heap.size w w' := by
  have k1 := Nat.le_trans hL.le hL.max
  unfold maxLen at k1
  have HL := hid hL
  have HK := hid hk
  have HC := hid hc
  have ll := hid hL.len
  clear hL hk hc
  go_enter Tryd.func71, Tryd.ntmps71
  go_wp2_with fail
  go_loopw [8] (fun i wr => ∃ j : Nat, j ≤ n ∧ i = .int .i64 j ∧ Hid (∀ i, i < j → hitB ks (L.getD i Ov.zero).k = false) ∧ Hid (Below w.heap.size w wr)) (fun i _ => n - (intOf i).toNat)
  case atStart => exact ⟨0, Nat.zero_le _, rfl, (fun i hi => by omega), Below.refl _ _⟩
  case round =>
    obtain ⟨j, hj, rfl, hno, hb⟩ := hrel
    by_cases hlt : j < n
    · have hlt' : (j : Int) < (n : Int) := by omega
      obtain ⟨b1, off1, rfl, hp1⟩ := (HL.out.below hb.out).cell j hlt
      have ok1 := (HL.out.below hb.out).at j hlt
      generalize hoo : L.getD j Ov.zero = o at *
      have HOO := hid hoo
      have P1 := hid hp1
      have A1 := hid ok1.ad
      have K1 := hid (HK.out.below hb.out)
      have C1 := hid ((hb.out.cell (p := ⟨g, 0, none⟩) (World.block_lt_of_cell? w _ HC.out)).trans HC.out)
      clear hp1 ok1 hoo
      go_wp2_with (refine ldOo o43 _ rfl rfl _ _ rfl o A1.out P1.out ?_)
      refine (oneOf1_any o g ka kn kc ks _ C1.out K1.out).mono ?_
      rintro e w2 ⟨rfl, hb2⟩
      have B2 := hid (bthen hb.out hb2)
      clear hb2
      cases hh : hitB ks o.k
      · go_wp2_with fail
        go_roundw
        case rel =>
          refine ⟨j + 1, by omega, by go_num, ?_, B2.out⟩
          intro i hi
          by_cases hij : i = j
          · rw [hij, HOO.out]; exact hh
          · exact hno.out i (by omega)
        case measure => simp [intOf]; omega
      · go_wp2_with fail
        go_ret
        refine ⟨⟨_, rfl, .inr ⟨j, by rw [ll.out]; exact hlt, rfl, by rw [HOO.out]; exact hh, hno.out⟩⟩, B2.out⟩
    · obtain rfl : j = n := by omega
      go_wp2_with fail
      go_ret
      refine ⟨⟨_, rfl, .inl ⟨rfl, fun o ho => ?_⟩⟩, hb.out⟩
      obtain ⟨i, hi, rfl⟩ := List.mem_iff_getElem.1 ho
      have := hno.out i (by rw [← ll.out]; exact hi)
      simpa [hi] using this
end Go.Proofs.YtbfjkhafdkhhmaaDoor

namespace Go.Proofs.YtbfjkhafdkhhmaaDoor
open Go.ChangeShapes Go.WideShapes Go.ChangeAt Go.RowKit Go.Deep
set_option linter.unusedVariables false
set_option linter.unusedSimpArgs false

theorem clone60_nil (w : World) : Calls Tryd.prog 89 #[.slice none 0 0] w fun e w' => e = .returned (.slice none 0 0) ∧ w' = w := by
  have he := fun w => Lib.run_eql_slice_nil (P := Tryd.prog) w 52 3 none 0 0 0 0 Tryd.underlying52
  go_enter Tryd.func89, Tryd.ntmps89
  go_wp2
  go_ret
  exact ⟨rfl, rfl⟩
theorem clone60_some (ad : Addr) (len cap : Nat) (l : List Int) (w : World) (h : Lies .i64 w (some ad) len cap l) (hl : len ≤ 100000) :
    Calls Tryd.prog 89 #[.slice (some ad) len cap] w fun e w' => ∃ v, e = .returned v ∧ w'.ownsRow w.heap.size 3 1 v l.length (i64s l) ∧ Below w.heap.size w w' := by
  have he := fun w => Lib.run_eql_slice_nil (P := Tryd.prog) w 52 3 (some ad) len cap 0 0 Tryd.underlying52
  obtain ⟨i0, hi, hz0, hz1, hz2⟩ := info_parts info3
  have HB : Hid (Lies .i64 w (some ad) len cap l) := h
  have hb1 : Below w.heap.size w (w.alloc (.cells #[] 3)) := (Below.refl _ _).alloc (Nat.le_refl _) _
  have hl1 := HB.out.below hb1
  have hown := World.ownsRow_made (e := 3) (size := 1) (base := w.heap.size) w #[] 0 (Nat.le_refl _) (by decide) (by simp)
  have HO : Hid _ := hown
  have HL1 : Hid _ := hl1
  clear h hown hl1 hb1
  go_enter Tryd.func89, Tryd.ntmps89
  go_wp2_with (at_builtin; refine wpList_append_own _ rfl _ _ 52 rfl w.heap.size 3 i0 (.int .i64 0) 1 8 Tryd.underlying52 hi hz0 hz1 hz2 rfl (by decide) _ _ _ rfl HO.out ad len cap (i64s l) rfl ?c1 (Lies.cells HL1.out ad rfl) (ints_oneCell8 _ _) ?c3o ?c4 ?c5 ?_)
  case c1 => have := HB.out.1; simp [i64s]; omega
  case c3o => unfold maxLen; omega
  case c4 => omega
  intro v1 w1 hown1 hg1 _
  have hb2 : Below w.heap.size w w1 := Below.grown ((Below.refl _ _).alloc (Nat.le_refl _) _) hg1 (by simp) (fun k hk => by cases hk; exact Nat.le_refl _)
  have hln := HB.out.1
  have HW : Hid _ := hown1
  clear hown1 hg1
  go_wp2
  go_ret
  exact ⟨_, rfl, ownsRow_i64 HW.out rfl (by omega) (by simp), hb2⟩
theorem clone60_any (a : Option Addr) (len cap : Nat) (l : List Int) (w : World) (h : Lies .i64 w a len cap l) (hl : len ≤ 100000) :
    Calls Tryd.prog 89 #[.slice a len cap] w fun e w' => ∃ v, e = .returned v ∧ w'.ownsRow w.heap.size 3 1 v l.length (i64s l) ∧ Below w.heap.size w w' := by
  cases a with
  | some ad => exact clone60_some ad len cap l w h hl
  | none =>
    obtain ⟨rfl, rfl⟩ := h.isNil rfl
    have : l = [] := List.eq_nil_of_length_eq_zero h.1
    subst this
    refine (clone60_nil w).mono ?_
    rintro e w' ⟨rfl, rfl⟩
    exact ⟨_, rfl, World.ownsRow_nil _ _ _ _, Below.refl _ _⟩
def Ov.setN (o : Ov) (t : Txt) : Ov := ⟨o.k, t, o.ad, o.t⟩
def Ov.setT (o : Ov) (t : Txt) : Ov := ⟨o.k, o.n, o.ad, t⟩
theorem Ov.set1 (o : Ov) (t : Txt) : o.cs.setIfInBounds 1 (.slice t.a t.n t.cap) = (o.setN t).cs := by
  apply Array.ext'; simp [Ov.cs, Ov.setN, Txt.v]
theorem Ov.set18 {o : Ov} (h : Adr o.ad) (t : Txt) : o.cs.setIfInBounds 18 (.slice t.a t.n t.cap) = (o.setT t).cs := by
  apply Array.ext'
  have e : o.cs.toList = (.int .i64 o.k :: o.n.v :: (arr o.ad).toList) ++ [o.t.v] := by simp [Ov.cs]
  have e2 : (o.setT t).cs.toList = (.int .i64 o.k :: o.n.v :: (arr o.ad).toList) ++ [.slice t.a t.n t.cap] := by simp [Ov.cs, Ov.setT, Txt.v]
  have hl : (Value.int .i64 o.k :: o.n.v :: (arr o.ad).toList).length = 18 := by simp [arr_size, h.1]
  rw [Array.toList_setIfInBounds, e, e2, List.set_append_right _ _ (by omega), hl]
  rfl
/-- An option with lists of the call's own. -/
structure Own2 (base : Nat) (w : World) (o : Ov) : Prop where
  n : w.ownsRow base 3 1 o.n.v o.n.l.length (i64s o.n.l)
  nn : o.n.n = o.n.l.length
  ad : Adr o.ad
  t : w.ownsRow base 5 1 o.t.v o.t.l.length (u8s o.t.l)
  tn : o.t.n = o.t.l.length
  oct : Oct o.t.l
theorem Own2.ok {base : Nat} {w : World} {o : Ov} (h : Own2 base w o) : o.ok w := by
  refine ⟨?_, h.ad, ?_, h.oct⟩
  · obtain ⟨a, cap, e, hl⟩ := owns_liesk h.n
    have e1 : Value.slice o.n.a o.n.n o.n.cap = .slice a o.n.l.length cap := e
    injection e1 with e2 e3 e4
    rw [e2, e3, e4]; exact hl
  · obtain ⟨a, cap, e, hl, _⟩ := owns_lies h.t
    have e1 : Value.slice o.t.a o.t.n o.t.cap = .slice a o.t.l.length cap := e
    injection e1 with e2 e3 e4
    rw [e2, e3, e4]; exact hl
theorem Own2.below {base : Nat} {w w' : World} {o : Ov} (h : Own2 base w o) (hb : Below w.heap.size w w') : Own2 base w' o := ⟨own_below h.n hb, h.nn, h.ad, own_below h.t hb, h.tn, h.oct⟩
theorem Own2.mono {base base' : Nat} {w : World} {o : Ov} (h : Own2 base w o) (hb : base' ≤ base) : Own2 base' w o := ⟨own_mono h.n hb, h.nn, h.ad, own_mono h.t hb, h.tn, h.oct⟩
theorem Own2.kept {base b' : Nat} {w w' : World} {o : Ov} {v : Value} {n : Nat} {xs : List Value} {ty : TypeId} (h : Own2 base w o) (ho : w.ownsRow b' ty 19 v n xs) (h3 : (3 : TypeId) ≠ ty) (h5 : (5 : TypeId) ≠ ty) (hg : w.grownBy w' v.ownBlock) : Own2 base w' o :=
  ⟨h.n.kept hg (own_apart h.n ho h3), h.nn, h.ad, h.t.kept hg (own_apart h.t ho h5), h.tn, h.oct⟩
theorem own_set {w : World} {b g : Nat} {e : TypeId} {size : Nat} {v : Value} {n : Nat} {xs : List Value} (h : w.ownsRow b e size v n xs) (hg : g < b) (j : Nat) (u : Value) : (w.setCell ⟨g, j, none⟩ u).ownsRow b e size v n xs :=
  h.kept (grownBy_setCell w g j u) (by
    cases hv : v.ownBlock with
    | none => exact .inl rfl
    | some k => exact .inr (fun e => by have := Option.some.inj e; have := (h.lt k hv).1; omega))
theorem Lies.other {kd : IntKind} {w w' : World} {d : Nat} {a : Option Addr} {len cap : Nat} {l : List Int} (h : Lies kd w a len cap l) (hg : w.grownBy w' (some d)) (hne : ∀ ad, a = some ad → ad.block ≠ d) : Lies kd w' a len cap l := by
  refine ⟨h.1, h.2.1, h.2.2.1, h.2.2.2.1, fun k hk => ?_⟩
  obtain ⟨b, off, he, hc⟩ := h.2.2.2.2 k hk
  exact ⟨b, off, he, hg.cell hc (fun e => hne _ he (by have := Option.some.inj e; exact this))⟩
theorem own_setRowT {w : World} {b g : Nat} {e t : TypeId} {size : Nat} {v : Value} {n : Nat} {xs : List Value} {c cs : Array Value} (h : w.ownsRow b e size v n xs) (hr : Row w g t c) (hne : e ≠ t) : (w.setRow g cs).ownsRow b e size v n xs :=
  h.kept (grownBy_setRow w g cs) (.inr (own_row h hr hne))
theorem resOo {fn : Func} {p : Tmp} {t : TypeId} (ht : OTo t) (hf : fn.results = #[.cell p t]) (tmps : Array Value) (w : World) (g : Nat) (t' : TypeId) (h : Ov) (hl : Adr h.ad)
    (hp : tmps.getD p undef = .pointer (some ⟨g, 0, none⟩)) (hg : Row w g t' h.cs) : (results fn tmps).run Tryd.prog w = .ok (.agg h.cs) w := by
  obtain ⟨fs, h1⟩ := ht.desc
  exact results_cell_row hf tmps w g t' h.cs (0, 0) _ hp hg h1 rfl (by rw [Ov.size hl]; exact ht.info)
theorem ldRunO {t : TypeId} (ht : OTo t) (w : World) (g : Nat) (t' : TypeId) (h : Ov) (hl : Adr h.ad) (hg : Row w g t' h.cs) : (loadVar t ⟨g, 0, none⟩).run Tryd.prog w = .ok (.agg h.cs) w := by
  obtain ⟨fs, h1⟩ := ht.desc
  exact run_loadVar_row w g t' t h.cs (0, 0) _ hg h1 rfl (by rw [Ov.size hl]; exact ht.info)
theorem resOoe {fn : Func} {p u : Tmp} {t : TypeId} (ht : OTo t) (hf : fn.results = #[.cell p t, .tmp u]) (tmps : Array Value) (w : World) (g : Nat) (t' : TypeId) (h : Ov) (hl : Adr h.ad) (v : Value)
    (hp : tmps.getD p undef = .pointer (some ⟨g, 0, none⟩)) (hu : tmps.getD u undef = v) (hg : Row w g t' h.cs) : (results fn tmps).run Tryd.prog w = .ok (.tuple #[.agg h.cs, v]) w := by
  rw [results_cell_tmp hf]
  have hp' : tmps[p]?.getD undef = .pointer (some ⟨g, 0, none⟩) := by simpa using hp
  have hu' : tmps[u]?.getD undef = v := by simpa using hu
  simp [hp', hu', asAddr, ldRunO ht w g t' h hl hg]
set_option maxRecDepth 100000 in
set_option maxHeartbeats 1600000 in
theorem copied_any (o : Ov) (w : World) (ho : o.ok w) (hn : o.n.n ≤ 100000) (ht : o.t.n ≤ 100000) :
    Calls Tryd.prog 73 #[.agg o.cs] w fun e w' => (∃ o' : Ov, e = .returned (.agg o'.cs) ∧ Hid (o'.p = o.p) ∧ Hid (Own2 w.heap.size w' o')) ∧ Below w.heap.size w w' := by
  have hz := zov
  have R0 := hid ((Row.new w 54 o.cs).alloc (.cells Ov.zero.cs 54))
  have Z0 := hid (Row.new (w.alloc (.cells o.cs 54)) 54 Ov.zero.cs)
  have hs1 : (w.alloc (.cells o.cs 54)).heap.size = w.heap.size + 1 := World.size_alloc ..
  have hs2 : ((w.alloc (.cells o.cs 54)).alloc (.cells Ov.zero.cs 54)).heap.size = w.heap.size + 2 := by rw [World.size_alloc, hs1]
  rw [hs1] at Z0
  have B0 := hid (balloc (balloc (Below.refl w.heap.size w) (.cells o.cs 54)) (.cells Ov.zero.cs 54))
  have O0 := hid (ho.below B0.out)
  have HA := hid ho.ad
  have HOct := hid ho.oct
  have ltt : Hid (∀ ad, o.t.a = some ad → o.t.n ≠ 0 → ad.block ≠ w.heap.size) := by
    intro ad h1 h2 h3
    obtain ⟨b, off, h4, h5⟩ := ho.t.2.2.2.2 0 (by omega)
    rw [h1] at h4
    obtain rfl := Option.some.inj h4
    have := World.block_lt_of_cell? w _ h5
    simp at h3 this; omega
  clear ho
  go_enter Tryd.func73, Tryd.ntmps73
  go_upto_region 1 with fail
  generalize hw1 : (w.alloc (.cells o.cs 54)).alloc (.cells Ov.zero.cs 54) = w1 at *
  generalize hg0 : w.heap.size = g0 at *
  have a1 := (R0.out.cell 1).trans o.at1
  have f1 := R0.out.frozen 1
  clear hw1 hs1 hz
  go_wp2_with fail
  refine (clone60_any _ _ _ _ _ O0.out.n hn).mono ?_
  rintro e w2 ⟨v2, rfl, hown2, hb2⟩
  obtain ⟨na, nc, rfl⟩ := owns_len hown2
  have R2 := hid (R0.out.below hb2)
  have Z2 := hid (Z0.out.below hb2)
  have T2 := hid (O0.out.t.below hb2)
  have B2 := hid (B0.out.trans (hb2.mono (by rw [hs2]; omega)))
  have N2 := hid hown2
  have hs3 := hb2.size
  clear hown2 hb2 a1 f1 O0 R0 Z0 B0
  have a1 := (R2.out.cell 1).trans o.at1
  have f1 := R2.out.frozen 1
  go_upto_region 2 with fail
  have R3 := hid (R2.out.set 1 (.slice na o.n.l.length nc))
  have Z3 := hid (Z2.out.other ⟨g0, 1, none⟩ (.slice na o.n.l.length nc) (by simp))
  have B3 := hid (bset 1 (.slice na o.n.l.length nc) B2.out (Nat.le_refl g0))
  have N3 := hid (own_set N2.out (g := g0) (by rw [hs2]; omega) 1 (.slice na o.n.l.length nc))
  have S3 : (w2.setCell ⟨g0, 1, none⟩ (.slice na o.n.l.length nc)).heap.size = w2.heap.size := by simp
  have T3 : Hid (Lies .u8 (w2.setCell ⟨g0, 1, none⟩ (.slice na o.n.l.length nc)) o.t.a o.t.n o.t.cap o.t.l) := by
    by_cases h0 : o.t.n = 0
    · exact ⟨T2.out.1, T2.out.2.1, T2.out.2.2.1, T2.out.2.2.2.1, fun k hk => by omega⟩
    · exact T2.out.other (grownBy_setCell ..) (fun ad had => ltt.out ad had h0)
  rw [Ov.set1 o ⟨na, o.n.l.length, nc, o.n.l⟩] at R3
  generalize hw3 : w2.setCell ⟨g0, 1, none⟩ (.slice na o.n.l.length nc) = w3 at *
  generalize hX : o.setN ⟨na, o.n.l.length, nc, o.n.l⟩ = X at *
  have HAX : Hid (Adr X.ad) := by rw [Hid, ← hX]; exact HA.out
  have HXt : X.t = o.t := by rw [← hX]; rfl
  have b18 := (R3.out.cell 18).trans (Ov.at18 HAX.out)
  rw [HXt] at b18
  have g18 := R3.out.frozen 18
  clear hw3 a1 f1
  go_wp2_with fail
  refine (clone_any _ _ _ _ _ T3.out ht).mono ?_
  rintro e w4 ⟨v4, rfl, hown4, hb4⟩
  obtain ⟨ta, tc, rfl⟩ := owns_len hown4
  have R4 := hid (R3.out.below hb4)
  have Z4 := hid (Z3.out.below hb4)
  have N4 := hid (own_below N3.out hb4)
  have B4 := hid (B3.out.trans (hb4.mono (by omega)))
  have T4 := hid hown4
  have hs4 := hb4.size
  clear hown4 hb4 b18 g18 R3 Z3 N3 B3
  have b18 := (R4.out.cell 18).trans (Ov.at18 HAX.out)
  rw [HXt] at b18
  have g18 := R4.out.frozen 18
  go_upto_region 3 with fail
  have R5 := hid (R4.out.set 18 (.slice ta o.t.l.length tc))
  have Z5 := hid (Z4.out.other ⟨g0, 18, none⟩ (.slice ta o.t.l.length tc) (by simp))
  have B5 := hid (bset 18 (.slice ta o.t.l.length tc) B4.out (Nat.le_refl g0))
  have N5 := hid (own_set N4.out (g := g0) (by rw [hs2]; omega) 18 (.slice ta o.t.l.length tc))
  have T5 := hid (own_set T4.out (g := g0) (by omega) 18 (.slice ta o.t.l.length tc))
  rw [Ov.set18 HAX.out ⟨ta, o.t.l.length, tc, o.t.l⟩] at R5
  generalize hw5 : w4.setCell ⟨g0, 18, none⟩ (.slice ta o.t.l.length tc) = w5 at *
  generalize hY : X.setT ⟨ta, o.t.l.length, tc, o.t.l⟩ = Y at *
  have HAY : Hid (Adr Y.ad) := by rw [Hid, ← hY]; exact HAX.out
  have HP : Hid (Y.p = o.p) := by rw [Hid, ← hY, ← hX]; rfl
  have HO5 : Hid (Own2 g0 w5 Y) := by
    subst hY; subst hX
    exact ⟨own_mono N5.out (by rw [hs2]; omega), rfl, HA.out, own_mono T5.out (by omega), rfl, HOct.out⟩
  clear hw5 hY hX b18 g18 N5 T5
  have R6 := hid (R5.out.rowOther (g0 + 1) Y.cs (by omega))
  have Z6 := hid (Z5.out.setRow Y.cs)
  have B6 := hid (below_setRow' B5.out (g := g0 + 1) (by omega) Y.cs)
  have H6 : Hid (Own2 g0 (w5.setRow (g0 + 1) Y.cs) Y) := ⟨own_setRowT HO5.out.n Z5.out (by decide), HO5.out.nn, HO5.out.ad, own_setRowT HO5.out.t Z5.out (by decide), HO5.out.tn, HO5.out.oct⟩
  go_wp2_with (first | (refine ldOo o43 _ rfl rfl g0 0 rfl Y HAY.out R5.out.part ?_) | (refine stOo o43 _ _ rfl rfl (g0 + 1) Y HAY.out rfl rfl 54 Ov.zero adr_zeros Z5.out ?_))
  refine bodyPost_ret (resOo o43 rfl _ _ (g0 + 1) 54 Y HAY.out rfl Z6.out) rfl ⟨⟨Y, rfl, HP.out, by rw [hg0]; exact H6⟩, by rw [hg0]; exact B6.out⟩
end Go.Proofs.YtbfjkhafdkhhmaaDoor
