/- Options in memory. -/
import Derived.Test.YtdfeahbpgchkoaaRow
namespace Go.Proofs.Ytdfeahbpgchkoaa
open Go.ChangeShapes Go.WideShapes Go.ChangeAt Go.RowKit
set_option linter.unusedVariables false
set_option linter.unusedSimpArgs false

/-- An option. -/
structure Ho where
  d : Bool
  w : Bool
  f : Bool
  i : Int
  r : Int
/-- Its cells. -/
def Ho.cs (o : Ho) : Array Value := #[.bool o.d, .bool o.w, .bool o.f, .int .i64 o.i, .int .i64 o.r]
def Ho.zero : Ho := ⟨false, false, false, 0, 0⟩
def Ho.setD (o : Ho) (x : Bool) : Ho := ⟨x, o.w, o.f, o.i, o.r⟩
def Ho.setW (o : Ho) (x : Bool) : Ho := ⟨o.d, x, o.f, o.i, o.r⟩
def Ho.setF (o : Ho) (x : Bool) : Ho := ⟨o.d, o.w, x, o.i, o.r⟩
def Ho.setI (o : Ho) (x : Int) : Ho := ⟨o.d, o.w, o.f, x, o.r⟩
def Ho.setR (o : Ho) (x : Int) : Ho := ⟨o.d, o.w, o.f, o.i, x⟩
theorem Ho.size (o : Ho) : o.cs.size = 5 := rfl
theorem Ho.one (o : Ho) : o.cs.all (·.oneCell') = true := by simp [Ho.cs, Value.oneCell']
theorem Ho.at0 (o : Ho) : o.cs[0]? = some (.bool o.d) := rfl
theorem Ho.at1 (o : Ho) : o.cs[1]? = some (.bool o.w) := rfl
theorem Ho.at2 (o : Ho) : o.cs[2]? = some (.bool o.f) := rfl
theorem Ho.at3 (o : Ho) : o.cs[3]? = some (.int .i64 o.i) := rfl
theorem Ho.at4 (o : Ho) : o.cs[4]? = some (.int .i64 o.r) := rfl
theorem Ho.set0 (o : Ho) (x : Bool) : o.cs.setIfInBounds 0 (.bool x) = (o.setD x).cs := rfl
theorem Ho.set1 (o : Ho) (x : Bool) : o.cs.setIfInBounds 1 (.bool x) = (o.setW x).cs := rfl
theorem Ho.set2 (o : Ho) (x : Bool) : o.cs.setIfInBounds 2 (.bool x) = (o.setF x).cs := rfl
theorem Ho.set3 (o : Ho) (x : Int) : o.cs.setIfInBounds 3 (.int .i64 x) = (o.setI x).cs := rfl
theorem Ho.set4 (o : Ho) (x : Int) : o.cs.setIfInBounds 4 (.int .i64 x) = (o.setR x).cs := rfl
theorem zho : (#[Value.bool false, .bool false, .bool false, .int .i64 0, .int .i64 0] : Array Value) = Ho.zero.cs := rfl
/-- A type of options. -/
structure OT (t : TypeId) : Prop where
  desc : ∃ fs, Try.prog.underlying t = some (.struct fs)
  info : (Try.prog.info? t).map (·.size) = some 5
  full : ∀ (o : Ho), Try.prog.built t [(0, .bool o.d), (1, .bool o.w), (2, .bool o.f), (3, .int .i64 o.i), (4, .int .i64 o.r)] = some o.cs
  bare : Try.prog.built t [] = some Ho.zero.cs
theorem built28 (d w f : Bool) (i r : Int) : Try.prog.built 28 [(0, .bool d), (1, .bool w), (2, .bool f), (3, .int .i64 i), (4, .int .i64 r)] = some #[.bool d, .bool w, .bool f, .int .i64 i, .int .i64 r] := by kernel_rfl
theorem built23 (d w f : Bool) (i r : Int) : Try.prog.built 23 [(0, .bool d), (1, .bool w), (2, .bool f), (3, .int .i64 i), (4, .int .i64 r)] = some #[.bool d, .bool w, .bool f, .int .i64 i, .int .i64 r] := by kernel_rfl
theorem oh : OT 28 := ⟨⟨_, Try.underlying28⟩, by kernel_rfl, fun o => built28 o.d o.w o.f o.i o.r, by kernel_rfl⟩
theorem or_ : OT 23 := ⟨⟨_, Try.underlying23⟩, by kernel_rfl, fun o => built23 o.d o.w o.f o.i o.r, by kernel_rfl⟩
theorem ldO {ops : Array Oper} {rest : List Oper} {o : Oper} {a : Act} {w : World} {Q : Exit → Act → World → Prop} {t : TypeId} (ht : OT t) (x : Operand) (ho : o.op = .load t x) (hw : Region.wanted o (yielded ops a.tmps) = true) (g : Nat) (hx : a.eval x = .pointer (some ⟨g, 0, none⟩)) (h : Ho) (t' : TypeId) (hg : Row w g t' h.cs)
    (hn : wpList Try.prog ops Q rest (a.put o.dst (.agg h.cs)) w) : wpList Try.prog ops Q (o :: rest) a w := by
  obtain ⟨fs, h1⟩ := ht.desc
  exact wp_ld t x ho hw g 0 hx h.cs _ h1 rfl ht.info hg.part hn
theorem stO {ops : Array Oper} {rest : List Oper} {o : Oper} {a : Act} {w : World} {Q : Exit → Act → World → Prop} {t : TypeId} (ht : OT t) (x y : Operand) (ho : o.op = .store t x y) (hgd : o.guard = none) (g : Nat) (h : Ho) (hx : a.eval x = .pointer (some ⟨g, 0, none⟩)) (hy : a.eval y = .agg h.cs) (t' : TypeId) (old : Ho) (hg : Row w g t' old.cs)
    (hn : wpList Try.prog ops Q rest (a.put o.dst undef) (w.setRow g h.cs)) : wpList Try.prog ops Q (o :: rest) a w :=
  wp_st t x y ho hgd g h.cs hx hy ht.info h.one t' old.cs rfl hg hn
theorem bdO {ops : Array Oper} {rest : List Oper} {o : Oper} {a : Act} {w : World} {Q : Exit → Act → World → Prop} {t : TypeId} (ht : OT t) (x0 x1 x2 x3 x4 : Operand) (ho : o.op = .build t #[(0, x0), (1, x1), (2, x2), (3, x3), (4, x4)]) (hg : o.guard = none)
    (h : Ho) (h0 : a.eval x0 = .bool h.d) (h1 : a.eval x1 = .bool h.w) (h2 : a.eval x2 = .bool h.f) (h3 : a.eval x3 = .int .i64 h.i) (h4 : a.eval x4 = .int .i64 h.r)
    (hn : wpList Try.prog ops Q rest (a.put o.dst (.agg h.cs)) w) : wpList Try.prog ops Q (o :: rest) a w :=
  wp_bd t _ ho hg h.cs (by simp only [List.map_toArray, List.map_cons, List.map_nil, h0, h1, h2, h3, h4]; exact ht.full h) hn
theorem bdOz {ops : Array Oper} {rest : List Oper} {o : Oper} {a : Act} {w : World} {Q : Exit → Act → World → Prop} {t : TypeId} (ht : OT t) (ho : o.op = .build t #[]) (hg : o.guard = none)
    (hn : wpList Try.prog ops Q rest (a.put o.dst (.agg Ho.zero.cs)) w) : wpList Try.prog ops Q (o :: rest) a w :=
  wp_bd t _ ho hg Ho.zero.cs (by simp only [List.map_toArray, List.map_nil]; exact ht.bare) hn
/-- A load of an option in a drawn region. -/
theorem yldO {ops : Array Oper} {S : World → Prop} {op : Oper} {a : Act} {t : TypeId} (ht : OT t) (hw : Region.wanted op (yielded ops a.tmps) = true) (x : Operand) (ho : op.op = .load t x)
    (g : Nat) (hx : a.eval x = .pointer (some ⟨g, 0, none⟩)) (h : Ho) (t' : TypeId) (hS : ∀ w, S w → Row w g t' h.cs) : YieldsIf Try.prog ops S op (.agg h.cs) a := by
  obtain ⟨fs, h1⟩ := ht.desc
  exact yields_ld hw t x ho g hx h.cs _ (fun w k => (hS w k).part) h1 rfl ht.info
theorem ldRun {t : TypeId} (ht : OT t) (w : World) (g : Nat) (t' : TypeId) (h : Ho) (hg : Row w g t' h.cs) : (loadVar t ⟨g, 0, none⟩).run Try.prog w = .ok (.agg h.cs) w := by
  obtain ⟨fs, h1⟩ := ht.desc
  exact run_loadVar_row w g t' t h.cs (0, 0) _ hg h1 rfl ht.info
theorem resO {fn : Func} {p : Tmp} {t : TypeId} (ht : OT t) (hf : fn.results = #[.cell p t]) (tmps : Array Value) (w : World) (g : Nat) (t' : TypeId) (h : Ho)
    (hp : tmps.getD p undef = .pointer (some ⟨g, 0, none⟩)) (hg : Row w g t' h.cs) : (results fn tmps).run Try.prog w = .ok (.agg h.cs) w := by
  obtain ⟨fs, h1⟩ := ht.desc
  exact results_cell_row hf tmps w g t' h.cs (0, 0) _ hp hg h1 rfl ht.info
theorem resOe {fn : Func} {p u : Tmp} {t : TypeId} (ht : OT t) (hf : fn.results = #[.cell p t, .tmp u]) (tmps : Array Value) (w : World) (g : Nat) (t' : TypeId) (h : Ho) (v : Value)
    (hp : tmps.getD p undef = .pointer (some ⟨g, 0, none⟩)) (hu : tmps.getD u undef = v) (hg : Row w g t' h.cs) : (results fn tmps).run Try.prog w = .ok (.tuple #[.agg h.cs, v]) w := by
  rw [results_cell_tmp hf]
  have hp' : tmps[p]?.getD undef = .pointer (some ⟨g, 0, none⟩) := by simpa using hp
  have hu' : tmps[u]?.getD undef = v := by simpa using hu
  simp [hp', hu', asAddr, ldRun ht w g t' h hg]
theorem resOf {fn : Func} {p u x : Tmp} {t : TypeId} (ht : OT t) (hf : fn.results = #[.cell p t, .tmp u, .tmp x]) (tmps : Array Value) (w : World) (g : Nat) (t' : TypeId) (h : Ho) (v y : Value)
    (hp : tmps.getD p undef = .pointer (some ⟨g, 0, none⟩)) (hu : tmps.getD u undef = v) (hx : tmps.getD x undef = y) (hg : Row w g t' h.cs) : (results fn tmps).run Try.prog w = .ok (.tuple #[.agg h.cs, v, y]) w := by
  have hp' : tmps[p]?.getD undef = .pointer (some ⟨g, 0, none⟩) := by simpa using hp
  have hu' : tmps[u]?.getD undef = v := by simpa using hu
  have hx' : tmps[x]?.getD undef = y := by simpa using hx
  simp only [results, hf]
  simp [Sem.run_bind, Result.andThen, hp', hu', hx', asAddr, ldRun ht w g t' h hg]
theorem resOd {fn : Func} {p u x y : Tmp} {t : TypeId} (ht : OT t) (hf : fn.results = #[.tmp u, .cell p t, .tmp x, .tmp y]) (tmps : Array Value) (w : World) (g : Nat) (t' : TypeId) (h : Ho) (v1 v2 v3 : Value)
    (hp : tmps.getD p undef = .pointer (some ⟨g, 0, none⟩)) (hu : tmps.getD u undef = v1) (hx : tmps.getD x undef = v2) (hy : tmps.getD y undef = v3) (hg : Row w g t' h.cs) : (results fn tmps).run Try.prog w = .ok (.tuple #[v1, .agg h.cs, v2, v3]) w := by
  have hp' : tmps[p]?.getD undef = .pointer (some ⟨g, 0, none⟩) := by simpa using hp
  have hu' : tmps[u]?.getD undef = v1 := by simpa using hu
  have hx' : tmps[x]?.getD undef = v2 := by simpa using hx
  have hy' : tmps[y]?.getD undef = v3 := by simpa using hy
  simp only [results, hf]
  simp [Sem.run_bind, Result.andThen, hp', hu', hx', hy', asAddr, ldRun ht w g t' h hg]
/-- Are two options the same? -/
def Ho.eqB (a b : Ho) : Bool := a.d == b.d && (a.w == b.w && (a.f == b.f && (a.i == b.i && a.r == b.r)))
theorem Ho.eqB_self (a : Ho) : a.eqB a = true := by simp [Ho.eqB]
theorem eqFieldsO (fs : List Field) (hf : fs.map (fun f => (f.name == "_", f.type, f.offset)) = [(false, 4, 0), (false, 4, 1), (false, 4, 2), (false, 3, 3), (false, 3, 4)]) (a b : Ho) (w : World) :
    (Op.eqFields 9999 a.cs b.cs fs).run Try.prog w = .ok (a.eqB b) w := by
  have hlen : fs.length = 5 := by have := congrArg List.length hf; simpa using this
  match fs, hlen, hf with
  | [f0, f1, f2, f3, f4], _, hf =>
    simp only [List.map_cons, List.map_nil, List.cons.injEq, Prod.mk.injEq, and_true, beq_eq_false_iff_ne] at hf
    obtain ⟨⟨n0, t0, o0⟩, ⟨n1, t1, o1⟩, ⟨n2, t2, o2⟩, ⟨n3, t3, o3⟩, n4, t4, o4⟩ := hf
    have a3 : (isAgg 3).run Try.prog w = .ok false w := by unfold isAgg; rw [Sem.run_bind, run_underlying Try.underlying3 w]; rfl
    have a4 : (isAgg 4).run Try.prog w = .ok false w := by unfold isAgg; rw [Sem.run_bind, run_underlying Try.underlying4 w]; rfl
    have hq : ∀ (h : Ho) (j : Nat) (n : Int), h.cs[j]? = some (.int .i64 n) → (part 3 h.cs j).run Try.prog w = .ok (.int .i64 n) w := by
      intro h j n e
      simp only [part, Sem.run_bind, a3, Result.andThen_ok, Bool.false_eq_true, if_false, e, Sem.run_pure]
    have hb : ∀ (h : Ho) (j : Nat) (n : Bool), h.cs[j]? = some (.bool n) → (part 4 h.cs j).run Try.prog w = .ok (.bool n) w := by
      intro h j n e
      simp only [part, Sem.run_bind, a4, Result.andThen_ok, Bool.false_eq_true, if_false, e, Sem.run_pure]
    have e3 : ∀ n m : Int, (Op.equalIn 9999 3 (.int .i64 n) (.int .i64 m)).run Try.prog w = .ok (n == m) w := fun n m => run_equalIn_int (P := Try.prog) w 9998 3 .i64 .i64 n m Try.underlying3
    have e4 : ∀ n m : Bool, (Op.equalIn 9999 4 (.bool n) (.bool m)).run Try.prog w = .ok (n == m) w := fun n m => run_equalIn_bool (P := Try.prog) w 9998 4 n m Try.underlying4
    unfold Ho.eqB
    rw [Op.eqFields, if_pos n0, t0, o0, Sem.run_bind, hb a 0 _ a.at0, Result.andThen_ok, Sem.run_bind, hb b 0 _ b.at0, Result.andThen_ok, Sem.run_bind, e4, Result.andThen_ok]
    cases a.d == b.d
    · rfl
    simp only [Bool.not_true, Bool.false_eq_true, if_false, Bool.true_and]
    rw [Op.eqFields, if_pos n1, t1, o1, Sem.run_bind, hb a 1 _ a.at1, Result.andThen_ok, Sem.run_bind, hb b 1 _ b.at1, Result.andThen_ok, Sem.run_bind, e4, Result.andThen_ok]
    cases a.w == b.w
    · rfl
    simp only [Bool.not_true, Bool.false_eq_true, if_false, Bool.true_and]
    rw [Op.eqFields, if_pos n2, t2, o2, Sem.run_bind, hb a 2 _ a.at2, Result.andThen_ok, Sem.run_bind, hb b 2 _ b.at2, Result.andThen_ok, Sem.run_bind, e4, Result.andThen_ok]
    cases a.f == b.f
    · rfl
    simp only [Bool.not_true, Bool.false_eq_true, if_false, Bool.true_and]
    rw [Op.eqFields, if_pos n3, t3, o3, Sem.run_bind, hq a 3 _ a.at3, Result.andThen_ok, Sem.run_bind, hq b 3 _ b.at3, Result.andThen_ok, Sem.run_bind, e3, Result.andThen_ok]
    cases a.i == b.i
    · rfl
    simp only [Bool.not_true, Bool.false_eq_true, if_false, Bool.true_and]
    rw [Op.eqFields, if_pos n4, t4, o4, Sem.run_bind, hq a 4 _ a.at4, Result.andThen_ok, Sem.run_bind, hq b 4 _ b.at4, Result.andThen_ok, Sem.run_bind, e3, Result.andThen_ok]
    cases a.r == b.r
    · rfl
    rfl
theorem fieldsHo : Try.prog.underlying 28 = some (.struct (Try.prog.fieldsOf 28)) := by kernel_rfl
theorem fieldsRo : Try.prog.underlying 23 = some (.struct (Try.prog.fieldsOf 23)) := by kernel_rfl
theorem heldHo : Try.prog.stoodInHeld 28 = false := by kernel_rfl
theorem heldRo : Try.prog.stoodInHeld 23 = false := by kernel_rfl
theorem fsHo : (Try.prog.fieldsOf 28).toList.map (fun f => (f.name == "_", f.type, f.offset)) = [(false, 4, 0), (false, 4, 1), (false, 4, 2), (false, 3, 3), (false, 3, 4)] := by kernel_rfl
theorem fsRo : (Try.prog.fieldsOf 23).toList.map (fun f => (f.name == "_", f.type, f.offset)) = [(false, 4, 0), (false, 4, 1), (false, 4, 2), (false, 3, 3), (false, 3, 4)] := by kernel_rfl
theorem eqHo (a b : Ho) : ∀ w : World, (Op.equalIn 10000 28 (.agg a.cs) (.agg b.cs)).run Try.prog w = .ok (a.eqB b) w := fun w => by
  rw [run_equalIn_struct w 9999 28 _ _ fieldsHo heldHo]
  exact eqFieldsO _ fsHo a b w
theorem eqRo (a b : Ho) : ∀ w : World, (Op.equalIn 10000 23 (.agg a.cs) (.agg b.cs)).run Try.prog w = .ok (a.eqB b) w := fun w => by
  rw [run_equalIn_struct w 9999 23 _ _ fieldsRo heldRo]
  exact eqFieldsO _ fsRo a b w
end Go.Proofs.Ytdfeahbpgchkoaa
