/- datagram's reading: what reads the bytes behind a header. · datagram's Control. · A control datagram with one bit turned behind its header: the checksum tells. · A message's targets. · The document's answer: May; and the chapter's example. · The document's answer: bit; has a message more than its code has? · The document's answer: Check. · The document's answer: the bytes of a message. · datagram's Encode: control messages. · datagram's reading: data. -/
import Derived.Test.YtbklpelikaapoaaGreatDoorM14
import Derived.Test.YtbklpelikaapoaaGreatDoorM11
import Derived.Test.YtbklpelikaapoaaGreatDoorM12
import Derived.Test.YtbklpelikaapoaaGreatDoorM6
import Derived.Test.YtbklpelikaapoaaGreatDoorM5
import Derived.Test.YtbklpelikaapoaaGreatDoorM7
import Derived.Test.YtbklpelikaapoaaGreatDoorM4
import Derived.Test.YtbklpelikaapoaaGreatDoorM3
import Derived.Test.YtbklpelikaapoaaGreatDoorM9
import Derived.Deep.CutBlock
namespace Go.Proofs.YtbklpelikaapoaaGreatDoor
open Go.ChangeShapes Go.WideShapes Go.ChangeAt Go.RowKit Go.Deep
set_option linter.unusedVariables false
set_option linter.unusedSimpArgs false

/-- A header that was read, and what is behind it, in memory. -/
def rdc (h : Hd) (t : Txt) : Array Value := h.cs ++ #[.slice t.a t.n t.cap]
theorem rdc_size {h : Hd} (k : h.ok) (t : Txt) : (rdc h t).size = 38 := by simp [rdc, Hd.size k]
theorem rdc_h {w : World} {g : Nat} {ty : TypeId} {h : Hd} {t : Txt} (r : Row w g ty (rdc h t)) : Part w g 0 h.cs := r.part.left
theorem rdc_t {w : World} {g : Nat} {ty : TypeId} {h : Hd} {t : Txt} (k : h.ok) (r : Row w g ty (rdc h t)) : w.cell? ⟨g, 37, none⟩ = some (.slice t.a t.n t.cap) := by
  have := (r.part.right 37 (Hd.size k)) 0 (.slice t.a t.n t.cap) rfl
  simpa using this
theorem sizeRd : (Tryz.prog.info? 91).map (·.size) = some 38 := by kernel_rfl
theorem ldRd {ops : Array Oper} {rest : List Oper} {o : Oper} {a : Act} {w : World} {Q : Exit → Act → World → Prop} (x : Operand) (ho : o.op = .load 91 x) (hw : Region.wanted o (yielded ops a.tmps) = true) (g : Nat) (hx : a.eval x = .pointer (some ⟨g, 0, none⟩)) (h : Hd) (t : Txt) (k : h.ok) (t' : TypeId) (hg : Row w g t' (rdc h t))
    (hn : wpList Tryz.prog ops Q rest (a.put o.dst (.agg (rdc h t))) w) : wpList Tryz.prog ops Q (o :: rest) a w :=
  wp_ld 91 x ho hw g 0 hx (rdc h t) _ Tryz.underlying91 rfl (by rw [rdc_size k]; exact sizeRd) hg.part hn
set_option maxRecDepth 100000 in
theorem builtRd' (c fl ln nx hp a0 a1 a2 a3 a4 a5 a6 a7 a8 a9 a10 a11 a12 a13 a14 a15 b0 b1 b2 b3 b4 b5 b6 b7 b8 b9 b10 b11 b12 b13 b14 b15 : Int) (ta : Option Addr) (tn tc : Nat) (tl : List Int) : Tryz.prog.built 91 [(0, .agg (Hd.cs ⟨c, fl, ln, nx, hp, [a0, a1, a2, a3, a4, a5, a6, a7, a8, a9, a10, a11, a12, a13, a14, a15], [b0, b1, b2, b3, b4, b5, b6, b7, b8, b9, b10, b11, b12, b13, b14, b15]⟩)), (1, .slice ta tn tc)] = some (rdc ⟨c, fl, ln, nx, hp, [a0, a1, a2, a3, a4, a5, a6, a7, a8, a9, a10, a11, a12, a13, a14, a15], [b0, b1, b2, b3, b4, b5, b6, b7, b8, b9, b10, b11, b12, b13, b14, b15]⟩ ⟨ta, tn, tc, tl⟩) := by kernel_rfl
theorem builtRd (h : Hd) (t : Txt) (kh : h.ok) : Tryz.prog.built 91 [(0, .agg h.cs), (1, .slice t.a t.n t.cap)] = some (rdc h t) := by
  obtain ⟨c, fl, ln, nx, hp, f, tt⟩ := h
  obtain ⟨⟨hf, _⟩, ht, _⟩ := kh
  obtain ⟨ta, tn, tc, tl⟩ := t
  simp only at hf ht
  match f, hf, tt, ht with
  | [a0, a1, a2, a3, a4, a5, a6, a7, a8, a9, a10, a11, a12, a13, a14, a15], _, [b0, b1, b2, b3, b4, b5, b6, b7, b8, b9, b10, b11, b12, b13, b14, b15], _ => exact builtRd' c fl ln nx hp a0 a1 a2 a3 a4 a5 a6 a7 a8 a9 a10 a11 a12 a13 a14 a15 b0 b1 b2 b3 b4 b5 b6 b7 b8 b9 b10 b11 b12 b13 b14 b15 ta tn tc tl
theorem bdRd {ops : Array Oper} {rest : List Oper} {o : Oper} {a : Act} {w : World} {Q : Exit → Act → World → Prop} (x0 x1 : Operand) (ho : o.op = .build 91 #[(0, x0), (1, x1)]) (hg : o.guard = none)
    (h : Hd) (t : Txt) (kh : h.ok) (h0 : a.eval x0 = .agg h.cs) (h1 : a.eval x1 = .slice t.a t.n t.cap)
    (hn : wpList Tryz.prog ops Q rest (a.put o.dst (.agg (rdc h t))) w) : wpList Tryz.prog ops Q (o :: rest) a w :=
  wp_bd 91 _ ho hg _ (by simp only [List.map_toArray, List.map_cons, List.map_nil, h0, h1]; exact builtRd h t kh) hn
/-- A store of a whole array or struct, next in a drawn region. -/
theorem anyH_st {P : Program} {ops : Array Oper} {Q : Exit → Act → World → Prop} {md : Region.Mode} {S : World → Prop} {fuel : Nat} {listed : Array Bool} {a : Act} {w : World} (i : Nat) {o : Oper} (hr : Region.ready md ops listed = [i]) (ho : ops[i]? = some o) (hgd : o.guard = none) (ty : TypeId) (x y : Operand) (hop : o.op = .store ty x y)
    (g : Nat) (cells : Array Value) (hx : a.eval x = .pointer (some ⟨g, 0, none⟩)) (hy : a.eval y = .agg cells) (t : TypeId) (old : Array Value) (hg : Row w g t old) (hi : (P.info? ty).map (·.size) = some cells.size)
    (hold : old.size = cells.size) (h1 : cells.all (·.oneCell') = true) (hS : S (w.setRow g cells)) (h : wpAnyH P md ops Q S fuel (listed.setIfInBounds i true) (a.put o.dst undef) (w.setRow g cells)) : wpAnyH P md ops Q S (fuel + 1) listed a w :=
  wpAnyH_ready hr (by simp) (AllReadyH.cons ho (fun K hK => step_st hgd ty x y hop g cells hx hy t old hg hi hold h1 (hK.out _ _ hS (fun _ => h))) AllReadyH.nil)
/-- A packet whose memory is the call's own. -/
structure POwn (base : Nat) (w : World) (p : Pv) : Prop where
  h : p.h.ok
  m : MOwn base w p.m
  t : w.ownsRow base 5 1 p.t.v p.t.l.length (u8s p.t.l)
  tn : p.t.n = p.t.l.length
  oct : Oct p.t.l
theorem MOwn.row {base g : Nat} {w w' : World} {m : Mv} {t : TypeId} {cs : Array Value} (h : MOwn base w m) (hr : Row w g t cs) (h3 : (3 : TypeId) ≠ t) (h5 : (5 : TypeId) ≠ t) (hO : (140 : TypeId) ≠ t) (hg : w.grownBy w' (some g)) : MOwn base w' m :=
  ⟨h.ro, h.own.kept hg (.inr (own_row h.own hr hO)), fun o ho => (h.own2 o ho).row hr h3 h5 hg, h.len, h.le⟩
theorem MOwn.below {base : Nat} {w w' : World} {m : Mv} (h : MOwn base w m) (hb : Below w.heap.size w w') : MOwn base w' m := ⟨h.ro, own_below h.own hb, fun o ho => (h.own2 o ho).below hb, h.len, h.le⟩
theorem MOwn.mono {base base' : Nat} {w : World} {m : Mv} (h : MOwn base w m) (hb : base' ≤ base) : MOwn base' w m := ⟨h.ro, own_mono h.own hb, fun o ho => (h.own2 o ho).mono hb, h.len, h.le⟩
theorem POwn.ok {base : Nat} {w : World} {p : Pv} (h : POwn base w p) : p.ok w := by
  refine ⟨h.h, h.m.ok, ?_, h.oct⟩
  obtain ⟨a, cap, e, hl, _⟩ := owns_lies h.t
  have e1 : Value.slice p.t.a p.t.n p.t.cap = .slice a p.t.l.length cap := e
  injection e1 with e2 e3 e4
  rw [e2, e3, e4]; exact hl
theorem POwn.row {base g : Nat} {w w' : World} {p : Pv} {t : TypeId} {cs : Array Value} (h : POwn base w p) (hr : Row w g t cs) (h3 : (3 : TypeId) ≠ t) (h5 : (5 : TypeId) ≠ t) (hO : (140 : TypeId) ≠ t) (hg : w.grownBy w' (some g)) : POwn base w' p :=
  ⟨h.h, h.m.row hr h3 h5 hO hg, h.t.kept hg (.inr (own_row h.t hr h5)), h.tn, h.oct⟩
theorem POwn.below {base : Nat} {w w' : World} {p : Pv} (h : POwn base w p) (hb : Below w.heap.size w w') : POwn base w' p := ⟨h.h, h.m.below hb, own_below h.t hb, h.tn, h.oct⟩
theorem POwn.mono {base base' : Nat} {w : World} {p : Pv} (h : POwn base w p) (hb : base' ≤ base) : POwn base' w p := ⟨h.h, h.m.mono hb, own_mono h.t hb, h.tn, h.oct⟩
theorem POwn.zero (base : Nat) (w : World) : POwn base w Pv.zero := ⟨Hd.zero_ok, zero_own _ _, World.ownsRow_nil _ _ _ _, rfl, fun x hx => by cases hx⟩
/-- What a reading answers: an error, or a packet. -/
def RdOk (w : World) (E : Int) (P : Pp) (e : Ending) (w' : World) : Prop := ∃ v : Pv, e = .returned (.tuple #[.agg v.cs, .int .i64 E]) ∧ Hid (POwn w.heap.size w' v) ∧ Hid (v.p = P) ∧ Hid (Below w.heap.size w w')
set_option maxRecDepth 100000 in
set_option maxHeartbeats 1600000 in
theorem unknown_any (h : Hd) (t : Txt) (k : h.ok) (w : World) :
    Calls Tryz.prog 71 #[.agg (rdc h t)] w (RdOk w 6 Pp.zero) := by
  have hz := zpkP
  have R1 := hid (Row.new (w.alloc (.cells (rdc h t) 91)) 41 Pv.zero.cs)
  have B1 := hid (balloc (balloc (Below.refl w.heap.size w) (.cells (rdc h t) 91)) (.cells Pv.zero.cs 41))
  have hs1 : (w.alloc (.cells (rdc h t) 91)).heap.size = w.heap.size + 1 := World.size_alloc ..
  rw [hs1] at R1
  clear k
  go_enter Tryz.func71, Tryz.ntmps71
  go_upto_region 1 with fail
  generalize (w.alloc (.cells (rdc h t) 91)).alloc (.cells Pv.zero.cs 41) = w1 at *
  clear hs1
  go_wp2_with (first | (refine bdPz ptP rfl rfl ?_) | (refine stP ptP _ _ rfl rfl (w.heap.size + 1) Pv.zero Pv.zero_fit rfl rfl 41 Pv.zero Pv.zero_fit R1.out ?_))
  refine bodyPost_ret (resPe ptP rfl _ _ (w.heap.size + 1) 41 Pv.zero Pv.zero_fit (.int .i64 6) rfl rfl (R1.out.setRow _)) rfl ?_
  exact ⟨Pv.zero, rfl, hid (POwn.zero _ _), rfl, hid (below_setRow' B1.out (Nat.le_succ _) _)⟩
theorem rdtE_1 {l : List Int} (h : dcE l ≠ 0) : rdtE l = dcE l := by rw [rdtE, if_neg h]
theorem rdtE_2 {l : List Int} (h : dcE l = 0) (h2 : dcN l ≠ 17) : rdtE l = 6 := by rw [rdtE, if_pos h, if_neg h2]
theorem rdtE_3 {l : List Int} (h : dcE l = 0) (h2 : dcN l = 17) (h3 : (dcR l).length < 4) : rdtE l = 4 := by rw [rdtE, if_pos h, if_pos h2, if_pos h3]
theorem rdtE_4 {l : List Int} (h : dcE l = 0) (h2 : dcN l = 17) (h3 : ¬ (dcR l).length < 4) : rdtE l = 0 := by rw [rdtE, if_pos h, if_pos h2, if_neg h3]
def rdtP (h : Hd) (l : List Int) : Pp := if rdtE l = 0 then ⟨h, true, Pm.zero, dcO l, numOf ((dcR l).take 4), (dcR l).drop 4⟩ else Pp.zero
theorem rdtP_bad {h : Hd} {l : List Int} (e : rdtE l ≠ 0) : rdtP h l = Pp.zero := by rw [rdtP, if_neg e]
theorem rdtP_ok {h : Hd} {l : List Int} (e : rdtE l = 0) : rdtP h l = ⟨h, true, Pm.zero, dcO l, numOf ((dcR l).take 4), (dcR l).drop 4⟩ := by rw [rdtP, if_pos e]
theorem rd4_small {n : Nat} (h : n < 4) : rdE 4 1 n 0 = 4 := by unfold rdE; rw [if_pos rfl, if_neg (by simp [sizeB]), if_pos (by omega)]
set_option maxRecDepth 100000 in
set_option maxHeartbeats 3200000 in
theorem rdData1 (h : Hd) (t : Txt) (k : h.ok) (w : World) (ht : t.ok w) (hs : t.n ≤ 100000) (h1 : dcE t.l ≠ 0) :
    Calls Tryz.prog 70 #[.agg (rdc h t)] w (RdOk w (rdtE t.l) (rdtP h t.l)) := by
  have hz := zpkP
  have hzo := zho
  have HK := hid k
  have R1 := hid (Row.new (w.alloc (.cells (rdc h t) 91)) 41 Pv.zero.cs)
  have S1 := hid ((Row.new w 91 (rdc h t)).alloc (.cells Pv.zero.cs 41))
  have B1 := hid (balloc (balloc (Below.refl w.heap.size w) (.cells (rdc h t) 91)) (.cells Pv.zero.cs 41))
  have hs1 : (w.alloc (.cells (rdc h t) 91)).heap.size = w.heap.size + 1 := World.size_alloc ..
  rw [hs1] at R1
  have T1 := hid (ht.below B1.out)
  have HG : Hid (w.heap.size ≤ w.heap.size + 1) := hid (Nat.le_succ _)
  have c37 := rdc_t k S1.out
  have HDO := hid (dcR_oct ht.2)
  have HDL := hid (dcR_len t.l)
  have HTL := hid ht.1.1
  have HSm := hid hs
  have HE : Hid (rdtE t.l = dcE t.l) := hid (rdtE_1 h1)
  have HP : Hid (rdtP h t.l = Pp.zero) := hid (rdtP_bad (by rw [HE.out]; exact h1))
  have HN0 : Hid (dcN t.l = 0) := hid (by rw [dcN, if_neg h1])
  have hq : (dcE t.l != 0) = true := bne_iff_ne.2 h1
  clear h1
  clear k ht hs
  go_enter Tryz.func70, Tryz.ntmps70
  go_upto_region 1 with fail
  generalize (w.alloc (.cells (rdc h t) 91)).alloc (.cells Pv.zero.cs 41) = w1 at *
  clear hs1
  generalize hg1 : w.heap.size + 1 = g1 at *
  have HG1 := hid hg1
  clear hg1
  go_wp2_with fail
  refine (hopDecode_any t.a t.n t.cap t.l _ T1.out.1 T1.out.2 HSm.out).mono ?_
  rintro e w2 ⟨v2, rfl, hown, hb⟩
  have R2 := hid (R1.out.below hb)
  have S2 := hid (S1.out.below hb)
  have B2 := hid (bthen B1.out hb)
  have O2 := hid hown
  clear hb hown R1 S1 T1 c37 B1
  rw [HN0.out]
  generalize dcO t.l = O at *
  have Z3 := hid (layO_new w2 39 O)
  have b3 := layO_below w2 39 O
  have R3 := hid (R2.out.below b3)
  have S3 := hid (S2.out.below b3)
  have B3 := hid (bthen B2.out b3)
  have O3 := hid (own_below O2.out b3)
  clear b3
  go_upto_region 2 with (refine stO oh _ _ rfl rfl w2.heap.size O rfl rfl 39 Ho.zero (Row.new w2 39 _) ?_)
  generalize (w2.alloc (.cells Ho.zero.cs 39)).setRow w2.heap.size O.cs = w3 at *
  have HG3 : Hid (w.heap.size + 1 < w2.heap.size) := hid (by rw [HG1.out]; exact R2.out.lt)
  generalize w2.heap.size = g3 at *
  clear R2 S2 B2 O2
  generalize dcE t.l = E at *
  go_wp2_with (first | (refine bdPz ptP rfl rfl ?_) | (refine stP ptP _ _ rfl rfl g1 Pv.zero Pv.zero_fit rfl rfl 41 Pv.zero Pv.zero_fit R3.out ?_))
  refine bodyPost_ret (resPe ptP rfl _ _ g1 41 Pv.zero Pv.zero_fit (.int .i64 (E)) rfl rfl (R3.out.setRow _)) rfl ?_
  exact ⟨Pv.zero, by rw [HE.out], hid (POwn.zero _ _), HP.out.symm, hid (below_setRow' B3.out HG.out _)⟩
set_option maxRecDepth 100000 in
set_option maxHeartbeats 3200000 in
theorem rdData2 (h : Hd) (t : Txt) (k : h.ok) (w : World) (ht : t.ok w) (hs : t.n ≤ 100000) (h1 : dcE t.l = 0) (h2 : dcN t.l ≠ 17) :
    Calls Tryz.prog 70 #[.agg (rdc h t)] w (RdOk w (rdtE t.l) (rdtP h t.l)) := by
  have hz := zpkP
  have hzo := zho
  have HK := hid k
  have R1 := hid (Row.new (w.alloc (.cells (rdc h t) 91)) 41 Pv.zero.cs)
  have S1 := hid ((Row.new w 91 (rdc h t)).alloc (.cells Pv.zero.cs 41))
  have B1 := hid (balloc (balloc (Below.refl w.heap.size w) (.cells (rdc h t) 91)) (.cells Pv.zero.cs 41))
  have hs1 : (w.alloc (.cells (rdc h t) 91)).heap.size = w.heap.size + 1 := World.size_alloc ..
  rw [hs1] at R1
  have T1 := hid (ht.below B1.out)
  have HG : Hid (w.heap.size ≤ w.heap.size + 1) := hid (Nat.le_succ _)
  have c37 := rdc_t k S1.out
  have HDO := hid (dcR_oct ht.2)
  have HDL := hid (dcR_len t.l)
  have HTL := hid ht.1.1
  have HSm := hid hs
  have HE : Hid (rdtE t.l = 6) := hid (rdtE_2 h1 h2)
  have HP : Hid (rdtP h t.l = Pp.zero) := hid (rdtP_bad (by rw [HE.out]; decide))
  have hq : (dcN t.l != 17) = true := bne_iff_ne.2 h2
  have HE0 := hid h1
  clear h1 h2
  clear k ht hs
  go_enter Tryz.func70, Tryz.ntmps70
  go_upto_region 1 with fail
  generalize (w.alloc (.cells (rdc h t) 91)).alloc (.cells Pv.zero.cs 41) = w1 at *
  clear hs1
  generalize hg1 : w.heap.size + 1 = g1 at *
  have HG1 := hid hg1
  clear hg1
  go_wp2_with fail
  refine (hopDecode_any t.a t.n t.cap t.l _ T1.out.1 T1.out.2 HSm.out).mono ?_
  rintro e w2 ⟨v2, rfl, hown, hb⟩
  have R2 := hid (R1.out.below hb)
  have S2 := hid (S1.out.below hb)
  have B2 := hid (bthen B1.out hb)
  have O2 := hid hown
  clear hb hown R1 S1 T1 c37 B1
  rw [HE0.out]
  generalize dcO t.l = O at *
  have Z3 := hid (layO_new w2 39 O)
  have b3 := layO_below w2 39 O
  have R3 := hid (R2.out.below b3)
  have S3 := hid (S2.out.below b3)
  have B3 := hid (bthen B2.out b3)
  have O3 := hid (own_below O2.out b3)
  clear b3
  go_upto_region 2 with (refine stO oh _ _ rfl rfl w2.heap.size O rfl rfl 39 Ho.zero (Row.new w2 39 _) ?_)
  generalize (w2.alloc (.cells Ho.zero.cs 39)).setRow w2.heap.size O.cs = w3 at *
  have HG3 : Hid (w.heap.size + 1 < w2.heap.size) := hid (by rw [HG1.out]; exact R2.out.lt)
  generalize w2.heap.size = g3 at *
  clear R2 S2 B2 O2
  generalize dcN t.l = N at *
  go_wp2_with (first | (refine bdPz ptP rfl rfl ?_) | (refine stP ptP _ _ rfl rfl g1 Pv.zero Pv.zero_fit rfl rfl 41 Pv.zero Pv.zero_fit R3.out ?_))
  refine bodyPost_ret (resPe ptP rfl _ _ g1 41 Pv.zero Pv.zero_fit (.int .i64 (6)) rfl rfl (R3.out.setRow _)) rfl ?_
  exact ⟨Pv.zero, by rw [HE.out], hid (POwn.zero _ _), HP.out.symm, hid (below_setRow' B3.out HG.out _)⟩
set_option maxRecDepth 100000 in
set_option maxHeartbeats 3200000 in
theorem rdData3 (h : Hd) (t : Txt) (k : h.ok) (w : World) (ht : t.ok w) (hs : t.n ≤ 100000) (h1 : dcE t.l = 0) (h2 : dcN t.l = 17) (h3 : (dcR t.l).length < 4) :
    Calls Tryz.prog 70 #[.agg (rdc h t)] w (RdOk w (rdtE t.l) (rdtP h t.l)) := by
  have hz := zpkP
  have hzo := zho
  have HK := hid k
  have R1 := hid (Row.new (w.alloc (.cells (rdc h t) 91)) 41 Pv.zero.cs)
  have S1 := hid ((Row.new w 91 (rdc h t)).alloc (.cells Pv.zero.cs 41))
  have B1 := hid (balloc (balloc (Below.refl w.heap.size w) (.cells (rdc h t) 91)) (.cells Pv.zero.cs 41))
  have hs1 : (w.alloc (.cells (rdc h t) 91)).heap.size = w.heap.size + 1 := World.size_alloc ..
  rw [hs1] at R1
  have T1 := hid (ht.below B1.out)
  have HG : Hid (w.heap.size ≤ w.heap.size + 1) := hid (Nat.le_succ _)
  have c37 := rdc_t k S1.out
  have HDO := hid (dcR_oct ht.2)
  have HDL := hid (dcR_len t.l)
  have HTL := hid ht.1.1
  have HSm := hid hs
  have HE : Hid (rdtE t.l = 4) := hid (rdtE_3 h1 h2 h3)
  have HP : Hid (rdtP h t.l = Pp.zero) := hid (rdtP_bad (by rw [HE.out]; decide))
  have HE0 := hid h1
  have HN0 := hid h2
  have H4 := hid h3
  clear h1 h2 h3
  clear k ht hs
  go_enter Tryz.func70, Tryz.ntmps70
  go_upto_region 1 with fail
  generalize (w.alloc (.cells (rdc h t) 91)).alloc (.cells Pv.zero.cs 41) = w1 at *
  clear hs1
  generalize hg1 : w.heap.size + 1 = g1 at *
  have HG1 := hid hg1
  clear hg1
  go_wp2_with fail
  refine (hopDecode_any t.a t.n t.cap t.l _ T1.out.1 T1.out.2 HSm.out).mono ?_
  rintro e w2 ⟨v2, rfl, hown, hb⟩
  have R2 := hid (R1.out.below hb)
  have S2 := hid (S1.out.below hb)
  have B2 := hid (bthen B1.out hb)
  have O2 := hid hown
  clear hb hown R1 S1 T1 c37 B1
  rw [HE0.out, HN0.out]
  generalize dcO t.l = O at *
  have Z3 := hid (layO_new w2 39 O)
  have b3 := layO_below w2 39 O
  have R3 := hid (R2.out.below b3)
  have S3 := hid (S2.out.below b3)
  have B3 := hid (bthen B2.out b3)
  have O3 := hid (own_below O2.out b3)
  clear b3
  go_upto_region 2 with (refine stO oh _ _ rfl rfl w2.heap.size O rfl rfl 39 Ho.zero (Row.new w2 39 _) ?_)
  generalize (w2.alloc (.cells Ho.zero.cs 39)).setRow w2.heap.size O.cs = w3 at *
  have HG3 : Hid (w.heap.size + 1 < w2.heap.size) := hid (by rw [HG1.out]; exact R2.out.lt)
  generalize w2.heap.size = g3 at *
  clear R2 S2 B2 O2
  obtain ⟨a3, k3, rfl, _, _⟩ := owns_lies O3.out
  have L3 : Hid (Lies .u8 w3 a3 (dcR t.l).length k3 (dcR t.l)) := by
    obtain ⟨a9, k9, e9, h9, _⟩ := owns_lies O3.out
    cases e9
    exact h9
  clear O3
  generalize dcR t.l = X at *
  generalize hxn : X.length = xn at *
  have HXN := hid hxn
  clear hxn
  go_wp2_with fail
  refine (over_any a3 xn k3 X _ L3.out HDO.out (by have := HDL.out; have := HTL.out; have := HSm.out; omega)).mono ?_
  rintro e w4 ⟨c, a4, k4, rfl, hc, hb, hc1, hc2⟩
  have R4 := hid (R3.out.below hb)
  have S4 := hid (S3.out.below hb)
  have Z4 := hid (Z3.out.below hb)
  have B4 := hid (bthen B3.out hb)
  have C4 := hid hc
  have HC := hid hc1
  have HR3 := hid R3.out.lt
  have HS3 := hid S3.out.lt
  have HZ3 := hid Z3.out.lt
  have HW3 := hid B3.out.size
  clear hc hb hc1 hc2 R3 S3 Z3 B3 L3
  go_wp2_with fail
  refine (take_any _ c a4 xn k4 0 X 0 4 C4.out).mono ?_
  rintro e w5 ⟨rfl, hc, hg, hz5⟩
  rw [show rdE 4 1 (xn - 0) 0 = 4 from rd4_small (by have := H4.out; omega)] at hc
  have R5 := hid (R4.out.kept hg (fun e => absurd (Option.some.inj e) (by have := HC.out; have := HR3.out; omega)))
  have S5 := hid (S4.out.kept hg (fun e => absurd (Option.some.inj e) (by have := HC.out; have := HS3.out; omega)))
  have Z5 := hid (Z4.out.kept hg (fun e => absurd (Option.some.inj e) (by have := HC.out; have := HZ3.out; omega)))
  have B5 := hid (bgrown B4.out hg (by have := HC.out; have := HW3.out; omega))
  have C5 := hid hc
  clear hc hg hz5 R4 S4 Z4 B4 C4
  generalize takeV 4 X 0 xn 0 = V at *
  go_wp2_with fail
  refine (err_any _ c 4 C5.out.cell2).mono ?_
  rintro e w5 ⟨rfl, rfl⟩
  go_wp2_with (first | (refine bdPz ptP rfl rfl ?_) | (refine stP ptP _ _ rfl rfl g1 Pv.zero Pv.zero_fit rfl rfl 41 Pv.zero Pv.zero_fit R5.out ?_))
  refine bodyPost_ret (resPe ptP rfl _ _ g1 41 Pv.zero Pv.zero_fit (.int .i64 (4)) rfl rfl (R5.out.setRow _)) rfl ?_
  exact ⟨Pv.zero, by rw [HE.out], hid (POwn.zero _ _), HP.out.symm, hid (below_setRow' B5.out HG.out _)⟩
end Go.Proofs.YtbklpelikaapoaaGreatDoor

namespace Go.Proofs.YtbklpelikaapoaaGreatDoor
open Go.ChangeShapes Go.WideShapes Go.ChangeAt Go.RowKit Go.Deep
set_option linter.unusedVariables false
set_option linter.unusedSimpArgs false

set_option maxRecDepth 100000 in
theorem builtH3' (hp a0 a1 a2 a3 a4 a5 a6 a7 a8 a9 a10 a11 a12 a13 a14 a15 b0 b1 b2 b3 b4 b5 b6 b7 b8 b9 b10 b11 b12 b13 b14 b15 : Int) : Tryz.prog.built 35 [(4, .int .i64 hp), (5, .agg (arr [a0, a1, a2, a3, a4, a5, a6, a7, a8, a9, a10, a11, a12, a13, a14, a15])), (6, .agg (arr [b0, b1, b2, b3, b4, b5, b6, b7, b8, b9, b10, b11, b12, b13, b14, b15]))] = some (Hd.cs ⟨0, 0, 0, 0, hp, [a0, a1, a2, a3, a4, a5, a6, a7, a8, a9, a10, a11, a12, a13, a14, a15], [b0, b1, b2, b3, b4, b5, b6, b7, b8, b9, b10, b11, b12, b13, b14, b15]⟩) := by kernel_rfl
theorem builtH3 (hp : Int) (f t : List Int) (hf : f.length = 16) (ht : t.length = 16) : Tryz.prog.built 35 [(4, .int .i64 hp), (5, .agg (arr f)), (6, .agg (arr t))] = some (Hd.cs ⟨0, 0, 0, 0, hp, f, t⟩) := by
  match f, hf, t, ht with
  | [a0, a1, a2, a3, a4, a5, a6, a7, a8, a9, a10, a11, a12, a13, a14, a15], _, [b0, b1, b2, b3, b4, b5, b6, b7, b8, b9, b10, b11, b12, b13, b14, b15], _ => exact builtH3' hp a0 a1 a2 a3 a4 a5 a6 a7 a8 a9 a10 a11 a12 a13 a14 a15 b0 b1 b2 b3 b4 b5 b6 b7 b8 b9 b10 b11 b12 b13 b14 b15
theorem ybdH3 {ops : Array Oper} {S : World → Prop} {op : Oper} {a : Act} (hw : Region.wanted op (yielded ops a.tmps) = true) (x4 x5 x6 : Operand) (ho : op.op = .build 35 #[(4, x4), (5, x5), (6, x6)])
    (hp : Int) (f t : List Int) (hf : f.length = 16) (ht : t.length = 16) (h4 : a.eval x4 = .int .i64 hp) (h5 : a.eval x5 = .agg (arr f)) (h6 : a.eval x6 = .agg (arr t)) : YieldsIf Tryz.prog ops S op (.agg (Hd.cs ⟨0, 0, 0, 0, hp, f, t⟩)) a :=
  .inl ⟨hw, fun w _ => by
    have hb : Tryz.prog.built 35 ((#[(4, x4), (5, x5), (6, x6)] : Array (Nat × Operand)).map fun (i, x) => (i, a.eval x)).toList = some (Hd.cs ⟨0, 0, 0, 0, hp, f, t⟩) := by
      simp only [List.map_toArray, List.map_cons, List.map_nil, h4, h5, h6]; exact builtH3 hp f t hf ht
    unfold execOp
    simp only [ho, Sem.run_bind, run_build w 35 _ _ hb, Result.andThen_ok]
    rfl⟩
theorem CpM.row {base g : Nat} {w : World} {m : Mv} {t : TypeId} {c : Array Value} (h : CpM base w m) (hr : Row w g t c) (h3 : (3 : TypeId) ≠ t) (h5 : (5 : TypeId) ≠ t) (hO : (140 : TypeId) ≠ t) (cs : Array Value) : CpM base (w.setRow g cs) m :=
  ⟨h.ro, own_setRowT h.own hr hO, fun o ho => ⟨own_setRowT (h.own2 o ho).n hr h3, (h.own2 o ho).nn, (h.own2 o ho).ad, own_setRowT (h.own2 o ho).t hr h5, (h.own2 o ho).tn, (h.own2 o ho).oct⟩, h.len⟩
theorem CpM.mono {base base' : Nat} {w : World} {m : Mv} (h : CpM base w m) (hb : base' ≤ base) : CpM base' w m := ⟨h.ro, own_mono h.own hb, fun o ho => (h.own2 o ho).mono hb, h.len⟩
set_option maxRecDepth 100000 in
set_option maxHeartbeats 3200000 in
theorem dgControl_any (f t : List Int) (hf : Adr f) (ht : Adr t) (m : Mv) (w : World) (hm : m.ok w) (hn : m.on ≤ 1000) (hs : Sml m.L) : Calls Tryz.prog 19 #[.agg (arr f), .agg (arr t), .agg m.cs] w fun e w' => (∃ m' : Mv, e = .returned (.agg (Pv.cs ⟨⟨0, 0, 0, 0, 255, f, t⟩, false, m', Ho.zero, 0, Txt.none⟩)) ∧ m'.on = m.on ∧ Hid (m'.p = m.p) ∧ Hid (CpM w.heap.size w' m')) ∧ Below w.heap.size w w' := by
  have hz := zpkP
  have HF := hid hf
  have HT := hid ht
  have HM0 := hid hm
  have HSm := hid hs
  have hs1 : (w.alloc (.cells (arr f) 33)).heap.size = w.heap.size + 1 := World.size_alloc ..
  have hs2 : ((w.alloc (.cells (arr f) 33)).alloc (.cells (arr t) 33)).heap.size = w.heap.size + 2 := by rw [World.size_alloc, hs1]
  have hs3 : (((w.alloc (.cells (arr f) 33)).alloc (.cells (arr t) 33)).alloc (.cells m.cs 38)).heap.size = w.heap.size + 3 := by rw [World.size_alloc, hs2]
  have F1 := hid ((((Row.new w 33 (arr f)).alloc (.cells (arr t) 33)).alloc (.cells m.cs 38)).alloc (.cells Pv.zero.cs 41))
  have T1 := hid (((Row.new (w.alloc (.cells (arr f) 33)) 33 (arr t)).alloc (.cells m.cs 38)).alloc (.cells Pv.zero.cs 41))
  have R1 := hid ((Row.new ((w.alloc (.cells (arr f) 33)).alloc (.cells (arr t) 33)) 38 m.cs).alloc (.cells Pv.zero.cs 41))
  have Z1 := hid (Row.new (((w.alloc (.cells (arr f) 33)).alloc (.cells (arr t) 33)).alloc (.cells m.cs 38)) 41 Pv.zero.cs)
  have B1 := hid (balloc (balloc (balloc (balloc (Below.refl w.heap.size w) (.cells (arr f) 33)) (.cells (arr t) 33)) (.cells m.cs 38)) (.cells Pv.zero.cs 41))
  rw [hs1] at T1
  rw [hs2] at R1
  rw [hs3] at Z1
  clear hm hs hf ht
  go_enter Tryz.func19, Tryz.ntmps19
  go_upto_region 1 with fail
  generalize hw1 : (((w.alloc (.cells (arr f) 33)).alloc (.cells (arr t) 33)).alloc (.cells m.cs 38)).alloc (.cells Pv.zero.cs 41) = w1 at *
  have B1 : Hid (Below w.heap.size w w1.drew) := hid (B1.out.trans ⟨rfl, rfl, rfl, Nat.le_refl _, fun _ _ => rfl⟩)
  have F1 : Hid (Row w1.drew w.heap.size 33 (arr f)) := F1
  have T1 : Hid (Row w1.drew (w.heap.size + 1) 33 (arr t)) := T1
  have R1 : Hid (Row w1.drew (w.heap.size + 2) 38 m.cs) := R1
  have Z1 : Hid (Row w1.drew (w.heap.size + 3) 41 Pv.zero.cs) := Z1
  clear hw1 hs1 hs2 hs3 hz
  generalize hg3 : w.heap.size + 3 = g3 at *
  generalize hg2 : w.heap.size + 2 = g2 at *
  generalize hg1 : w.heap.size + 1 = g1 at *
  generalize hg0 : w.heap.size = g0 at *
  have HG : Hid (g1 = g0 + 1 ∧ g2 = g0 + 2 ∧ g3 = g0 + 3 ∧ w.heap.size = g0) := hid ⟨hg1.symm, hg2.symm, hg3.symm, hg0⟩
  rw [← hg0] at B1
  clear hg0 hg1 hg2 hg3
  refine wp_region_held_drew (S := fun w' => Hid (Row w' g0 33 (arr f)) ∧ (Hid (Row w' g1 33 (arr t)) ∧ Hid (Row w' g2 38 m.cs))) (by kernel_rfl) ?_ (fun hHeld => ?_)
  · exact ⟨F1, T1, R1⟩
  refine wpAnyH_take (i := 0) (oi := _) (v := .agg (arr f)) rfl (by kernel_rfl) (by kernel_rfl) (by kernel_rfl) (fun _ _ _ h => h) (yld41 (by rfl) _ rfl g0 0 rfl f HF.out (fun w h => h.1.out.part)) (by assumption) ?_
  try simp only [List.getElem_toArray, List.getElem_cons_zero, List.getElem_cons_succ, Act.put, List.setIfInBounds_toArray, List.set_cons_zero, List.set_cons_succ]
  refine wpAnyH_take (i := 1) (oi := _) (v := .agg (arr t)) rfl (by kernel_rfl) (by kernel_rfl) (by kernel_rfl) (fun _ _ _ h => h) (yld41 (by rfl) _ rfl g1 0 rfl t HT.out (fun w h => h.2.1.out.part)) (by assumption) ?_
  try simp only [List.getElem_toArray, List.getElem_cons_zero, List.getElem_cons_succ, Act.put, List.setIfInBounds_toArray, List.set_cons_zero, List.set_cons_succ]
  refine wpAnyH_take (i := 2) (oi := _) (v := .agg (Hd.cs ⟨0, 0, 0, 0, 255, f, t⟩)) rfl (by kernel_rfl) (by kernel_rfl) (by kernel_rfl) (fun _ _ _ h => h) (ybdH3 (by rfl) _ _ _ rfl 255 f t HF.out.1 HT.out.1 rfl rfl rfl) (by assumption) ?_
  try simp only [List.getElem_toArray, List.getElem_cons_zero, List.getElem_cons_succ, Act.put, List.setIfInBounds_toArray, List.set_cons_zero, List.set_cons_succ]
  refine wpAnyH_take (i := 3) (oi := _) (v := .agg m.cs) rfl (by kernel_rfl) (by kernel_rfl) (by kernel_rfl) (fun _ _ _ h => h) (yldM m29 (by rfl) _ rfl g2 0 rfl m HM0.out.ro (fun w h => h.2.2.out.part)) (by assumption) ?_
  try simp only [List.getElem_toArray, List.getElem_cons_zero, List.getElem_cons_succ, Act.put, List.setIfInBounds_toArray, List.set_cons_zero, List.set_cons_succ]
  refine wpAnyH_ready (rs := [4]) (by kernel_rfl) (by simp) ?_
  refine AllReadyH.cons (o := _) rfl (fun K hK => ?_) AllReadyH.nil
  go_simp
  refine (dgCopied_any m _ (HM0.out.below B1.out) hn HSm.out).mono ?_
  rintro e w2 ⟨⟨m', rfl, hon, hp, hC⟩, hb⟩
  have F2 := hid (F1.out.below hb)
  have T2 := hid (T1.out.below hb)
  have R2 := hid (R1.out.below hb)
  have Z2 := hid (Z1.out.below hb)
  have B2 := hid (bthen B1.out hb)
  have C2 := hid hC.out
  have HP := hid hp.out
  clear hb hC hp F1 T1 R1 Z1
  go_wp2_with fail
  refine hK.out _ _ ⟨F2, T2, R2⟩ (fun hHeld => ?_)
  clear hK K
  try simp only [List.getElem_toArray, List.getElem_cons_zero, List.getElem_cons_succ, Act.put, List.setIfInBounds_toArray, List.set_cons_zero, List.set_cons_succ]
  have HK : Hid (Pv.fit ⟨⟨0, 0, 0, 0, 255, f, t⟩, false, m', Ho.zero, 0, Txt.none⟩) := hid ⟨⟨HF.out, HT.out⟩, C2.out.ro⟩
  refine wpAnyH_take (i := 5) (oi := _) (v := .agg (Pv.cs ⟨⟨0, 0, 0, 0, 255, f, t⟩, false, m', Ho.zero, 0, Txt.none⟩)) rfl (by kernel_rfl) (by kernel_rfl) (by kernel_rfl) (fun _ _ _ h => h) (ybdPc ptP (by rfl) _ _ rfl ⟨0, 0, 0, 0, 255, f, t⟩ m' HK.out.1 HK.out.2 rfl rfl) (by assumption) ?_
  try simp only [List.getElem_toArray, List.getElem_cons_zero, List.getElem_cons_succ, Act.put, List.setIfInBounds_toArray, List.set_cons_zero, List.set_cons_succ]
  generalize hq : (⟨⟨0, 0, 0, 0, 255, f, t⟩, false, m', Ho.zero, 0, Txt.none⟩ : Pv) = q at *
  have HQ := hid hq
  clear hq
  have F3 := hid (F2.out.rowOther g3 q.cs (by have := HG.out; omega))
  have T3 := hid (T2.out.rowOther g3 q.cs (by have := HG.out; omega))
  have R3 := hid (R2.out.rowOther g3 q.cs (by have := HG.out; omega))
  have Z3 := hid (Z2.out.setRow q.cs)
  have B3 := hid (below_setRow' B2.out (g := g3) (by have := HG.out; omega) q.cs)
  have C3 := hid ((C2.out.mono B1.out.size).row Z2.out (by decide) (by decide) (by decide) q.cs)
  refine anyH_st 6 ?qwa rfl rfl 41 _ _ rfl g3 q.cs ?qwb ?qwc 41 Pv.zero.cs ?qwd ?qwe ?qwf ?qwg ?qwh ?_
  case qwa => kernel_rfl
  case qwb => rfl
  case qwc => rfl
  case qwd => exact Z2.out
  case qwe => rw [Pv.size HK.out]; exact ptP.info
  case qwf => rw [Pv.size HK.out, Pv.size Pv.zero_fit]
  case qwg => exact Pv.one _
  case qwh => exact ⟨F3, T3, R3⟩
  try simp only [List.getElem_toArray, List.getElem_cons_zero, List.getElem_cons_succ, Act.put, List.setIfInBounds_toArray, List.set_cons_zero, List.set_cons_succ]
  refine wpAnyH_done (by kernel_rfl) ?_ _
  go_wp2_with fail
  exact bodyPost_ret (resP ptP rfl _ _ g3 41 q HK.out rfl Z3.out) rfl ⟨⟨m', by rw [← HQ.out], hon, HP, C3⟩, B3.out⟩
end Go.Proofs.YtbklpelikaapoaaGreatDoor

namespace Go.Proofs.YtbklpelikaapoaaGreatDoor
open Go.ChangeShapes Go.WideShapes Go.ChangeAt Go.RowKit Go.Deep
set_option linter.unusedVariables false
set_option linter.unusedSimpArgs false

theorem wsum_at (l : List Int) (i : Nat) (x : Int) (h : i < l.length) : wsum 0 (l.set i x) = wsum 0 l - wt i (l.getD i 0) + wt i x := by
  have h1 : l.set i x = l.take i ++ ([x] ++ l.drop (i + 1)) := by rw [List.set_eq_take_append_cons_drop, if_pos h]; rfl
  have h2 : l = l.take i ++ ([l.getD i 0] ++ l.drop (i + 1)) := by
    have := List.set_eq_take_append_cons_drop (l := l) (i := i) (a := l.getD i 0)
    rw [if_pos h] at this
    have h3 : l.set i (l.getD i 0) = l := by simp [h]
    rw [h3] at this
    exact this
  have hl : (l.take i).length = i := by simp; omega
  have e1 : ∀ y, wsum 0 (l.take i ++ ([y] ++ l.drop (i + 1))) = wsum 0 (l.take i) + wt i y + wsum (i + 1) (l.drop (i + 1)) := by
    intro y
    rw [wsum_app, wsum_app, hl]
    simp [wsum]; omega
  have h4 : wsum 0 l = wsum 0 (l.take i) + wt i (l.getD i 0) + wsum (i + 1) (l.drop (i + 1)) := by rw [← e1, ← h2]
  rw [h1, e1, h4]; omega
/-- The eight powers of two that a bit of a byte may be. -/
def bitB (d : Int) : Prop := d = 1 ∨ d = 2 ∨ d = 4 ∨ d = 8 ∨ d = 16 ∨ d = 32 ∨ d = 64 ∨ d = 128
theorem norm_bent (S d : Int) (hS : norm S = 65535) (h : (0 < d ∧ d < 65535) ∨ (-65535 < d ∧ d < 0)) : norm (S + d) ≠ 65535 := by
  unfold norm at hS ⊢
  split at hS
  · omega
  · split <;> omega
theorem bend_chk {f t l : List Int} {i : Nat} {y d : Int} (hf : Adr f) (ht : Adr t) (hn : l.length ≤ 1280) (hi : i < l.length) (hc : chkB f t 58 l = true) (hd : bitB d) (hy : y = l.getD i 0 + d ∨ y = l.getD i 0 - d) : chkB f t 58 (l.set i y) = false := by
  have hE := psE_58 hn
  have hh := hdr_len f t 58 l.length hf ht
  have e1 : ∀ M, wsum 0 (hdr f t 58 l.length ++ M) = wsum 0 (hdr f t 58 l.length) + wsum 0 M := fun M => by rw [wsum_app, wsum_even (0 + (hdr f t 58 l.length).length) (by omega)]
  unfold chkB psV at hc ⊢
  rw [List.length_set]
  rw [hE] at hc ⊢
  simp only [if_true, beq_self_eq_true, Bool.true_and, beq_iff_eq, beq_eq_false_iff_ne] at hc ⊢
  rw [sumV, e1] at hc ⊢
  rw [wsum_at l i y hi]
  have hb : wt i y - wt i (l.getD i 0) = wt i (y - l.getD i 0) := by unfold wt; split <;> omega
  have hm : ∃ z, y - l.getD i 0 = z ∧ (bitB z ∨ bitB (-z)) := by
    rcases hy with rfl | rfl
    · exact ⟨d, by omega, .inl hd⟩
    · exact ⟨-d, by omega, .inr (by rw [Int.neg_neg]; exact hd)⟩
  obtain ⟨z, hz, hzz⟩ := hm
  rw [hz] at hb
  have hc' : norm (wsum 0 (hdr f t 58 l.length) + wsum 0 l) = 65535 := by omega
  have := norm_bent (wsum 0 (hdr f t 58 l.length) + wsum 0 l) (wt i z) hc' (by unfold bitB at hzz; unfold wt; split <;> omega)
  rw [show wsum 0 (hdr f t 58 l.length) + (wsum 0 l - wt i (l.getD i 0) + wt i y) = wsum 0 (hdr f t 58 l.length) + wsum 0 l + wt i z by omega]
  omega
theorem bend_dg (p : Pp) (hh : p.h.ok) (ho : Oct (eL p.m)) (hd : p.d = false) (h : pgE p = 0) (i : Nat) (y d : Int) (hi : 40 ≤ i) (hi2 : i < (pgL p).length) (hb : bitB d) (hy : y = (pgL p).getD i 0 + d ∨ y = (pgL p).getD i 0 - d) (hyo : 0 ≤ y ∧ y < 256) : dgE ((pgL p).set i y) = 5 := by
  have hL : pgL p = ctlB p := by rw [pgL, if_pos h, hd]; rfl
  rw [hL] at hi2 hy ⊢
  unfold pgE at h
  rw [hd] at h
  simp only [Bool.false_eq_true, if_false] at h
  have he : eE p.m = 0 := by
    unfold ctlE at h
    split at h
    · assumption
    · contradiction
  rw [ctlE, if_pos he] at h
  obtain ⟨h1, h2⟩ := withE_0 h
  have hO := ctlL_oct he ho
  have hRl := ctlR_len p
  have hRo : Oct (ctlR p) := setL_oct _ _ _ _ _ hO
  have hlen := ctlL_len p
  have k1 : ((p.h.setNx 58).setLn ((ctlL p).length : Nat)).ok := hh
  have hy1 : okH ((p.h.setNx 58).setLn ((ctlL p).length : Nat)) = true := okH_ln h1 (by omega) (by omega)
  have hl40 := hdrL_len k1
  have hs : (ctlB p).set i y = hdrL ((p.h.setNx 58).setLn ((ctlL p).length : Nat)) ++ (ctlR p).set (i - 40) y := by
    rw [ctlB, List.set_append, if_neg (by omega), hl40]
  have hg : (ctlB p).getD i 0 = (ctlR p).getD (i - 40) 0 := by
    rw [ctlB, List.getD_eq_getElem?_getD, List.getElem?_append, if_neg (by omega), hl40, List.getD_eq_getElem?_getD]
  have hi3 : i - 40 < (ctlR p).length := by
    rw [ctlB, List.length_append, hl40] at hi2; omega
  rw [hg] at hy
  have hSo : Oct ((ctlR p).set (i - 40) y) := by
    intro x hx
    rcases List.mem_or_eq_of_mem_set hx with h' | rfl
    · exact hRo x h'
    · exact hyo
  have hsl : ((ctlR p).set (i - 40) y).length = (ctlR p).length := List.length_set ..
  obtain ⟨d1, d2, d3⟩ := dec_with k1 hy1 ((ctlR p).set (i - 40) y) hSo (by show ((ctlL p).length : Int) = (((ctlR p).set (i - 40) y).length : Nat); rw [hsl, hRl]) (by omega)
  have hck : chkB p.h.f p.h.t 58 (ctlR p) = true := setL_right _ _ _ _ _ hh.1 hh.2 hO (psE_58 (by omega)) (by decide) (by omega)
  have hcb := bend_chk hh.1 hh.2 (by omega) hi3 hck hb hy
  have hnx : ((p.h.setNx 58).setLn ((ctlL p).length : Nat)).nx = 58 := rfl
  rw [hs, dgE, if_pos d1, d2, d3, rhE, if_pos hnx, rcE, if_neg (by omega)]
  show (if chkB p.h.f p.h.t 58 ((ctlR p).set (i - 40) y) = true then _ else _) = _
  rw [hcb]; rfl
end Go.Proofs.YtbklpelikaapoaaGreatDoor

namespace Go.Proofs.YtbklpelikaapoaaGreatDoor
open Go.ChangeShapes Go.WideShapes Go.ChangeAt Go.RowKit Go.Deep
set_option linter.unusedVariables false
set_option linter.unusedSimpArgs false

/-- One of many options, in a slice of its own. -/
theorem Opts.one {w : World} {b off : Nat} {n cap : Nat} {L : List Ov} (h : Opts w (some ⟨b, off, Option.none⟩) n cap L) (k : Nat) (hk : k < n) : Opts w (some ⟨b, off + k * 19, Option.none⟩) 1 (cap - k) [L.getD k Ov.zero] := by
  have h1 := h.le
  have h2 := h.max
  refine ⟨rfl, by omega, by omega, (fun h => by cases h), fun j hj => ?_, fun o ho => ?_⟩
  · obtain rfl : j = 0 := by omega
    obtain ⟨b', off', he, hp⟩ := h.cell k hk
    obtain ⟨rfl, rfl⟩ : b = b' ∧ off = off' := by have := Option.some.inj he; simpa using this
    exact ⟨b, off + k * 19, rfl, by simpa using hp⟩
  · rw [List.mem_singleton.1 ho]; exact h.at k hk
end Go.Proofs.YtbklpelikaapoaaGreatDoor

namespace Go.Proofs.YtbklpelikaapoaaGreatDoor
open Go.ChangeShapes Go.WideShapes Go.ChangeAt Go.RowKit Go.Deep
set_option linter.unusedVariables false
set_option linter.unusedSimpArgs false

end Go.Proofs.YtbklpelikaapoaaGreatDoor

namespace Go.Proofs.YtbklpelikaapoaaGreatDoor
open Go.ChangeShapes Go.WideShapes Go.ChangeAt Go.RowKit Go.Deep
set_option linter.unusedVariables false
set_option linter.unusedSimpArgs false

end Go.Proofs.YtbklpelikaapoaaGreatDoor

namespace Go.Proofs.YtbklpelikaapoaaGreatDoor
open Go.ChangeShapes Go.WideShapes Go.ChangeAt Go.RowKit Go.Deep
set_option linter.unusedVariables false
set_option linter.unusedSimpArgs false

end Go.Proofs.YtbklpelikaapoaaGreatDoor

namespace Go.Proofs.YtbklpelikaapoaaGreatDoor
open Go.ChangeShapes Go.WideShapes Go.ChangeAt Go.RowKit Go.Deep
set_option linter.unusedVariables false
set_option linter.unusedSimpArgs false

end Go.Proofs.YtbklpelikaapoaaGreatDoor

namespace Go.Proofs.YtbklpelikaapoaaGreatDoor
open Go.ChangeShapes Go.WideShapes Go.ChangeAt Go.RowKit Go.Deep
set_option linter.unusedVariables false
set_option linter.unusedSimpArgs false

theorem own_txt {w : World} {b n : Nat} {a : Option Addr} {cap : Nat} {l : List Int} (h : w.ownsRow b 5 1 (.slice a n cap) n (u8s l)) (hn : l.length = n) (ho : Oct l) : Txt.ok w ⟨a, n, cap, l⟩ := by
  subst hn
  obtain ⟨a9, k9, e9, h9, _⟩ := owns_lies h
  cases e9
  exact ⟨h9, ho⟩
theorem eL_oct {w : World} {m : Mv} (h : m.ok w) : Oct (eL m.p) := by
  unfold eL
  split
  · intro x hx
    rcases List.mem_append.1 hx with e | e
    · rw [hdM] at e
      rcases List.mem_append.1 e with e | e
      · exact hdV_oct _ _ x e
      · split at e
        · exact h.ro.2 x e
        · cases e
    · exact encsL_oct (fun o ho => ⟨(h.o.ok o ho).ad, (h.o.ok o ho).oct⟩) x e
  · intro x hx; cases hx
theorem ctlE_bad {p : Pp} (h : ctlE p ≠ 0) : ctlO p = [] := by rw [ctlO, if_neg h]
theorem ctlE_1 {p : Pp} (h : eE p.m ≠ 0) : ctlE p = eE p.m := by rw [ctlE, if_neg h]
theorem ctlE_2 {p : Pp} (h : eE p.m = 0) : ctlE p = withE (p.h.setNx 58) (ctlL p) := by rw [ctlE, if_pos h]
theorem withL_take {h : Hd} (k : h.ok) {B : List Int} (e : withE h B = 0) : (withL h B).take 40 = hdrL (h.setLn B.length) ∧ (withL h B).drop 40 = B ∧ (withL h B).length = 40 + B.length := by
  have hl := hdrL_len (Hd.setLn_ok k (B.length : Nat))
  rw [withL, if_pos e]
  exact ⟨List.take_left' hl, List.drop_left' hl, by rw [List.length_append, hl]⟩
/-- A slice's part from a place on. -/
theorem lies_drop {w : World} {b off n cap : Nat} {l : List Int} (h : Lies .u8 w (some ⟨b, off, none⟩) n cap l) (k : Nat) (hk : k ≤ n) : Lies .u8 w (some ⟨b, off + k, none⟩) (n - k) (cap - k) (l.drop k) := by
  refine ⟨by rw [List.length_drop, h.1], by have := h.2.1; omega, by have := h.2.2.1; omega, (fun e => by cases e), fun j hj => ?_⟩
  obtain ⟨b', off', he, hc⟩ := h.2.2.2.2 (k + j) (by omega)
  injection he with he
  injection he with e1 e2
  subst e1; subst e2
  refine ⟨b, off + k, rfl, ?_⟩
  rw [Nat.add_assoc, hc]
  simp [List.getD_eq_getElem?_getD, List.getElem?_drop]
set_option maxRecDepth 100000 in
set_option maxHeartbeats 3200000 in
theorem controlBytes_any {B : Nat} (p : Pv) (w : World) (h : p.ok w) (hV : CV B w) (hn : p.m.on ≤ 1000) :
    Calls Tryz.prog 26 #[.agg p.cs] w fun e w' => (∃ v, e = .returned (.tuple #[v, .int .i64 (ctlE p.p)]) ∧ Hid (w'.ownsRow w.heap.size 5 1 v (ctlO p.p).length (u8s (ctlO p.p)))) ∧ Below w.heap.size w w' := by
  have HF := hid h.fit
  have R0 := hid (Row.new w 41 p.cs)
  have B0 := hid (balloc (Below.refl w.heap.size w) (.cells p.cs 41))
  have U0 := hid h.t
  have M1 := hid (h.m.below B0.out)
  have V1 := hid (hV.below B0.out)
  have HLO := hid (eL_oct h.m)
  have HN := hid hn
  have HEb : Hid (eE p.m.p ≠ 0 → ctlE p.p = eE p.m.p ∧ ctlO p.p = []) := hid (fun e => ⟨ctlE_1 (p := p.p) e, ctlE_bad (by rw [ctlE_1 (p := p.p) e]; exact e)⟩)
  obtain ⟨i0, hi, hz0, hz1, hz2⟩ := info_parts info5
  clear h hV hn
  go_enter Tryz.func26, Tryz.ntmps26
  go_upto_region 1 with fail
  generalize hw1 : w.alloc (.cells p.cs 41) = w1 at *
  clear hw1
  go_wp2_with (refine ldM m29 _ rfl rfl w.heap.size 38 rfl p.m HF.out.2 (Pv.rM HF.out R0.out) ?_)
  refine (cEncode_any p.m _ M1.out V1.out HN.out).mono ?_
  rintro e w2 ⟨⟨v2, rfl, hown⟩, hb⟩
  have R2 := hid (R0.out.below hb)
  have B2 := hid (bthen B0.out hb)
  clear hb R0 B0 M1 V1
  by_cases he : eE p.m.p = 0
  · have HCE : Hid (ctlE p.p = withE (p.h.setNx 58) (ctlL p.p)) := hid (ctlE_2 (p := p.p) he)
    have HC0 : Hid (putE 1 ([] : List Int).length [155, p.m.c] = 0 ∧ putL 1 [] [155, p.m.c] = [155, p.m.c]) := hid (put_code (eE_cod he))
    obtain ⟨a2, k2, rfl, _, _⟩ := owns_lies hown.out
    have O2 := hid hown.out
    rw [he]
    have hcl : (ctlL p.p).length = 4 + (eL p.m.p).length := ctlL_len p.p
    have HCL : Hid (ctlL p.p = [155, p.m.c] ++ ([0, 0] ++ eL p.m.p)) := rfl
    have HOC := hid (ctlL_oct (p := p.p) he HLO.out)
    have HLn := hid hcl
    clear hown HEb hcl
    generalize hel : eL p.m.p = E at *
    generalize hen : E.length = en at *
    have HEN := hid hen
    clear hel hen he
    have c38 : w2.cell? ⟨w.heap.size, 38, none⟩ = some (.int .i64 p.m.c) := (Pv.rM HF.out R2.out).at 0 _ p.m.at0
    have L3 := hid (lies_new .i64 w2 #[.int .i64 155, .int .i64 p.m.c] 3 [155, p.m.c] rfl (by simp))
    have b3 := balloc (Below.refl w2.heap.size w2) (.cells #[.int .i64 155, .int .i64 p.m.c] 3)
    have R3 := hid (R2.out.below b3)
    have B3 := hid (bthen B2.out b3)
    have O3 := hid (own_below O2.out b3)
    go_wp2_with fail
    generalize w2.alloc (.cells #[.int .i64 155, .int .i64 p.m.c] 3) = w3 at *
    refine (put_any none _ 0 0 2 2 1 [] [155, p.m.c] _ (Txt.none_ok _).1 L3.out (by omega) (by omega)).mono ?_
    rintro e w4 ⟨v4, rfl, hown, hb⟩
    rw [HC0.out.1]
    rw [HC0.out.2] at hown
    obtain ⟨a4, k4, rfl, _, _⟩ := owns_lies hown
    have O4 := hid hown
    have R4 := hid (R3.out.below hb)
    have B4 := hid (bthen B3.out hb)
    have O4' := hid (own_below O3.out hb)
    have c3 : w4.cell? ⟨w.heap.size, 3, none⟩ = some (.int .i64 p.h.nx) := (Pv.rH HF.out R4.out).at 3 _ p.h.at3
    have f3 := R4.out.frozen 3
    have R5 : Hid (Row (w4.setCell ⟨w.heap.size, 3, none⟩ (.int .i64 58)) w.heap.size 41 (p.setNx 58).cs) := by rw [Hid, ← Pv.put3 HF.out]; exact R4.out.set 3 _
    have B5 := hid (Below.setCell B4.out (p := ⟨w.heap.size, 3, none⟩) (Nat.le_refl _) (.int .i64 58))
    have O5 := hid (O4.out.kept (grownBy_setCell w4 w.heap.size 3 (.int .i64 58)) (.inr (own_row O4.out R4.out (by decide))))
    have O5' := hid (O4'.out.kept (grownBy_setCell w4 w.heap.size 3 (.int .i64 58)) (.inr (own_row O4'.out R4.out (by decide))))
    have hmk : ∀ w, (Instr.makeSlice 30 (.int .i64 2) (.int .i64 2)).run Tryz.prog w = .ok (.slice (some ⟨w.heap.size, 0, none⟩) 2 2) (w.alloc (.cells #[.int .u8 0, .int .u8 0] 5)) := fun _ => by kernel_rfl
    have HOCc : Hid (Oct [155, p.m.c]) := by intro x hx; exact HOC.out x (by rw [HCL.out]; exact List.mem_append_left _ hx)
    clear hb hown L3 b3 c38 R2 R3 B2 B3 O2 O3
    go_upto_region 6 with fail
    generalize w4.setCell ⟨w.heap.size, 3, none⟩ (.int .i64 58) = w5 at *
    clear c3 f3 R4 B4 O4 O4'
    refine wp_region_held_drew (S := fun w' => Hid (Row w' w.heap.size 41 (p.setNx 58).cs)) (by kernel_rfl) ?_ (fun hHeld => ?_)
    · exact R5
    replace B5 : Hid (Below w.heap.size w w5.drew) := hid (B5.out.trans ⟨rfl, rfl, rfl, Nat.le_refl _, fun _ _ => rfl⟩)
    replace R5 : Hid (Row w5.drew w.heap.size 41 (p.setNx 58).cs) := R5
    replace O5 : Hid (w5.drew.ownsRow w3.heap.size 5 1 (.slice a4 2 k4) 2 (u8s [155, p.m.c])) := O5
    replace O5' : Hid (w5.drew.ownsRow w1.heap.size 5 1 (.slice a2 en k2) en (u8s E)) := O5'
    generalize w5.drew = w6 at *
    refine wpAnyH_take (i := 0) (oi := _) (v := ?vap60) rfl (by kernel_rfl) (by kernel_rfl) (by kernel_rfl) (fun _ _ _ h => h) (Or.inl ⟨by rfl, ?hyap60⟩) (by assumption) ?restap60
    case hyap60 => (intro w hSw; (try dsimp only at hSw); go_split_ands; go_simp; try (with_reducible rfl))
    try simp only [List.getElem_toArray, List.getElem_cons_zero, List.getElem_cons_succ, Act.put, List.setIfInBounds_toArray, List.set_cons_zero, List.set_cons_succ]
    refine wpAnyH_take (i := 1) (oi := _) (v := .agg (p.h.setNx 58).cs) rfl (by kernel_rfl) (by kernel_rfl) (by kernel_rfl) (fun _ _ _ h => h) (yldHoH (by rfl) _ rfl w.heap.size 0 rfl (p.h.setNx 58) (Hd.setNx_ok HF.out.1 58) (fun w2 h => Pv.rH HF.out (p := p.setNx 58) h.out)) (by assumption) ?_
    try simp only [List.getElem_toArray, List.getElem_cons_zero, List.getElem_cons_succ, Act.put, List.setIfInBounds_toArray, List.set_cons_zero, List.set_cons_succ]
    refine wpAnyH_take (i := 2) (oi := _) (v := ?vbp62) rfl (by kernel_rfl) (by kernel_rfl) (by kernel_rfl) (fun _ _ _ h => h) (Or.inl ⟨by rfl, ?hybp62⟩) (by assumption) ?restbp62
    case hybp62 => (intro w hSw; (try dsimp only at hSw); go_split_ands; go_simp; try (with_reducible rfl))
    try simp only [List.getElem_toArray, List.getElem_cons_zero, List.getElem_cons_succ, Act.put, List.setIfInBounds_toArray, List.set_cons_zero, List.set_cons_succ]
    refine wpAnyH_take (i := 4) (oi := _) (v := ?vbp64) rfl (by kernel_rfl) (by kernel_rfl) (by kernel_rfl) (fun _ _ _ h => h) (Or.inl ⟨by rfl, ?hybp64⟩) (by assumption) ?restbp64
    case hybp64 => (intro w hSw; (try dsimp only at hSw); go_split_ands; go_simp; try (with_reducible rfl))
    try simp only [List.getElem_toArray, List.getElem_cons_zero, List.getElem_cons_succ, Act.put, List.setIfInBounds_toArray, List.set_cons_zero, List.set_cons_succ]
    refine wpAnyH_ready (rs := [3]) (by kernel_rfl) (by simp) ?_
    refine AllReadyH.cons (o := _) rfl (fun K hK => ?_) AllReadyH.nil
    go_simp
    have LZ := hid (lies_new .u8 w6 #[.int .u8 0, .int .u8 0] 5 [0, 0] rfl (by simp))
    have hb := balloc (Below.refl w6.heap.size w6) (.cells #[.int .u8 0, .int .u8 0] 5)
    replace R5 := hid (R5.out.below hb)
    replace B5 := hid (bthen B5.out hb)
    replace O5 := hid (own_below O5.out hb)
    replace O5' := hid (own_below O5'.out hb)
    clear hb
    refine hK.out _ _ R5 (fun hHeld => ?_)
    clear hK K
    try simp only [List.getElem_toArray, List.getElem_cons_zero, List.getElem_cons_succ, Act.put, List.setIfInBounds_toArray, List.set_cons_zero, List.set_cons_succ]
    generalize w6.alloc (.cells #[.int .u8 0, .int .u8 0] 5) = w7 at *
    generalize w6.heap.size = gz at *
    have HT := hid (texts_lit w7 [⟨a4, 2, k4, [155, p.m.c]⟩, ⟨some ⟨gz, 0, none⟩, 2, 2, [0, 0]⟩, ⟨a2, en, k2, E⟩] (by
      intro t ht
      simp at ht
      rcases ht with rfl | rfl | rfl
      · exact own_txt O5.out rfl HOCc.out
      · exact ⟨LZ.out, by intro x hx; simp at hx; omega⟩
      · exact own_txt O5'.out HEN.out HLO.out) (by simp))
    refine wpAnyH_ready (rs := [5]) (by kernel_rfl) (by simp) ?_
    refine AllReadyH.cons (o := _) rfl (fun K hK => ?_) AllReadyH.nil
    go_simp
    have hb := balloc (Below.refl w7.heap.size w7) (.cells #[Value.slice a4 2 k4, .slice (some ⟨gz, 0, none⟩) 2 2, .slice a2 en k2] 30)
    replace R5 := hid (R5.out.below hb)
    replace B5 := hid (bthen B5.out hb)
    replace HT : Hid (Texts (w7.alloc (.cells #[Value.slice a4 2 k4, .slice (some ⟨gz, 0, none⟩) 2 2, .slice a2 en k2] 30)) (some ⟨w7.heap.size, 0, none⟩) 3 3 [⟨a4, 2, k4, [155, p.m.c]⟩, ⟨some ⟨gz, 0, none⟩, 2, 2, [0, 0]⟩, ⟨a2, en, k2, E⟩]) := HT
    clear hb O5 O5' LZ
    refine hK.out _ _ R5 (fun hHeld => ?_)
    clear hK K
    try simp only [List.getElem_toArray, List.getElem_cons_zero, List.getElem_cons_succ, Act.put, List.setIfInBounds_toArray, List.set_cons_zero, List.set_cons_succ]
    generalize w7.alloc (.cells #[Value.slice a4 2 k4, .slice (some ⟨gz, 0, none⟩) 2 2, .slice a2 en k2] 30) = w8 at *
    generalize w7.heap.size = g7 at *
    refine wpAnyH_ready (rs := [6]) (by kernel_rfl) (by simp) ?_
    refine AllReadyH.cons (o := _) rfl (fun K hK => ?_) AllReadyH.nil
    go_simp
    refine (hdrWith_any (p.h.setNx 58) (Hd.setNx_ok HF.out.1 58) _ 3 3 [⟨a4, 2, k4, [155, p.m.c]⟩, ⟨some ⟨gz, 0, none⟩, 2, 2, [0, 0]⟩, ⟨a2, en, k2, E⟩] _ HT.out).mono ?_
    rintro e w9 ⟨v9, rfl, hown, hb⟩
    have hbb : bytes [⟨a4, 2, k4, [155, p.m.c]⟩, ⟨some ⟨gz, 0, none⟩, 2, 2, [0, 0]⟩, ⟨a2, en, k2, E⟩] = ctlL p.p := by
      rw [HCL.out]; simp [bytes]
    rw [hbb] at hown ⊢
    rw [← HCE.out]
    replace R5 := hid (R5.out.below hb)
    have O9 := hid (own_mono hown B5.out.size)
    replace B5 := hid (bthen B5.out hb)
    clear hb hbb hown HT
    go_wp2_with fail
    refine hK.out _ _ R5 (fun hHeld => ?_)
    clear hK K
    try simp only [List.getElem_toArray, List.getElem_cons_zero, List.getElem_cons_succ, Act.put, List.setIfInBounds_toArray, List.set_cons_zero, List.set_cons_succ]
    refine wpAnyH_take (i := 7) (oi := _) (v := ?vcp67) rfl (by kernel_rfl) (by kernel_rfl) (by kernel_rfl) (fun _ _ _ h => h) (Or.inl ⟨by rfl, ?hycp67⟩) (by assumption) ?restcp67
    case hycp67 => (intro w hSw; (try dsimp only at hSw); go_split_ands; go_simp; try (with_reducible rfl))
    try simp only [List.getElem_toArray, List.getElem_cons_zero, List.getElem_cons_succ, Act.put, List.setIfInBounds_toArray, List.set_cons_zero, List.set_cons_succ]
    refine wpAnyH_take (i := 8) (oi := _) (v := ?vcp68) rfl (by kernel_rfl) (by kernel_rfl) (by kernel_rfl) (fun _ _ _ h => h) (Or.inl ⟨by rfl, ?hycp68⟩) (by assumption) ?restcp68
    case hycp68 => (intro w hSw; (try dsimp only at hSw); go_split_ands; go_simp; try (with_reducible rfl))
    try simp only [List.getElem_toArray, List.getElem_cons_zero, List.getElem_cons_succ, Act.put, List.setIfInBounds_toArray, List.set_cons_zero, List.set_cons_succ]
    refine wpAnyH_take (i := 9) (oi := _) (v := ?vcp69) rfl (by kernel_rfl) (by kernel_rfl) (by kernel_rfl) (fun _ _ _ h => h) (Or.inl ⟨by rfl, ?hycp69⟩) (by assumption) ?restcp69
    case hycp69 => (intro w hSw; (try dsimp only at hSw); go_split_ands; go_simp; try (with_reducible rfl))
    try simp only [List.getElem_toArray, List.getElem_cons_zero, List.getElem_cons_succ, Act.put, List.setIfInBounds_toArray, List.set_cons_zero, List.set_cons_succ]
    refine wpAnyH_take (i := 10) (oi := _) (v := ?vcp610) rfl (by kernel_rfl) (by kernel_rfl) (by kernel_rfl) (fun _ _ _ h => h) (Or.inl ⟨by rfl, ?hycp610⟩) (by assumption) ?restcp610
    case hycp610 => (intro w hSw; (try dsimp only at hSw); go_split_ands; go_simp; try (with_reducible rfl))
    try simp only [List.getElem_toArray, List.getElem_cons_zero, List.getElem_cons_succ, Act.put, List.setIfInBounds_toArray, List.set_cons_zero, List.set_cons_succ]
    refine wpAnyH_take (i := 11) (oi := _) (v := ?vcp611) rfl (by kernel_rfl) (by kernel_rfl) (by kernel_rfl) (fun _ _ _ h => h) (Or.inl ⟨by rfl, ?hycp611⟩) (by assumption) ?restcp611
    case hycp611 => (intro w hSw; (try dsimp only at hSw); go_split_ands; go_simp; try (with_reducible rfl))
    try simp only [List.getElem_toArray, List.getElem_cons_zero, List.getElem_cons_succ, Act.put, List.setIfInBounds_toArray, List.set_cons_zero, List.set_cons_succ]
    refine wpAnyH_done (by kernel_rfl) ?_ _
    generalize hcv : ctlE p.p = CE at *
    have HCV := hid hcv
    clear hcv
    by_cases hce : CE = 0
    · subst hce
      obtain ⟨t1, t2, t3⟩ := withL_take (Hd.setNx_ok HF.out.1 58) HCE.out.symm
      obtain ⟨_, h1240⟩ := withE_0 HCE.out.symm
      have HCO : Hid (ctlO p.p = (withL (p.h.setNx 58) (ctlL p.p)).take 40 ++ ctlR p.p) := hid (by rw [ctlO, if_pos HCV.out, t1]; rfl)
      have HT2 := hid t2
      have hln := HLn.out
      clear t1 t2
      generalize withL (p.h.setNx 58) (ctlL p.p) = WL at *
      generalize hN : WL.length = N at *
      have HNN := hid hN
      clear hN
      rcases O9.out.2 with ⟨_, h0⟩ | ⟨g9, cap, cur, rfl, _, _, hnc, hcm, _⟩
      · exact absurd h0 (by omega)
      have hcm' : cap ≤ 9223372036854775807 := hcm
      have L9 : Hid (Lies .u8 w9 (some ⟨g9, 40, none⟩) (N - 40) (cap - 40) (ctlL p.p)) := by
        have o9 := O9.out
        rw [← HNN.out] at o9 ⊢
        obtain ⟨a9, k9, e9, h9, _⟩ := owns_lies o9
        cases e9
        have := lies_drop h9 40 (by rw [HNN.out]; omega)
        rw [HT2.out, Nat.zero_add] at this
        exact this
      have HPS : Hid (psE 58 (ctlL p.p).length = 0) := hid (psE_58 (by omega))
      have HSL : Hid (setL p.h.f p.h.t 58 (ctlL p.p) 2 = ctlR p.p) := rfl
      have HRL : Hid ((ctlR p.p).length = N - 40) := hid (by rw [ctlR_len]; omega)
      have HRO : Hid (Oct (ctlR p.p)) := hid (setL_oct _ _ _ _ _ HOC.out)
      have n1 : (40 : Int) ≤ (N : Int) := by omega
      have n3 : 44 ≤ N ∧ N ≤ 1280 := by omega
      have n4 : ¬ cap = 40 := by omega
      have HNL : Hid (N = 40 + (ctlL p.p).length) := hid t3
      clear HCE hcm t3 hln h1240
      go_upto_region 9 with fail
      refine wp_region_held_drew (S := fun w' => Hid (Row w' w.heap.size 41 (p.setNx 58).cs)) (by kernel_rfl) ?_ (fun hHeld => ?_)
      · exact R5
      replace B5 : Hid (Below w.heap.size w w9.drew) := hid (B5.out.trans ⟨rfl, rfl, rfl, Nat.le_refl _, fun _ _ => rfl⟩)
      replace R5 : Hid (Row w9.drew w.heap.size 41 (p.setNx 58).cs) := R5
      replace O9 : Hid (w9.drew.ownsRow w.heap.size 5 1 (.slice (some ⟨g9, 0, none⟩) N cap) N (u8s WL)) := O9
      replace L9 : Hid (Lies .u8 w9.drew (some ⟨g9, 40, none⟩) (N - 40) (cap - 40) (ctlL p.p)) := L9
      generalize w9.drew = w10 at *
      refine wpAnyH_take (i := 0) (oi := _) (v := ?vap90) rfl (by kernel_rfl) (by kernel_rfl) (by kernel_rfl) (fun _ _ _ h => h) (Or.inl ⟨by rfl, ?hyap90⟩) (by assumption) ?restap90
      case hyap90 => (intro w hSw; (try dsimp only at hSw); go_split_ands; go_simp; try (with_reducible rfl))
      try simp only [List.getElem_toArray, List.getElem_cons_zero, List.getElem_cons_succ, Act.put, List.setIfInBounds_toArray, List.set_cons_zero, List.set_cons_succ]
      refine wpAnyH_take (i := 1) (oi := _) (v := ?vap91) rfl (by kernel_rfl) (by kernel_rfl) (by kernel_rfl) (fun _ _ _ h => h) (Or.inl ⟨by rfl, ?hyap91⟩) (by assumption) ?restap91
      case hyap91 => (intro w hSw; (try dsimp only at hSw); go_split_ands; go_simp; try (with_reducible rfl))
      try simp only [List.getElem_toArray, List.getElem_cons_zero, List.getElem_cons_succ, Act.put, List.setIfInBounds_toArray, List.set_cons_zero, List.set_cons_succ]
      refine wpAnyH_take (i := 2) (oi := _) (v := .agg (arr p.h.f)) rfl (by kernel_rfl) (by kernel_rfl) (by kernel_rfl) (fun _ _ _ h => h) (yields_ldo (by rfl) 33 _ rfl w.heap.size 5 rfl (arr p.h.f) _ (fun w2 h => by have := Hd.pF (Pv.rH HF.out (p := p.setNx 58) h.out); rwa [Nat.zero_add] at this) Tryz.underlying33 rfl (by rw [arr_size, HF.out.1.1.1]; exact sizeAd)) (by assumption) ?_
      try simp only [List.getElem_toArray, List.getElem_cons_zero, List.getElem_cons_succ, Act.put, List.setIfInBounds_toArray, List.set_cons_zero, List.set_cons_succ]
      refine wpAnyH_take (i := 3) (oi := _) (v := ?vbp93) rfl (by kernel_rfl) (by kernel_rfl) (by kernel_rfl) (fun _ _ _ h => h) (Or.inl ⟨by rfl, ?hybp93⟩) (by assumption) ?restbp93
      case hybp93 => (intro w hSw; (try dsimp only at hSw); go_split_ands; go_simp; try (with_reducible rfl))
      try simp only [List.getElem_toArray, List.getElem_cons_zero, List.getElem_cons_succ, Act.put, List.setIfInBounds_toArray, List.set_cons_zero, List.set_cons_succ]
      refine wpAnyH_take (i := 4) (oi := _) (v := ?vbp94) rfl (by kernel_rfl) (by kernel_rfl) (by kernel_rfl) (fun _ _ _ h => h) (Or.inl ⟨by rfl, ?hybp94⟩) (by assumption) ?restbp94
      case hybp94 => (intro w hSw; (try dsimp only at hSw); go_split_ands; go_simp; try (with_reducible rfl))
      try simp only [List.getElem_toArray, List.getElem_cons_zero, List.getElem_cons_succ, Act.put, List.setIfInBounds_toArray, List.set_cons_zero, List.set_cons_succ]
      refine wpAnyH_take (i := 5) (oi := _) (v := .agg (arr p.h.t)) rfl (by kernel_rfl) (by kernel_rfl) (by kernel_rfl) (fun _ _ _ h => h) (yields_ldo (by rfl) 33 _ rfl w.heap.size 21 rfl (arr p.h.t) _ (fun w2 h => by have := Hd.pT (h := (p.setNx 58).h) HF.out.1 (Pv.rH HF.out (p := p.setNx 58) h.out); rwa [Nat.zero_add] at this) Tryz.underlying33 rfl (by rw [arr_size, HF.out.1.2.1]; exact sizeAd)) (by assumption) ?_
      try simp only [List.getElem_toArray, List.getElem_cons_zero, List.getElem_cons_succ, Act.put, List.setIfInBounds_toArray, List.set_cons_zero, List.set_cons_succ]
      refine wpAnyH_take (i := 6) (oi := _) (v := ?vcp96) rfl (by kernel_rfl) (by kernel_rfl) (by kernel_rfl) (fun _ _ _ h => h) (Or.inl ⟨by rfl, ?hycp96⟩) (by assumption) ?restcp96
      case hycp96 => (intro w hSw; (try dsimp only at hSw); go_split_ands; go_simp; try (with_reducible rfl))
      try simp only [List.getElem_toArray, List.getElem_cons_zero, List.getElem_cons_succ, Act.put, List.setIfInBounds_toArray, List.set_cons_zero, List.set_cons_succ]
      refine wpAnyH_take (i := 7) (oi := _) (v := ?vcp97) rfl (by kernel_rfl) (by kernel_rfl) (by kernel_rfl) (fun _ _ _ h => h) (Or.inl ⟨by rfl, ?hycp97⟩) (by assumption) ?restcp97
      case hycp97 => (intro w hSw; (try dsimp only at hSw); go_split_ands; go_simp; try (with_reducible rfl))
      try simp only [List.getElem_toArray, List.getElem_cons_zero, List.getElem_cons_succ, Act.put, List.setIfInBounds_toArray, List.set_cons_zero, List.set_cons_succ]
      refine wpAnyH_ready (rs := [8]) (by kernel_rfl) (by simp) ?_
      refine AllReadyH.cons (o := _) rfl (fun K hK => ?_) AllReadyH.nil
      go_simp
      refine (set_ok p.h.f p.h.t 58 2 (some ⟨g9, 40, none⟩) (N - 40) (cap - 40) (ctlL p.p) _ HF.out.1.1 HF.out.1.2 L9.out HOC.out HPS.out ⟨by decide, by have := n3.1; omega⟩).mono ?_
      rintro e w11 ⟨v11, rfl, hown, hb⟩
      obtain ⟨i11, ⟨a11, k11, rfl⟩⟩ : ∃ _ : True, ∃ a k, v11 = .slice a (N - 40) k := ⟨trivial, owns_len hown⟩
      have O11 := hid hown
      replace R5 := hid (R5.out.below hb)
      replace O9 := hid (own_below O9.out hb)
      replace B5 := hid (bthen B5.out hb)
      clear hb hown
      go_wp2_with fail
      refine hK.out _ _ R5 (fun hHeld => ?_)
      clear hK K
      try simp only [List.getElem_toArray, List.getElem_cons_zero, List.getElem_cons_succ, Act.put, List.setIfInBounds_toArray, List.set_cons_zero, List.set_cons_succ]
      refine wpAnyH_take (i := 9) (oi := _) (v := ?vdp99) rfl (by kernel_rfl) (by kernel_rfl) (by kernel_rfl) (fun _ _ _ h => h) (Or.inl ⟨by rfl, ?hydp99⟩) (by assumption) ?restdp99
      case hydp99 => (intro w hSw; (try dsimp only at hSw); go_split_ands; go_simp; try (with_reducible rfl))
      try simp only [List.getElem_toArray, List.getElem_cons_zero, List.getElem_cons_succ, Act.put, List.setIfInBounds_toArray, List.set_cons_zero, List.set_cons_succ]
      refine wpAnyH_take (i := 10) (oi := _) (v := ?vdp910) rfl (by kernel_rfl) (by kernel_rfl) (by kernel_rfl) (fun _ _ _ h => h) (Or.inl ⟨by rfl, ?hydp910⟩) (by assumption) ?restdp910
      case hydp910 => (intro w hSw; (try dsimp only at hSw); go_split_ands; go_simp; try (with_reducible rfl))
      try simp only [List.getElem_toArray, List.getElem_cons_zero, List.getElem_cons_succ, Act.put, List.setIfInBounds_toArray, List.set_cons_zero, List.set_cons_succ]
      refine wpAnyH_take (i := 11) (oi := _) (v := ?vdp911) rfl (by kernel_rfl) (by kernel_rfl) (by kernel_rfl) (fun _ _ _ h => h) (Or.inl ⟨by rfl, ?hydp911⟩) (by assumption) ?restdp911
      case hydp911 => (intro w hSw; (try dsimp only at hSw); go_split_ands; go_simp; try (with_reducible rfl))
      try simp only [List.getElem_toArray, List.getElem_cons_zero, List.getElem_cons_succ, Act.put, List.setIfInBounds_toArray, List.set_cons_zero, List.set_cons_succ]
      refine wpAnyH_take (i := 12) (oi := _) (v := ?vdp912) rfl (by kernel_rfl) (by kernel_rfl) (by kernel_rfl) (fun _ _ _ h => h) (Or.inl ⟨by rfl, ?hydp912⟩) (by assumption) ?restdp912
      case hydp912 => (intro w hSw; (try dsimp only at hSw); go_split_ands; go_simp; try (with_reducible rfl))
      try simp only [List.getElem_toArray, List.getElem_cons_zero, List.getElem_cons_succ, Act.put, List.setIfInBounds_toArray, List.set_cons_zero, List.set_cons_succ]
      refine wpAnyH_take (i := 13) (oi := _) (v := ?vdp913) rfl (by kernel_rfl) (by kernel_rfl) (by kernel_rfl) (fun _ _ _ h => h) (Or.inl ⟨by rfl, ?hydp913⟩) (by assumption) ?restdp913
      case hydp913 => (intro w hSw; (try dsimp only at hSw); go_split_ands; go_simp; try (with_reducible rfl))
      try simp only [List.getElem_toArray, List.getElem_cons_zero, List.getElem_cons_succ, Act.put, List.setIfInBounds_toArray, List.set_cons_zero, List.set_cons_succ]
      refine wpAnyH_done (by kernel_rfl) ?_ _
      have T11 : Hid (Txt.ok w11 ⟨a11, N - 40, k11, ctlR p.p⟩) := hid (own_txt O11.out HRL.out HRO.out)
      go_wp2_with (at_builtin; refine wpList_append_own_any _ rfl _ _ 30 rfl w.heap.size 5 i0 (.int .u8 0) 1 1 Tryz.underlying30 hi hz0 hz1 hz2 rfl (by decide) _ _ _ rfl (own_pre O9.out 40 (by omega)) a11 (N - 40) k11 (u8s (ctlR p.p)) rfl ?c1 ?c2 ?c3 (ints_oneCell8 _ _) ?c4 ?c5 ?c6 ?_)
      case c1 => simp [u8s]; exact HRL.out
      case c2 => exact T11.out.1.isNil
      case c3 => exact T11.out.1.cells
      case c4 => unfold maxLen; omega
      case c5 => omega
      case c6 => exact B5.out.size
      intro v12 w12 hown12 hg12
      have hfin : 40 + (N - 40) = (ctlO p.p).length := by
        rw [HCO.out, List.length_append, List.length_take, HNN.out, HRL.out]; omega
      have O12 : Hid (w12.ownsRow w.heap.size 5 1 v12 (ctlO p.p).length (u8s (ctlO p.p))) := by
        rw [← hfin, HCO.out]
        have e : u8s (List.take 40 WL ++ ctlR p.p) = List.take 40 (u8s WL) ++ u8s (ctlR p.p) := by simp [u8s, List.map_take]
        rw [e]; exact hown12
      have B12 := hid (B5.out.trans hg12)
      clear hown12 hg12 hfin
      go_wp2_with fail
      go_ret2
      exact ⟨⟨_, by rw [HCV.out]; rfl, O12⟩, B12.out⟩
    · have hcq : (CE != 0) = true := bne_iff_ne.2 hce
      have HCO : Hid (ctlO p.p = []) := hid (ctlE_bad (by rw [HCV.out]; exact hce))
      clear hce HCE
      go_wp2_with fail
      go_ret2
      exact ⟨⟨.slice none 0 0, by rw [HCV.out]; rfl, by rw [HCO.out]; exact World.ownsRow_nil _ _ _ _⟩, B5.out⟩
  · obtain ⟨e1, e2⟩ := HEb.out he
    have H1 := hid e1
    have H2 := hid e2
    have hq : (eE p.m.p != 0) = true := bne_iff_ne.2 he
    clear e1 e2 hown he HEb
    generalize eE p.m.p = E at *
    go_wp2_with fail
    go_ret2
    exact ⟨⟨.slice none 0 0, by rw [H1.out]; rfl, by rw [H2.out]; exact World.ownsRow_nil _ _ _ _⟩, B2.out⟩
def pgO (p : Pp) : List Int := if p.d = true then datO p else ctlO p
theorem pgO_eq (p : Pp) : pgO p = pgL p := by
  unfold pgO pgL pgE
  cases p.d
  · simp [ctlO]
  · simp [datO]
set_option maxRecDepth 100000 in
set_option maxHeartbeats 1600000 in
theorem dgEncode_any {B : Nat} (p : Pv) (w : World) (h : p.ok w) (hV : CV B w) (hn : p.m.on ≤ 1000) :
    Calls Tryz.prog 8 #[.agg p.cs] w fun e w' => (∃ v, e = .returned (.tuple #[v, .int .i64 (pgE p.p)]) ∧ Hid (w'.ownsRow w.heap.size 5 1 v (pgL p.p).length (u8s (pgL p.p)))) ∧ Below w.heap.size w w' := by
  have HF := hid h.fit
  have R0 := hid (Row.new w 41 p.cs)
  have B0 := hid (balloc (Below.refl w.heap.size w) (.cells p.cs 41))
  have U := hid (h.below B0.out)
  have V := hid (hV.below B0.out)
  have HN := hid hn
  have c37 := Pv.rD HF.out R0.out
  have HGL := hid (pgO_eq p.p)
  cases hd : p.d
  · rw [hd] at c37
    have HE : Hid (pgE p.p = ctlE p.p) := hid (by rw [pgE, if_neg (by show ¬ p.d = true; rw [hd]; simp)])
    have HL : Hid (pgL p.p = ctlO p.p) := hid (by rw [← HGL.out, pgO, if_neg (by show ¬ p.d = true; rw [hd]; simp)])
    rw [HE.out, HL.out]
    clear h hV hn hd
    go_enter Tryz.func8, Tryz.ntmps8
    go_upto_region 1 with fail
    generalize w.alloc (.cells p.cs 41) = w1 at *
    go_wp2_with (refine ldP ptP _ rfl rfl w.heap.size rfl p HF.out 41 R0.out ?_)
    refine (controlBytes_any p _ U.out V.out HN.out).mono ?_
    rintro e w2 ⟨⟨v, rfl, ho⟩, hb⟩
    have O2 := hid (own_mono ho.out B0.out.size)
    have B2 := hid (bthen B0.out hb)
    clear ho hb
    go_wp2_with fail
    go_ret2
    exact ⟨⟨_, rfl, O2⟩, B2.out⟩
  · rw [hd] at c37
    have HE : Hid (pgE p.p = datE p.p) := hid (by rw [pgE, if_pos (by exact hd)])
    have HL : Hid (pgL p.p = datO p.p) := hid (by rw [← HGL.out, pgO, if_pos (by exact hd)])
    rw [HE.out, HL.out]
    clear h hV hn hd
    go_enter Tryz.func8, Tryz.ntmps8
    go_upto_region 1 with fail
    generalize w.alloc (.cells p.cs 41) = w1 at *
    go_wp2_with (refine ldP ptP _ rfl rfl w.heap.size rfl p HF.out 41 R0.out ?_)
    refine (dataBytes_any p _ U.out).mono ?_
    rintro e w2 ⟨⟨v, rfl, ho⟩, hb⟩
    have O2 := hid (own_mono ho.out B0.out.size)
    have B2 := hid (bthen B0.out hb)
    clear ho hb
    go_wp2_with fail
    go_ret2
    exact ⟨⟨_, rfl, O2⟩, B2.out⟩
end Go.Proofs.YtbklpelikaapoaaGreatDoor

namespace Go.Proofs.YtbklpelikaapoaaGreatDoor
open Go.ChangeShapes Go.WideShapes Go.ChangeAt Go.RowKit Go.Deep
set_option linter.unusedVariables false
set_option linter.unusedSimpArgs false

set_option maxRecDepth 100000 in
set_option maxHeartbeats 3200000 in
theorem rdData4 (h : Hd) (t : Txt) (k : h.ok) (w : World) (ht : t.ok w) (hs : t.n ≤ 100000) (h1 : dcE t.l = 0) (h2 : dcN t.l = 17) (h3 : ¬ (dcR t.l).length < 4) :
    Calls Tryz.prog 70 #[.agg (rdc h t)] w (RdOk w (rdtE t.l) (rdtP h t.l)) := by
  have hz := zpkP
  have hzo := zho
  have HK := hid k
  have R1 := hid (Row.new (w.alloc (.cells (rdc h t) 91)) 41 Pv.zero.cs)
  have S1 := hid ((Row.new w 91 (rdc h t)).alloc (.cells Pv.zero.cs 41))
  have B1 := hid (balloc (balloc (Below.refl w.heap.size w) (.cells (rdc h t) 91)) (.cells Pv.zero.cs 41))
  have hs1 : (w.alloc (.cells (rdc h t) 91)).heap.size = w.heap.size + 1 := World.size_alloc ..
  rw [hs1] at R1
  have T1 := hid (ht.below B1.out)
  have HG : Hid (w.heap.size ≤ w.heap.size + 1) := hid (Nat.le_succ _)
  have c37 := rdc_t k S1.out
  have HDO := hid (dcR_oct ht.2)
  have HDL := hid (dcR_len t.l)
  have HTL := hid ht.1.1
  have HSm := hid hs
  have HE : Hid (rdtE t.l = 0) := hid (rdtE_4 h1 h2 h3)
  have HP : Hid (rdtP h t.l = ⟨h, true, Pm.zero, dcO t.l, numOf ((dcR t.l).take 4), (dcR t.l).drop 4⟩) := hid (rdtP_ok HE.out)
  have HE0 := hid h1
  have HN0 := hid h2
  have H4 := hid h3
  clear h1 h2 h3
  clear k ht hs
  go_enter Tryz.func70, Tryz.ntmps70
  go_upto_region 1 with fail
  generalize (w.alloc (.cells (rdc h t) 91)).alloc (.cells Pv.zero.cs 41) = w1 at *
  clear hs1
  generalize hg1 : w.heap.size + 1 = g1 at *
  have HG1 := hid hg1
  clear hg1
  go_wp2_with fail
  refine (hopDecode_any t.a t.n t.cap t.l _ T1.out.1 T1.out.2 HSm.out).mono ?_
  rintro e w2 ⟨v2, rfl, hown, hb⟩
  have R2 := hid (R1.out.below hb)
  have S2 := hid (S1.out.below hb)
  have B2 := hid (bthen B1.out hb)
  have O2 := hid hown
  clear hb hown R1 S1 T1 c37 B1
  rw [HE0.out, HN0.out]
  generalize dcO t.l = O at *
  have Z3 := hid (layO_new w2 39 O)
  have b3 := layO_below w2 39 O
  have R3 := hid (R2.out.below b3)
  have S3 := hid (S2.out.below b3)
  have B3 := hid (bthen B2.out b3)
  have O3 := hid (own_below O2.out b3)
  clear b3
  go_upto_region 2 with (refine stO oh _ _ rfl rfl w2.heap.size O rfl rfl 39 Ho.zero (Row.new w2 39 _) ?_)
  generalize (w2.alloc (.cells Ho.zero.cs 39)).setRow w2.heap.size O.cs = w3 at *
  have HG3 : Hid (w.heap.size + 1 < w2.heap.size) := hid (by rw [HG1.out]; exact R2.out.lt)
  generalize w2.heap.size = g3 at *
  clear R2 S2 B2 O2
  obtain ⟨a3, k3, rfl, _, _⟩ := owns_lies O3.out
  have L3 : Hid (Lies .u8 w3 a3 (dcR t.l).length k3 (dcR t.l)) := by
    obtain ⟨a9, k9, e9, h9, _⟩ := owns_lies O3.out
    cases e9
    exact h9
  clear O3
  generalize dcR t.l = X at *
  generalize hxn : X.length = xn at *
  have HXN := hid hxn
  clear hxn
  go_wp2_with fail
  refine (over_any a3 xn k3 X _ L3.out HDO.out (by have := HDL.out; have := HTL.out; have := HSm.out; omega)).mono ?_
  rintro e w4 ⟨c, a4, k4, rfl, hc, hb, hc1, hc2⟩
  have R4 := hid (R3.out.below hb)
  have S4 := hid (S3.out.below hb)
  have Z4 := hid (Z3.out.below hb)
  have B4 := hid (bthen B3.out hb)
  have C4 := hid hc
  have HC := hid hc1
  have HR3 := hid R3.out.lt
  have HS3 := hid S3.out.lt
  have HZ3 := hid Z3.out.lt
  have HW3 := hid B3.out.size
  clear hc hb hc1 hc2 R3 S3 Z3 B3 L3
  go_wp2_with fail
  refine (take_ok _ c a4 xn k4 0 X 4 4 C4.out rfl (by decide) (by have := H4.out; omega)).mono ?_
  rintro e w5 ⟨rfl, hc, hg, hz5⟩
  rw [List.drop_zero]
  rw [Nat.zero_add] at hc
  have R5 := hid (R4.out.kept hg (fun e => absurd (Option.some.inj e) (by have := HC.out; have := HR3.out; omega)))
  have S5 := hid (S4.out.kept hg (fun e => absurd (Option.some.inj e) (by have := HC.out; have := HS3.out; omega)))
  have Z5 := hid (Z4.out.kept hg (fun e => absurd (Option.some.inj e) (by have := HC.out; have := HZ3.out; omega)))
  have B5 := hid (bgrown B4.out hg (by have := HC.out; have := HW3.out; omega))
  have C5 := hid hc
  clear hc hg hz5 R4 S4 Z4 B4 C4
  go_wp2_with fail
  refine (err_any _ c 0 C5.out.cell2).mono ?_
  rintro e w5 ⟨rfl, rfl⟩
  go_upto_region 11 with fail
  as_aux_lemma =>
    refine wp_region_held_drew (S := fun w' => Hid (Row w' w.heap.size 91 (rdc h t)) ∧ Hid (Row w' g3 39 O.cs)) (by kernel_rfl) ?_ (fun hHeld => ?_)
    · exact ⟨S5, Z5⟩
    replace B5 : Hid (Below w.heap.size w w5.drew) := hid (B5.out.trans ⟨rfl, rfl, rfl, Nat.le_refl _, fun _ _ => rfl⟩)
    replace R5 : Hid (Row w5.drew g1 41 Pv.zero.cs) := R5
    replace S5 : Hid (Row w5.drew w.heap.size 91 (rdc h t)) := S5
    replace Z5 : Hid (Row w5.drew g3 39 O.cs) := Z5
    replace C5 : Hid (CurAt w5.drew c a4 xn k4 X 4 0) := hid (C5.out.drewN 1)
    generalize w5.drew = w6 at *
    refine wpAnyH_take (i := 0) (oi := _) (v := ?var10) rfl (by kernel_rfl) (by kernel_rfl) (by kernel_rfl) (fun _ _ _ h => h) (Or.inl ⟨by rfl, ?hyar10⟩) (by assumption) ?restar10
    case hyar10 => (intro w hSw; (try dsimp only at hSw); go_split_ands; go_simp; try (with_reducible rfl))
    try simp only [List.getElem_toArray, List.getElem_cons_zero, List.getElem_cons_succ, Act.put, List.setIfInBounds_toArray, List.set_cons_zero, List.set_cons_succ]
    refine wpAnyH_take (i := 1) (oi := _) (v := .agg h.cs) rfl (by kernel_rfl) (by kernel_rfl) (by kernel_rfl) (fun _ _ _ h => h) (yldHoH (by rfl) _ rfl w.heap.size 0 rfl h HK.out (fun w2 h => rdc_h h.1.out)) (by assumption) ?_
    try simp only [List.getElem_toArray, List.getElem_cons_zero, List.getElem_cons_succ, Act.put, List.setIfInBounds_toArray, List.set_cons_zero, List.set_cons_succ]
    refine wpAnyH_take (i := 2) (oi := _) (v := .agg O.cs) rfl (by kernel_rfl) (by kernel_rfl) (by kernel_rfl) (fun _ _ _ h => h) (yldO oh (by rfl) _ rfl g3 rfl O 39 (fun w2 h => h.2.out)) (by assumption) ?_
    try simp only [List.getElem_toArray, List.getElem_cons_zero, List.getElem_cons_succ, Act.put, List.setIfInBounds_toArray, List.set_cons_zero, List.set_cons_succ]
    refine wpAnyH_take (i := 3) (oi := _) (v := ?vbr13) rfl (by kernel_rfl) (by kernel_rfl) (by kernel_rfl) (fun _ _ _ h => h) (Or.inl ⟨by rfl, ?hybr13⟩) (by assumption) ?restbr13
    case hybr13 => (intro w hSw; (try dsimp only at hSw); go_split_ands; go_simp; try (with_reducible rfl))
    try simp only [List.getElem_toArray, List.getElem_cons_zero, List.getElem_cons_succ, Act.put, List.setIfInBounds_toArray, List.set_cons_zero, List.set_cons_succ]
    refine wpAnyH_take (i := 4) (oi := _) (v := ?vbr14) rfl (by kernel_rfl) (by kernel_rfl) (by kernel_rfl) (fun _ _ _ h => h) (Or.inl ⟨by rfl, ?hybr14⟩) (by assumption) ?restbr14
    case hybr14 => (intro w hSw; (try dsimp only at hSw); go_split_ands; go_simp; try (with_reducible rfl))
    try simp only [List.getElem_toArray, List.getElem_cons_zero, List.getElem_cons_succ, Act.put, List.setIfInBounds_toArray, List.set_cons_zero, List.set_cons_succ]
    refine wpAnyH_take (i := 5) (oi := _) (v := ?vbr15) rfl (by kernel_rfl) (by kernel_rfl) (by kernel_rfl) (fun _ _ _ h => h) (Or.inl ⟨by rfl, ?hybr15⟩) (by assumption) ?restbr15
    case hybr15 => (intro w hSw; (try dsimp only at hSw); go_split_ands; go_simp; try (with_reducible rfl))
    try simp only [List.getElem_toArray, List.getElem_cons_zero, List.getElem_cons_succ, Act.put, List.setIfInBounds_toArray, List.set_cons_zero, List.set_cons_succ]
    refine wpAnyH_ready (rs := [6]) (by kernel_rfl) (by simp) ?_
    refine AllReadyH.cons (o := _) rfl (fun K hK => ?_) AllReadyH.nil
    go_simp
    refine (left_any _ c a4 xn k4 4 X 0 C5.out).mono ?_
    rintro e w7 ⟨rfl, q, rfl⟩
    have hb : Below w6.heap.size w6 (w6.drewN q) := bdrew (Below.refl _ _) q
    replace R5 := hid (R5.out.below hb)
    replace S5 := hid (S5.out.below hb)
    replace Z5 := hid (Z5.out.below hb)
    replace B5 := hid (bthen B5.out hb)
    replace C5 := hid (C5.out.below hb)
    clear hb
    generalize w6.drewN q = w7 at *
    go_wp2_with fail
    refine hK.out _ _ ⟨S5, Z5⟩ (fun hHeld => ?_)
    clear hK K
    try simp only [List.getElem_toArray, List.getElem_cons_zero, List.getElem_cons_succ, Act.put, List.setIfInBounds_toArray, List.set_cons_zero, List.set_cons_succ]
    refine wpAnyH_ready (rs := [7]) (by kernel_rfl) (by simp) ?_
    refine AllReadyH.cons (o := _) rfl (fun K hK => ?_) AllReadyH.nil
    go_simp
    refine (bytes_ok _ c a4 xn k4 4 X ((xn : Int) - ((4 : Nat) : Int)) (xn - 4) C5.out (by have := H4.out; omega) (by have := H4.out; omega)).mono ?_
    rintro e w8 ⟨v8, rfl, hown, hc, hg⟩
    obtain ⟨a8, ⟨k8, rfl⟩⟩ : ∃ a, ∃ k, v8 = .slice a (xn - 4) k := owns_len hown
    have hx4 : (X.drop 4).take (xn - 4) = X.drop 4 := List.take_of_length_le (by rw [List.length_drop, HXN.out]; exact Nat.le_refl _)
    rw [hx4] at hown
    replace R5 := hid (R5.out.kept hg (fun e => absurd (Option.some.inj e) (by have := HC.out; have := HR3.out; omega)))
    replace S5 := hid (S5.out.kept hg (fun e => absurd (Option.some.inj e) (by have := HC.out; have := HS3.out; omega)))
    replace Z5 := hid (Z5.out.kept hg (fun e => absurd (Option.some.inj e) (by have := HC.out; have := HZ3.out; omega)))
    have O8 := hid (own_mono hown B5.out.size)
    replace B5 := hid (bgrown B5.out hg (by have := HC.out; have := HW3.out; omega))
    clear hown hc hg hx4 C5
    go_wp2_with fail
    refine hK.out _ _ ⟨S5, Z5⟩ (fun hHeld => ?_)
    clear hK K
    try simp only [List.getElem_toArray, List.getElem_cons_zero, List.getElem_cons_succ, Act.put, List.setIfInBounds_toArray, List.set_cons_zero, List.set_cons_succ]
    obtain ⟨P, hP⟩ : ∃ P : Pv, P = ⟨h, true, Mv.zero, O, numOf (X.take 4), ⟨a8, xn - 4, k8, X.drop 4⟩⟩ := ⟨_, rfl⟩
    have kP : Hid P.fit := hid (by rw [hP]; exact ⟨HK.out, adr_zeros⟩)
    have HPP := hid hP
    clear hP
    refine wpAnyH_take (i := 8) (oi := _) (v := .agg P.cs) rfl (by kernel_rfl) (by kernel_rfl) (by kernel_rfl) (fun _ _ _ h => h) ((by rw [HPP.out]; exact ybdPd ptP (by rfl) _ _ _ _ _ rfl h O (numOf (X.take 4)) ⟨a8, xn - 4, k8, X.drop 4⟩ HK.out rfl rfl rfl rfl rfl)) (by assumption) ?_
    try simp only [List.getElem_toArray, List.getElem_cons_zero, List.getElem_cons_succ, Act.put, List.setIfInBounds_toArray, List.set_cons_zero, List.set_cons_succ]
    have g5 := grownBy_setRow w8 g1 P.cs
    replace S5 := hid (S5.out.kept g5 (fun e => absurd (Option.some.inj e) (by have := HG1.out; omega)))
    replace Z5 := hid (Z5.out.kept g5 (fun e => absurd (Option.some.inj e) (by have := HG3.out; have := HG1.out; omega)))
    replace O8 := hid (O8.out.kept g5 (.inr (own_row O8.out R5.out (by decide))))
    have R6 := hid (R5.out.setRow P.cs)
    replace B5 := hid (below_setRow' B5.out HG.out P.cs)
    clear g5
    refine anyH_st 9 (by kernel_rfl) rfl rfl 41 _ _ rfl g1 P.cs rfl rfl 41 Pv.zero.cs R5.out (by rw [Pv.size kP.out]; exact ptP.info) (by rw [Pv.size Pv.zero_fit, Pv.size kP.out]) (Pv.one _) ⟨S5, Z5⟩ ?_
    try simp only [List.getElem_toArray, List.getElem_cons_zero, List.getElem_cons_succ, Act.put, List.setIfInBounds_toArray, List.set_cons_zero, List.set_cons_succ]
    replace R5 := R6
    clear R6
    generalize w8.setRow g1 P.cs = w9 at *
    have hHeld := And.intro S5 Z5
    refine wpAnyH_take (i := 10) (oi := _) (v := ?vcr110) rfl (by kernel_rfl) (by kernel_rfl) (by kernel_rfl) (fun _ _ _ h => h) (Or.inl ⟨by rfl, ?hycr110⟩) (by assumption) ?restcr110
    case hycr110 => (intro w hSw; (try dsimp only at hSw); go_split_ands; go_simp; try (with_reducible rfl))
    try simp only [List.getElem_toArray, List.getElem_cons_zero, List.getElem_cons_succ, Act.put, List.setIfInBounds_toArray, List.set_cons_zero, List.set_cons_succ]
    refine wpAnyH_done (by kernel_rfl) ?_ _
    go_wp2_with fail
    have HPo : Hid (POwn w.heap.size w9 P) := by
      rw [HPP.out]
      exact hid ⟨HK.out, zero_own _ _, by rw [show (X.drop 4).length = xn - 4 by rw [List.length_drop, HXN.out]]; exact O8.out, by rw [List.length_drop, HXN.out], oct_drop HDO.out 4⟩
    have HPq : Hid (P.p = rdtP h t.l) := hid (by rw [HP.out, HPP.out]; rfl)
    refine bodyPost_ret (resPe ptP rfl _ _ g1 41 P kP.out (.int .i64 0) rfl rfl R5.out) rfl ?_
    exact ⟨P, by rw [HE.out], HPo, HPq, B5⟩
theorem rdData_any (h : Hd) (t : Txt) (k : h.ok) (w : World) (ht : t.ok w) (hs : t.n ≤ 100000) :
    Calls Tryz.prog 70 #[.agg (rdc h t)] w (RdOk w (rdtE t.l) (rdtP h t.l)) := by
  by_cases h1 : dcE t.l = 0
  · by_cases h2 : dcN t.l = 17
    · by_cases h3 : (dcR t.l).length < 4
      · exact rdData3 h t k w ht hs h1 h2 h3
      · exact rdData4 h t k w ht hs h1 h2 h3
    · exact rdData2 h t k w ht hs h1 h2
  · exact rdData1 h t k w ht hs h1
end Go.Proofs.YtbklpelikaapoaaGreatDoor
