/- DatagramMakes' walk. -/
import Derived.Test.YtbklpelikaapoaaGreatDoorQM1
import Derived.Test.YtbklpelikaapoaaGreatDoorM17
import Derived.Test.YtbklpelikaapoaaGreatDoorM11
import Derived.Test.YtbklpelikaapoaaGreatDoorM14
import Derived.Test.YtbklpelikaapoaaGreatDoorM10
import Derived.Deep.RegionWith
namespace Go.Proofs.YtbklpelikaapoaaGreatDoor
open Go.ChangeShapes Go.WideShapes Go.ChangeAt Go.RowKit Go.Deep
set_option linter.unusedVariables false
set_option linter.unusedSimpArgs false

theorem Part.hdF {w : World} {b : Nat} {h : Hd} (k : h.ok) (r : Part w b 0 h.cs) : Part w b 5 (arr h.f) := fun j v hv => by
  have hj : j < 16 := by have := (Array.getElem?_eq_some_iff.1 hv).1; rw [arr_size, k.1.1] at this; exact this
  have := r (5 + j) (.int .u8 (h.f.getD j 0)) (Hd.atF k j hj)
  rw [Nat.zero_add] at this
  rw [this, ← hv, arr_at _ _ (by rw [k.1.1]; exact hj)]
theorem Part.hdT {w : World} {b : Nat} {h : Hd} (k : h.ok) (r : Part w b 0 h.cs) : Part w b 21 (arr h.t) := fun j v hv => by
  have hj : j < 16 := by have := (Array.getElem?_eq_some_iff.1 hv).1; rw [arr_size, k.2.1] at this; exact this
  have := r (21 + j) (.int .u8 (h.t.getD j 0)) (Hd.atT k j hj)
  rw [Nat.zero_add] at this
  rw [this, ← hv, arr_at _ _ (by rw [k.2.1]; exact hj)]
/-- What stands in memory between two rounds. -/
structure MkAt (w wr : World) (v4 v5 : Value) (T : List Txt4) : Prop where
  all : wr.ownsRow w.heap.size 5 1 v4 (bytes4 T).length (u8s (bytes4 T))
  txt : wr.ownsRow w.heap.size 30 1 v5 T.length (T.map Txt4.v)
  oks : ∀ t ∈ T, t.ok w
  bel : Below w.heap.size w wr
theorem Pk.c37 {w : World} {g : Nat} {ty : TypeId} {q : Pv} {h : Hd} {o : Ho} {n : Int} {x : Txt} (k : q.fit) (e : q.d = true ∧ q.h = h ∧ q.o = o ∧ q.n = n ∧ q.t = x) (r : Row w g ty q.cs) : w.cell? ⟨g, 37, none⟩ = some (.bool true) := by have := Pv.rD k r; rwa [e.1] at this
theorem Pk.c4 {w : World} {g : Nat} {ty : TypeId} {q : Pv} {h : Hd} {o : Ho} {n : Int} {x : Txt} (k : q.fit) (e : q.d = true ∧ q.h = h ∧ q.o = o ∧ q.n = n ∧ q.t = x) (r : Row w g ty q.cs) : w.cell? ⟨g, 4, none⟩ = some (.int .i64 h.hp) := by have := (Pv.rH k r).at 4 _ (Hd.at4 q.h); rwa [e.2.1] at this
theorem Pk.c71 {w : World} {g : Nat} {ty : TypeId} {q : Pv} {h : Hd} {o : Ho} {n : Int} {x : Txt} (k : q.fit) (e : q.d = true ∧ q.h = h ∧ q.o = o ∧ q.n = n ∧ q.t = x) (r : Row w g ty q.cs) : w.cell? ⟨g, 71, none⟩ = some (.int .i64 n) := by have := Pv.rN k r; rwa [e.2.2.2.1] at this
theorem Pk.c72 {w : World} {g : Nat} {ty : TypeId} {q : Pv} {h : Hd} {o : Ho} {n : Int} {x : Txt} (k : q.fit) (e : q.d = true ∧ q.h = h ∧ q.o = o ∧ q.n = n ∧ q.t = x) (r : Row w g ty q.cs) : w.cell? ⟨g, 72, none⟩ = some x.v := by have := Pv.rT k r; rwa [e.2.2.2.2] at this
theorem Pk.pF {w : World} {g : Nat} {ty : TypeId} {q : Pv} {h : Hd} {o : Ho} {n : Int} {x : Txt} (k : q.fit) (e : q.d = true ∧ q.h = h ∧ q.o = o ∧ q.n = n ∧ q.t = x) (r : Row w g ty q.cs) : Part w g 5 (arr h.f) := by have := Part.hdF k.1 (Pv.rH k r); rwa [e.2.1] at this
theorem Pk.pT {w : World} {g : Nat} {ty : TypeId} {q : Pv} {h : Hd} {o : Ho} {n : Int} {x : Txt} (k : q.fit) (e : q.d = true ∧ q.h = h ∧ q.o = o ∧ q.n = n ∧ q.t = x) (r : Row w g ty q.cs) : Part w g 21 (arr h.t) := by have := Part.hdT k.1 (Pv.rH k r); rwa [e.2.1] at this
theorem Pk.pO {w : World} {g : Nat} {ty : TypeId} {q : Pv} {h : Hd} {o : Ho} {n : Int} {x : Txt} (k : q.fit) (e : q.d = true ∧ q.h = h ∧ q.o = o ∧ q.n = n ∧ q.t = x) (r : Row w g ty q.cs) : Part w g 66 o.cs := by have := Pv.rO k r; rwa [e.2.2.1] at this
theorem eqA_self (l : List Int) (hl : Adr l) : ∀ w : World, (Op.equalIn 10000 33 (.agg (arr l)) (.agg (arr l))).run Tryz.prog w = .ok true w := fun w => by
  have := Ad3.eq25 l l hl.1 hl.1 w
  rw [beq_self_eq_true] at this
  exact this
theorem eqO_self (o : Ho) : ∀ w : World, (Op.equalIn 10000 29 (.agg o.cs) (.agg o.cs)).run Tryz.prog w = .ok true w := fun w => by
  have := eqRo o o w
  rwa [(Ho.eqB_iff o o).2 rfl] at this
set_option maxRecDepth 1000000 in
set_option maxHeartbeats 6400000 in
theorem dgmakes_walk (f t : List Int) (m : Mv) (o : Ho) (n : Int) (a : Option Addr) (len cap : Nat) (L : List Txt) (w : World) (hf : Adr f) (ht : Adr t) (hm : m.ok w ∧ Wfo m.L) (hL : Texts w a len cap L) (hV : CV w.heap.size w) :
    Calls Tryz.prog 5 #[.agg (arr f), .agg (arr t), .agg m.cs, .agg o.cs, .int .i64 n, .slice a len cap] w fun e w' => e = .returned (.bool true) ∧ Below w.heap.size w w' := by
  have hz := zpkP
  have hzm := zmv
  have HF := hid hf
  have HT := hid ht
  have HM0 := hid hm.1
  have HMW := hid hm.2
  have HL := hid hL
  have V0 := hid hV
  have hcm : len ≤ maxLen := Nat.le_trans hL.2.1 hL.2.2.1
  unfold maxLen at hcm
  obtain ⟨i5, hi5, hz50, hz51, hz52⟩ := info_parts info5
  obtain ⟨i27, hi27, hz270, hz271, hz272⟩ := info_parts info27
  have hs1 : (w.alloc (.cells (arr f) 22)).heap.size = w.heap.size + 1 := World.size_alloc ..
  have hs2 : ((w.alloc (.cells (arr f) 22)).alloc (.cells (arr t) 22)).heap.size = w.heap.size + 2 := by rw [World.size_alloc, hs1]
  have hs3 : (((w.alloc (.cells (arr f) 22)).alloc (.cells (arr t) 22)).alloc (.cells m.cs 27)).heap.size = w.heap.size + 3 := by rw [World.size_alloc, hs2]
  have F1 := hid ((((Row.new w 22 (arr f)).alloc (.cells (arr t) 22)).alloc (.cells m.cs 27)).alloc (.cells o.cs 29))
  have T1 := hid (((Row.new (w.alloc (.cells (arr f) 22)) 22 (arr t)).alloc (.cells m.cs 27)).alloc (.cells o.cs 29))
  have M1 := hid ((Row.new ((w.alloc (.cells (arr f) 22)).alloc (.cells (arr t) 22)) 27 m.cs).alloc (.cells o.cs 29))
  have O1 := hid (Row.new (((w.alloc (.cells (arr f) 22)).alloc (.cells (arr t) 22)).alloc (.cells m.cs 27)) 29 o.cs)
  have B1 := hid (balloc (balloc (balloc (balloc (Below.refl w.heap.size w) (.cells (arr f) 22)) (.cells (arr t) 22)) (.cells m.cs 27)) (.cells o.cs 29))
  rw [hs1] at T1
  rw [hs2] at M1
  rw [hs3] at O1
  clear hf ht hm hL hV
  go_enter Tryz.func5, Tryz.ntmps5
  go_upto_region 1 with fail
  generalize (((w.alloc (.cells (arr f) 22)).alloc (.cells (arr t) 22)).alloc (.cells m.cs 27)).alloc (.cells o.cs 29) = w1 at *
  clear hs1 hs2 hs3
  generalize hg3 : w.heap.size + 3 = g3 at *
  generalize hg2 : w.heap.size + 2 = g2 at *
  generalize hg1 : w.heap.size + 1 = g1 at *
  generalize hg0 : w.heap.size = g0 at *
  rw [← hg0] at B1 V0
  have HG := hid hg0
  clear hg0 hg1 hg2 hg3
  go_wp2_with (refine ldM m25 _ rfl rfl g2 0 rfl m HM0.out.ro M1.out.part ?_)
  refine (cTo_any m _ (HM0.out.below B1.out) HMW.out).mono ?_
  rintro e w2 ⟨⟨x, rfl, x20, hx, hxw, hxs, _⟩, hb⟩
  have hA := hid hx.out.ro
  have bx := layM_below w2 38 x
  have F3 := hid ((F1.out.below hb).below bx)
  have T3 := hid ((T1.out.below hb).below bx)
  have O3 := hid ((O1.out.below hb).below bx)
  have X3 := hid (hx.out.below bx)
  have HXS := hid hxs.out
  have B3 := hid (bthen (bthen B1.out hb) bx)
  have RX := hid (layM_new w2 38 x)
  clear hb bx hx hxw hxs F1 T1 M1 O1 B1 HMW
  go_upto_region 2 with (refine stM m29 _ _ rfl rfl w2.heap.size x hA.out rfl rfl 38 Mv.zero adr_zeros (Row.new w2 38 _) ?_)
  generalize (w2.alloc (.cells Mv.zero.cs 38)).setRow w2.heap.size x.cs = w3 at *
  generalize w2.heap.size = gx at *
  go_wp2_with (first | (refine ldAr _ rfl rfl g0 0 rfl f HF.out.1 F3.out.part ?_) | (refine ldAr _ rfl rfl g1 0 rfl t HT.out.1 T3.out.part ?_) | (refine ldM m29 _ rfl rfl gx 0 rfl x hA.out RX.out.part ?_))
  refine (dgControl_any f t HF.out HT.out x _ X3.out (by omega) HXS.out).mono ?_
  rintro e w4 ⟨⟨y, rfl, _, hyp, hyo⟩, hb⟩
  have HYP := hid hyp.out
  have Y4 := hid hyo.out.ok
  generalize hq : (⟨⟨0, 0, 0, 0, 255, f, t⟩, false, y, Ho.zero, 0, Txt.none⟩ : Pv) = q at *
  have HQ := hid hq
  have HK : Hid q.fit := by rw [Hid, ← hq]; exact ⟨⟨HF.out, HT.out⟩, hyo.out.ro⟩
  have bq := layP_below w4 41 q
  have F5 := hid ((F3.out.below hb).below bq)
  have T5 := hid ((T3.out.below hb).below bq)
  have O5 := hid ((O3.out.below hb).below bq)
  have X5 := hid ((X3.out.below hb).below bq)
  have RX5 := hid ((RX.out.below hb).below bq)
  have Y5 := hid (Y4.out.below bq)
  have B5 := hid (bthen (bthen B3.out hb) bq)
  have RQ5 := hid (layP_new w4 41 q)
  clear hq hb bq hyp hyo F3 T3 O3 X3 RX B3 Y4
  go_upto_region 3 with (refine stP ptP _ _ rfl rfl w4.heap.size q HK.out rfl rfl 41 Pv.zero Pv.zero_fit (Row.new w4 41 _) ?_)
  generalize (w4.alloc (.cells Pv.zero.cs 41)).setRow w4.heap.size q.cs = w5 at *
  generalize w4.heap.size = gp at *
  have HL5 := hid (HL.out.below B5.out)
  have V5 := hid (V0.out.below B5.out)
  have S0 : Hid (MkAt w5 w5 (.slice none 0 0) (.slice none 0 0) (cutL (L.map Txt.four) 0)) := ⟨World.ownsRow_nil _ _ _ _, World.ownsRow_nil _ _ _ _, (fun t ht => by cases ht), Below.refl _ _⟩
  clear HL V0
  go_wp2_with fail
  go_loopw [15, 16, 17] (fun v5 v4 i wr => ∃ k : Nat, k ≤ len ∧ k ≤ 4 ∧ i = .int .i64 k ∧ Hid (MkAt w5 wr v4 v5 (cutL (L.map Txt.four) k))) (fun _ _ i _ => len - (intOf i).toNat)
  case atStart => exact ⟨0, Nat.zero_le _, by omega, rfl, S0⟩
  case round =>
    obtain ⟨k, hk, hk4, rfl, hI⟩ := hrel
    by_cases hlt : k < len
    · by_cases hlt4 : k < 4
      · have hT := HL5.out.below hI.out.bel
        have e4 := texts_four hT
        obtain ⟨b, off, rfl, hcell⟩ := e4.2.2.2.1 k hlt
        have hkl : k < (L.map Txt.four).length := by rw [e4.1]; exact hlt
        have hok : ((L.map Txt.four).getD k Txt4.none).ok w5 := (texts_four HL5.out).2.2.2.2 _ (by rw [List.getD_eq_getElem?_getD, List.getElem?_eq_getElem hkl]; exact List.getElem_mem _)
        have HB := hid (cutL_snoc (L.map Txt.four) k hkl)
        have HBl := bytes_cutL (L.map Txt.four) k
        have HTl := hid (cutL_length (L.map Txt.four) k (Nat.le_of_lt hkl))
        clear hT hkl e4
        generalize (L.map Txt.four).getD k Txt4.none = tt at *
        obtain ⟨ta, tn, tc, tl⟩ := tt
        have HTT := hid (cutT_ok hok)
        have htm : tn ≤ tc ∧ tc ≤ maxLen := ⟨hok.1.2.1, hok.1.2.2.1⟩
        unfold maxLen at htm
        simp only [Txt4.v] at hcell
        clear hok
        generalize cutL (L.map Txt.four) k = T at *
        go_wp2_with fail
        go_region
        rw [show (if (300 : Int) < (tn : Int) then (300 : Int) else (tn : Int)).toNat = min tn 300 by split <;> omega]
        generalize (if (300 : Int) < (tn : Int) then (300 : Int) else (tn : Int)) = mi
        have hm300 : min tn 300 ≤ 300 := Nat.min_le_right ..
        have HC : Hid (cutT ⟨ta, tn, tc, tl⟩ = ⟨ta, min tn 300, tc, tl.take (min tn 300)⟩) := rfl
        rw [HC.out] at HTT HB
        generalize min tn 300 = mm at *
        generalize tl.take mm = ml at *
        generalize hX : (⟨ta, mm, tc, ml⟩ : Txt4) = X at *
        have HXv : Hid (X.v = .slice ta mm tc) := by rw [← hX]; rfl
        have HXl : Hid (X.l = ml) := by rw [← hX]; rfl
        have HXo : Hid (Lies .u8 w5 ta mm tc ml ∧ Oct ml) := by have := HTT.out; rw [← hX] at this; exact this
        have hI0 : MkAt w5 wr.drew u16 u15 T := ⟨hI.out.all, hI.out.txt, hI.out.oks, bdrew hI.out.bel 1⟩
        have I0 := hid hI0
        clear hX hI hI0 HC hcell
        generalize wr.drew = wr at *
        go_wp2_with (at_builtin; refine wpList_append_own_by4 _ rfl _ _ 59 rfl w5.heap.size 30 i27 (.slice none 0 0) 1 24 Tryz.underlying59 hi27 hz270 hz271 hz272 rfl (by decide) _ _ _ rfl (I0.out.txt.alloc _) _ 1 1 [.slice ta mm tc] rfl rfl ?c1 ?c2 ?c3 ?c4 ?c5 ?c6 ?_)
        case c1 => intro h; cases h
        case c2 =>
          intro ad had j u hj
          obtain rfl := Option.some.inj had
          exact World.news_of_block (heap_alloc_new wr _) j u hj
        case c3 => intro u hu; simp at hu; subst hu; rfl
        case c4 => rw [HTl.out]; unfold maxLen; omega
        case c5 => rw [HTl.out]; omega
        case c6 => have := I0.out.bel.size; simp; omega
        intro v5 w7 hown5 hg5
        have hbA : Below w5.heap.size w5 (wr.alloc (.cells #[.slice ta mm tc] 30)) := balloc I0.out.bel _
        have B5 := hid (bown4 hbA (I0.out.txt.alloc _) hg5)
        have A5 := hid ((I0.out.all.alloc _).kept hg5 (own_apart4 (I0.out.all.alloc (.cells #[.slice ta mm tc] 30)) (I0.out.txt.alloc _) (by decide)))
        have T5 := hid hown5
        have K5 := hid I0.out.oks
        clear hown5 hg5 hbA I0
        go_wp2_with (at_builtin; refine wpList_append_own_by4 _ rfl _ _ 30 rfl w5.heap.size 5 i5 (.int .u8 0) 1 1 Tryz.underlying30 hi5 hz50 hz51 hz52 rfl (by decide) _ _ _ rfl A5.out ta mm tc (u8s ml) rfl ?d1 ?d2 ?d3 (ints_oneCell8 _ _) ?d4 ?d5 ?d6 ?_)
        case d1 => simp [u8s]; exact HXo.out.1.1
        case d2 => exact HXo.out.1.isNil
        case d3 => exact (HXo.out.1.below B5.out).cells
        case d4 => unfold maxLen; omega
        case d5 => omega
        case d6 => exact B5.out.size
        intro v6 w8 hown6 hg6
        have B6 := hid (bown4 B5.out A5.out hg6)
        have T6 := hid (T5.out.kept hg6 (own_apart4 T5.out A5.out (by decide)))
        have A6 := hid hown6
        clear hown6 hg6 B5 T5 A5
        have HY : Hid (bytes4 T ++ bytes4 [X] = bytes4 (T ++ [X])) := (bytes_app4 T [X]).symm
        have A8' : Hid (w8.ownsRow w5.heap.size 5 1 v6 (bytes4 (T ++ [X])).length (u8s (bytes4 (T ++ [X])))) := own_cast A6.out (by rw [← HY.out, List.length_append]; simp [bytes4, HXl.out, HXo.out.1.1]) (by rw [← HY.out]; simp [bytes4, HXl.out, u8s])
        have T8' : Hid (w8.ownsRow w5.heap.size 30 1 v5 (T ++ [X]).length ((T ++ [X]).map Txt4.v)) := by
          have := T6.out
          rw [Hid, List.length_append, List.map_append]
          simpa [HXv.out] using this
        go_wp2_with fail
        go_roundw
        case rel =>
          refine ⟨k + 1, by omega, by omega, by go_num, ?_⟩
          rw [Hid, HB.out]
          exact ⟨A8'.out, T8'.out, fun t ht => by rcases List.mem_append.1 ht with h | h; exact K5.out t h; simp at h; subst h; exact HTT.out, B6.out⟩
        case measure => simp [intOf]; omega
      · have hd : decide ((k : Int) < 4) = false := by simp; omega
        have hd2 : decide (k < 4) = false := by simp; omega
        obtain ⟨a4, cap4, rfl⟩ := owns_len hI.out.all
        obtain ⟨a5, cap5, rfl, hx5⟩ := owns_texts4 hI.out.txt (fun t ht => (hI.out.oks t ht).below hI.out.bel)
        have F6 := hid (F5.out.below hI.out.bel)
        have T6 := hid (T5.out.below hI.out.bel)
        have O6 := hid (O5.out.below hI.out.bel)
        have TX6 := hid hx5
        have HS : Hid ((bytes4 (cutL (L.map Txt.four) k)).length ≤ 100000) := hid (by have := bytes_cutL (L.map Txt.four) k; omega)
        generalize cutL (L.map Txt.four) k = T at *
        generalize hTn : T.length = Tn at *
        clear hx5 hTn
        have BL := hid hI.out.bel
        have AL := hid hI.out.all
        clear hI
        generalize hbn : (bytes4 T).length = bn at *
        have HBN := hid hbn
        clear hbn
        go_upto_region 11 with fail
        generalize wr = w6 at *
        go_cut [19] from 54 to 60 (fun v19 wx => ∃ (gz : Nat) (q2 : Pv) (x2 : Txt), v19 = .pointer (some ⟨gz, 0, none⟩) ∧ Hid (Row wx gz 41 q2.cs) ∧ Hid (wx.ownsRow w6.heap.size 5 1 x2.v bn (u8s (bytes4 T))) ∧ x2.n = bn ∧ Hid (q2.d = true ∧ q2.h = ⟨0, 0, 0, 0, 64, f, t⟩ ∧ q2.o = o ∧ q2.n = n ∧ q2.t = x2) ∧ Hid q2.fit ∧ Hid (Below w6.heap.size w6 wx))
        case first =>
          as_aux_lemma =>
            refine wp_region_held_drew (S := fun w' => Hid (Row w' g0 22 (arr f)) ∧ (Hid (Row w' g1 22 (arr t)) ∧ Hid (Row w' g3 29 o.cs))) (by kernel_rfl) ?_ (fun hHeld => ?_)
            · exact ⟨F6, T6, O6⟩
            have BB : Hid (Below w6.heap.size w6 w6.drew) := hid (show Below w6.heap.size w6 w6.drew from bdrew (Below.refl _ _) 1)
            generalize w6.drew = w6d at *
            refine wpAnyH_take (i := 0) (oi := _) (v := .agg (arr f)) rfl (by kernel_rfl) (by kernel_rfl) (by kernel_rfl) (fun _ _ _ h => h) (yld36 (by rfl) _ rfl g0 0 rfl f HF.out (fun w h => h.1.out.part)) (by assumption) ?_
            try simp only [List.getElem_toArray, List.getElem_cons_zero, List.getElem_cons_succ, Act.put, List.setIfInBounds_toArray, List.set_cons_zero, List.set_cons_succ]
            refine wpAnyH_take (i := 1) (oi := _) (v := .agg (arr t)) rfl (by kernel_rfl) (by kernel_rfl) (by kernel_rfl) (fun _ _ _ h => h) (yld36 (by rfl) _ rfl g1 0 rfl t HT.out (fun w h => h.2.1.out.part)) (by assumption) ?_
            try simp only [List.getElem_toArray, List.getElem_cons_zero, List.getElem_cons_succ, Act.put, List.setIfInBounds_toArray, List.set_cons_zero, List.set_cons_succ]
            refine wpAnyH_take (i := 2) (oi := _) (v := .agg o.cs) rfl (by kernel_rfl) (by kernel_rfl) (by kernel_rfl) (fun _ _ _ h => h) (yldOq or_ (by rfl) _ rfl g3 0 rfl o (fun w h => h.2.2.out.part)) (by assumption) ?_
            try simp only [List.getElem_toArray, List.getElem_cons_zero, List.getElem_cons_succ, Act.put, List.setIfInBounds_toArray, List.set_cons_zero, List.set_cons_succ]
            refine wpAnyH_take (i := 4) (oi := _) (v := ?vtA4) rfl (by kernel_rfl) (by kernel_rfl) (by kernel_rfl) (fun _ _ _ h => h) (Or.inl ⟨by rfl, ?hytA4⟩) (by assumption) ?resttA4
            case hytA4 => (intro w hSw; (try dsimp only at hSw); go_split_ands; go_simp; try (with_reducible rfl))
            try simp only [List.getElem_toArray, List.getElem_cons_zero, List.getElem_cons_succ, Act.put, List.setIfInBounds_toArray, List.set_cons_zero, List.set_cons_succ]
            refine wpAnyH_take (i := 5) (oi := _) (v := ?vtA5) rfl (by kernel_rfl) (by kernel_rfl) (by kernel_rfl) (fun _ _ _ h => h) (Or.inl ⟨by rfl, ?hytA5⟩) (by assumption) ?resttA5
            case hytA5 => (intro w hSw; (try dsimp only at hSw); go_split_ands; go_simp; try (with_reducible rfl))
            try simp only [List.getElem_toArray, List.getElem_cons_zero, List.getElem_cons_succ, Act.put, List.setIfInBounds_toArray, List.set_cons_zero, List.set_cons_succ]
            refine wpAnyH_ready (rs := [3, 7]) (by kernel_rfl) (by simp) ?_
            refine AllReadyH.cons (o := _) rfl (fun K hK => ?_) (AllReadyH.cons (o := _) rfl (fun K hK => ?_) AllReadyH.nil)
            · go_simp
              refine (hopTo_any o _).mono ?_
              rintro e w1m ⟨rfl, hb⟩
              replace BB := hid (bthen BB.out hb)
              clear hb
              go_wp2_with fail
              refine hK.out _ _ ⟨hid (F6.out.below BB.out), hid (T6.out.below BB.out), hid (O6.out.below BB.out)⟩ (fun hHeld => ?_)
              clear hK K
              try simp only [List.getElem_toArray, List.getElem_cons_zero, List.getElem_cons_succ, Act.put, List.setIfInBounds_toArray, List.set_cons_zero, List.set_cons_succ]
              refine wpAnyH_ready (rs := [6, 7]) (by kernel_rfl) (by simp) ?_
              refine AllReadyH.cons (o := _) rfl (fun K hK => ?_) (AllReadyH.cons (o := _) rfl (fun K hK => ?_) AllReadyH.nil)
              · go_simp
                refine (dgSend_any f t HF.out HT.out o n _ _ _ T _ (TX6.out.below BB.out) (by rw [HBN.out]; exact HS.out)).mono ?_
                rintro e w2m ⟨⟨x2, rfl, hown, hxl, hxn⟩, hb⟩
                rw [HBN.out] at hown hxn
                have SX := hid (own_mono hown.out BB.out.size)
                have HXN := hid hxn
                replace BB := hid (bthen BB.out hb)
                clear hb hown hxl hxn
                generalize hq2 : (⟨⟨0, 0, 0, 0, 64, f, t⟩, true, Mv.zero, o, n, x2⟩ : Pv) = q2 at *
                have E2 : Hid (q2.d = true ∧ q2.h = ⟨0, 0, 0, 0, 64, f, t⟩ ∧ q2.o = o ∧ q2.n = n ∧ q2.t = x2) := by rw [Hid, ← hq2]; exact ⟨rfl, rfl, rfl, rfl, rfl⟩
                have HK2 : Hid q2.fit := by rw [Hid, ← hq2]; exact ⟨⟨HF.out, HT.out⟩, adr_zeros⟩
                clear hq2
                go_wp2_with fail
                refine hK.out _ _ ⟨hid (F6.out.below BB.out), hid (T6.out.below BB.out), hid (O6.out.below BB.out)⟩ (fun hHeld => ?_)
                clear hK K
                try simp only [List.getElem_toArray, List.getElem_cons_zero, List.getElem_cons_succ, Act.put, List.setIfInBounds_toArray, List.set_cons_zero, List.set_cons_succ]
                refine wpAnyH_ready (rs := [7]) (by kernel_rfl) (by simp) ?_
                refine AllReadyH.cons (o := _) rfl (fun K hK => ?_) AllReadyH.nil
                go_simp
                have hb := balloc (Below.refl w2m.heap.size w2m) (.cells Pv.zero.cs 41)
                have ZZ := hid (Row.new w2m 41 Pv.zero.cs)
                have LZ : Hid (w6.heap.size ≤ w2m.heap.size) := hid BB.out.size
                replace BB := hid (bthen BB.out hb)
                replace SX := hid (own_below SX.out hb)
                clear hb
                refine hK.out _ _ ⟨hid (F6.out.below BB.out), hid (T6.out.below BB.out), hid (O6.out.below BB.out)⟩ (fun hHeld => ?_)
                clear hK K
                try simp only [List.getElem_toArray, List.getElem_cons_zero, List.getElem_cons_succ, Act.put, List.setIfInBounds_toArray, List.set_cons_zero, List.set_cons_succ]
                generalize w2m.alloc (.cells Pv.zero.cs 41) = w3m at *
                generalize w2m.heap.size = gz at *
                have hgr := below_setRow' BB.out LZ.out q2.cs
                have SY := hid (own_setRowT (cs := q2.cs) SX.out ZZ.out (by decide))
                have ZY := hid (ZZ.out.setRow q2.cs)
                refine anyH_st 8 ?qw4mAa rfl rfl 41 _ _ rfl gz q2.cs ?qw4mAb ?qw4mAc 41 Pv.zero.cs ?qw4mAd ?qw4mAe ?qw4mAf ?qw4mAg ?qw4mAh ?_
                case qw4mAa => kernel_rfl
                case qw4mAb => rfl
                case qw4mAc => rfl
                case qw4mAd => exact ZZ.out
                case qw4mAe => rw [Pv.size HK2.out]; exact ptP.info
                case qw4mAf => rw [Pv.size HK2.out, Pv.size Pv.zero_fit]
                case qw4mAg => exact Pv.one _
                case qw4mAh => exact ⟨hid (F6.out.below hgr), hid (T6.out.below hgr), hid (O6.out.below hgr)⟩
                try simp only [List.getElem_toArray, List.getElem_cons_zero, List.getElem_cons_succ, Act.put, List.setIfInBounds_toArray, List.set_cons_zero, List.set_cons_succ]
                refine wpAnyH_done (by kernel_rfl) ?_ _
                go_wp2_with fail
                go_meet
                case rel => exact ⟨gz, q2, x2, rfl, ZY, SY, HXN.out, E2, HK2, hid hgr⟩
              · go_simp
                have hb := balloc (Below.refl w1m.heap.size w1m) (.cells Pv.zero.cs 41)
                have ZZ := hid (Row.new w1m 41 Pv.zero.cs)
                have LZ : Hid (w6.heap.size ≤ w1m.heap.size) := hid BB.out.size
                replace BB := hid (bthen BB.out hb)
                clear hb
                refine hK.out _ _ ⟨hid (F6.out.below BB.out), hid (T6.out.below BB.out), hid (O6.out.below BB.out)⟩ (fun hHeld => ?_)
                clear hK K
                try simp only [List.getElem_toArray, List.getElem_cons_zero, List.getElem_cons_succ, Act.put, List.setIfInBounds_toArray, List.set_cons_zero, List.set_cons_succ]
                generalize w1m.alloc (.cells Pv.zero.cs 41) = w5m at *
                generalize w1m.heap.size = gz at *
                refine wpAnyH_ready (rs := [6]) (by kernel_rfl) (by simp) ?_
                refine AllReadyH.cons (o := _) rfl (fun K hK => ?_) AllReadyH.nil
                go_simp
                refine (dgSend_any f t HF.out HT.out o n _ _ _ T _ (TX6.out.below BB.out) (by rw [HBN.out]; exact HS.out)).mono ?_
                rintro e w6m ⟨⟨x2, rfl, hown, hxl, hxn⟩, hb⟩
                replace ZZ := hid (ZZ.out.below hb)
                rw [HBN.out] at hown hxn
                have SX := hid (own_mono hown.out BB.out.size)
                have HXN := hid hxn
                replace BB := hid (bthen BB.out hb)
                clear hb hown hxl hxn
                generalize hq2 : (⟨⟨0, 0, 0, 0, 64, f, t⟩, true, Mv.zero, o, n, x2⟩ : Pv) = q2 at *
                have E2 : Hid (q2.d = true ∧ q2.h = ⟨0, 0, 0, 0, 64, f, t⟩ ∧ q2.o = o ∧ q2.n = n ∧ q2.t = x2) := by rw [Hid, ← hq2]; exact ⟨rfl, rfl, rfl, rfl, rfl⟩
                have HK2 : Hid q2.fit := by rw [Hid, ← hq2]; exact ⟨⟨HF.out, HT.out⟩, adr_zeros⟩
                clear hq2
                go_wp2_with fail
                refine hK.out _ _ ⟨hid (F6.out.below BB.out), hid (T6.out.below BB.out), hid (O6.out.below BB.out)⟩ (fun hHeld => ?_)
                clear hK K
                try simp only [List.getElem_toArray, List.getElem_cons_zero, List.getElem_cons_succ, Act.put, List.setIfInBounds_toArray, List.set_cons_zero, List.set_cons_succ]
                have hgr := below_setRow' BB.out LZ.out q2.cs
                have SY := hid (own_setRowT (cs := q2.cs) SX.out ZZ.out (by decide))
                have ZY := hid (ZZ.out.setRow q2.cs)
                refine anyH_st 8 ?qw7mAa rfl rfl 41 _ _ rfl gz q2.cs ?qw7mAb ?qw7mAc 41 Pv.zero.cs ?qw7mAd ?qw7mAe ?qw7mAf ?qw7mAg ?qw7mAh ?_
                case qw7mAa => kernel_rfl
                case qw7mAb => rfl
                case qw7mAc => rfl
                case qw7mAd => exact ZZ.out
                case qw7mAe => rw [Pv.size HK2.out]; exact ptP.info
                case qw7mAf => rw [Pv.size HK2.out, Pv.size Pv.zero_fit]
                case qw7mAg => exact Pv.one _
                case qw7mAh => exact ⟨hid (F6.out.below hgr), hid (T6.out.below hgr), hid (O6.out.below hgr)⟩
                try simp only [List.getElem_toArray, List.getElem_cons_zero, List.getElem_cons_succ, Act.put, List.setIfInBounds_toArray, List.set_cons_zero, List.set_cons_succ]
                refine wpAnyH_done (by kernel_rfl) ?_ _
                go_wp2_with fail
                go_meet
                case rel => exact ⟨gz, q2, x2, rfl, ZY, SY, HXN.out, E2, HK2, hid hgr⟩
            · go_simp
              have hb := balloc (Below.refl w6d.heap.size w6d) (.cells Pv.zero.cs 41)
              have ZZ := hid (Row.new w6d 41 Pv.zero.cs)
              have LZ : Hid (w6.heap.size ≤ w6d.heap.size) := hid BB.out.size
              replace BB := hid (bthen BB.out hb)
              clear hb
              refine hK.out _ _ ⟨hid (F6.out.below BB.out), hid (T6.out.below BB.out), hid (O6.out.below BB.out)⟩ (fun hHeld => ?_)
              clear hK K
              try simp only [List.getElem_toArray, List.getElem_cons_zero, List.getElem_cons_succ, Act.put, List.setIfInBounds_toArray, List.set_cons_zero, List.set_cons_succ]
              generalize w6d.alloc (.cells Pv.zero.cs 41) = w8m at *
              generalize w6d.heap.size = gz at *
              refine wpAnyH_ready (rs := [3]) (by kernel_rfl) (by simp) ?_
              refine AllReadyH.cons (o := _) rfl (fun K hK => ?_) AllReadyH.nil
              go_simp
              refine (hopTo_any o _).mono ?_
              rintro e w9m ⟨rfl, hb⟩
              replace ZZ := hid (ZZ.out.below hb)
              replace BB := hid (bthen BB.out hb)
              clear hb
              go_wp2_with fail
              refine hK.out _ _ ⟨hid (F6.out.below BB.out), hid (T6.out.below BB.out), hid (O6.out.below BB.out)⟩ (fun hHeld => ?_)
              clear hK K
              try simp only [List.getElem_toArray, List.getElem_cons_zero, List.getElem_cons_succ, Act.put, List.setIfInBounds_toArray, List.set_cons_zero, List.set_cons_succ]
              refine wpAnyH_ready (rs := [6]) (by kernel_rfl) (by simp) ?_
              refine AllReadyH.cons (o := _) rfl (fun K hK => ?_) AllReadyH.nil
              go_simp
              refine (dgSend_any f t HF.out HT.out o n _ _ _ T _ (TX6.out.below BB.out) (by rw [HBN.out]; exact HS.out)).mono ?_
              rintro e w10m ⟨⟨x2, rfl, hown, hxl, hxn⟩, hb⟩
              replace ZZ := hid (ZZ.out.below hb)
              rw [HBN.out] at hown hxn
              have SX := hid (own_mono hown.out BB.out.size)
              have HXN := hid hxn
              replace BB := hid (bthen BB.out hb)
              clear hb hown hxl hxn
              generalize hq2 : (⟨⟨0, 0, 0, 0, 64, f, t⟩, true, Mv.zero, o, n, x2⟩ : Pv) = q2 at *
              have E2 : Hid (q2.d = true ∧ q2.h = ⟨0, 0, 0, 0, 64, f, t⟩ ∧ q2.o = o ∧ q2.n = n ∧ q2.t = x2) := by rw [Hid, ← hq2]; exact ⟨rfl, rfl, rfl, rfl, rfl⟩
              have HK2 : Hid q2.fit := by rw [Hid, ← hq2]; exact ⟨⟨HF.out, HT.out⟩, adr_zeros⟩
              clear hq2
              go_wp2_with fail
              refine hK.out _ _ ⟨hid (F6.out.below BB.out), hid (T6.out.below BB.out), hid (O6.out.below BB.out)⟩ (fun hHeld => ?_)
              clear hK K
              try simp only [List.getElem_toArray, List.getElem_cons_zero, List.getElem_cons_succ, Act.put, List.setIfInBounds_toArray, List.set_cons_zero, List.set_cons_succ]
              have hgr := below_setRow' BB.out LZ.out q2.cs
              have SY := hid (own_setRowT (cs := q2.cs) SX.out ZZ.out (by decide))
              have ZY := hid (ZZ.out.setRow q2.cs)
              refine anyH_st 8 ?qw11mAa rfl rfl 41 _ _ rfl gz q2.cs ?qw11mAb ?qw11mAc 41 Pv.zero.cs ?qw11mAd ?qw11mAe ?qw11mAf ?qw11mAg ?qw11mAh ?_
              case qw11mAa => kernel_rfl
              case qw11mAb => rfl
              case qw11mAc => rfl
              case qw11mAd => exact ZZ.out
              case qw11mAe => rw [Pv.size HK2.out]; exact ptP.info
              case qw11mAf => rw [Pv.size HK2.out, Pv.size Pv.zero_fit]
              case qw11mAg => exact Pv.one _
              case qw11mAh => exact ⟨hid (F6.out.below hgr), hid (T6.out.below hgr), hid (O6.out.below hgr)⟩
              try simp only [List.getElem_toArray, List.getElem_cons_zero, List.getElem_cons_succ, Act.put, List.setIfInBounds_toArray, List.set_cons_zero, List.set_cons_succ]
              refine wpAnyH_done (by kernel_rfl) ?_ _
              go_wp2_with fail
              go_meet
              case rel => exact ⟨gz, q2, x2, rfl, ZY, SY, HXN.out, E2, HK2, hid hgr⟩
        case rest =>
          obtain ⟨gz, q2, x2, rfl, ZZ, SX, hxn, E2, K2, B8⟩ := hcut
          obtain ⟨xa, xn, xc, xl⟩ := x2
          obtain rfl : xn = bn := hxn
          have B58 := hid (bthen BL.out B8.out)
          have HSM : Hid (sameM q.m.p x.p = true) := hid (by rw [← HQ.out]; show sameM y.p x.p = true; rw [HYP.out]; exact sameM_self _)
          have hqd : q.d = false := by rw [← HQ.out]
          have hqh : q.h = ⟨0, 0, 0, 0, 255, f, t⟩ := by rw [← HQ.out]
          have QM : Hid (q.m.ok w5) := by rw [Hid, ← HQ.out]; exact Y5.out
          have RQ8 := hid (RQ5.out.below B58.out)
          have RX8 := hid (RX5.out.below B58.out)
          have F8 := hid (F6.out.below B8.out)
          have T8 := hid (T6.out.below B8.out)
          have O8 := hid (O6.out.below B8.out)
          have Z8 := ZZ
          have SX8 := SX
          have AL8 := hid (own_below AL.out B8.out)
          have V8 := hid (V5.out.below B58.out)
          have BW8 := hid (bthen B5.out B58.out)
          have X8 := hid (X5.out.below B58.out)
          have QM8 := hid (QM.out.below B58.out)
          have c37 := Pv.rD HK.out RQ8.out
          rw [hqd] at c37
          have hPH := Pv.rH HK.out RQ8.out
          have c4 := hPH.at 4 _ (Hd.at4 q.h)
          have PFh := Part.hdF HK.out.1 hPH
          have PTh := Part.hdT HK.out.1 hPH
          rw [hqh] at c4 PFh PTh
          have PF := hid PFh
          have PT2 := hid PTh
          have heF := eqA_self f HF.out
          have heT := eqA_self t HT.out
          have heO := eqO_self o
          clear hPH PFh PTh hqd hqh BL AL ZZ SX QM F6 T6 O6 TX6 HS
          have HBN2 := HBN
          clear HBN
          go_wp2_with (first | (refine ldAd _ rfl rfl gp 5 rfl f HF.out.1 PF.out ?_) | (refine ldAd _ rfl rfl gp 21 rfl t HT.out.1 PT2.out ?_) | (refine ldAr _ rfl rfl g0 0 rfl f HF.out.1 F8.out.part ?_) | (refine ldAr _ rfl rfl g1 0 rfl t HT.out.1 T8.out.part ?_) | (refine ldM m29 _ rfl rfl gp 38 rfl q.m HK.out.2 (Pv.rM HK.out RQ8.out) ?_) | (refine ldM m29 _ rfl rfl gx 0 rfl x hA.out RX8.out.part ?_))
          refine (cSame_any q.m x _ QM8.out X8.out).mono ?_
          rintro e w9 ⟨rfl, hb⟩
          rw [HSM.out]
          have Z9 := hid (Z8.out.below hb)
          have F9 := hid (F8.out.below hb)
          have T9 := hid (T8.out.below hb)
          have O9 := hid (O8.out.below hb)
          have SX9 := hid (own_below SX8.out hb)
          have AL9 := hid (own_below AL8.out hb)
          have BW9 := hid (bthen BW8.out hb)
          have V9 := hid (V8.out.below hb)
          clear hb c37 c4 PF PT2 F8 T8 O8 Z8 SX8 AL8 V8 BW8
          go_upto_region 14 with fail
          refine wp_region_held_drew (S := fun w' => w'.cell? ⟨gz, 37, none⟩ = some (.bool true) ∧ (w'.cell? ⟨gz, 4, none⟩ = some (.int .i64 64) ∧ (w'.cell? ⟨gz, 71, none⟩ = some (.int .i64 n) ∧ (w'.cell? ⟨gz, 72, none⟩ = some (.slice xa xn xc) ∧ (Hid (Row w' gz 41 q2.cs) ∧ (Hid (Row w' g0 22 (arr f)) ∧ (Hid (Row w' g1 22 (arr t)) ∧ Hid (Row w' g3 29 o.cs)))))))) (by kernel_rfl) ?_ (fun hHeld => ?_)
          · exact ⟨Pk.c37 K2.out E2.out Z9.out, Pk.c4 K2.out E2.out Z9.out, Pk.c71 K2.out E2.out Z9.out, Pk.c72 K2.out E2.out Z9.out, Z9, F9, T9, O9⟩
          have hbd : Below w9.heap.size w9 w9.drew := bdrew (Below.refl _ _) 1
          have Z10 := hid (Z9.out.below hbd)
          have F10 := hid (F9.out.below hbd)
          have T10 := hid (T9.out.below hbd)
          have O10 := hid (O9.out.below hbd)
          have SX10 := hid (own_below SX9.out hbd)
          have AL10 := hid (own_below AL9.out hbd)
          have BW10 := hid (bthen BW9.out hbd)
          have V10 := hid (V9.out.below hbd)
          clear hbd F9 T9 O9 Z9 SX9 AL9 V9 BW9
          generalize w9.drew = w10 at *
          refine wpAnyH_ready (rs := [0]) (by kernel_rfl) (by simp) ?_
          refine AllReadyH.cons (o := _) rfl (fun K hK => ?_) AllReadyH.nil
          go_simp
          refine (dgKnown_any _ V10.out).mono ?_
          rintro e w11 ⟨rfl, hb⟩
          have Z11 := hid (Z10.out.below hb)
          have F11 := hid (F10.out.below hb)
          have T11 := hid (T10.out.below hb)
          have O11 := hid (O10.out.below hb)
          have SX11 := hid (own_below SX10.out hb)
          have AL11 := hid (own_below AL10.out hb)
          have BW11 := hid (bthen BW10.out hb)
          clear hb F10 T10 O10 Z10 SX10 AL10 BW10
          go_wp2_with fail
          refine hK.out _ _ ⟨Pk.c37 K2.out E2.out Z11.out, Pk.c4 K2.out E2.out Z11.out, Pk.c71 K2.out E2.out Z11.out, Pk.c72 K2.out E2.out Z11.out, Z11, F11, T11, O11⟩ (fun hHeld => ?_)
          clear hK K
          try simp only [List.getElem_toArray, List.getElem_cons_zero, List.getElem_cons_succ, Act.put, List.setIfInBounds_toArray, List.set_cons_zero, List.set_cons_succ]
          refine wpAnyH_take (i := 1) (oi := _) (v := ?vuA1) rfl (by kernel_rfl) (by kernel_rfl) (by kernel_rfl) (fun _ _ _ h => h) (Or.inl ⟨by rfl, ?hyuA1⟩) (by assumption) ?restuA1
          case hyuA1 => (intro w hSw; (try dsimp only at hSw); go_split_ands; go_simp; try (with_reducible rfl))
          try simp only [List.getElem_toArray, List.getElem_cons_zero, List.getElem_cons_succ, Act.put, List.setIfInBounds_toArray, List.set_cons_zero, List.set_cons_succ]
          refine wpAnyH_take (i := 2) (oi := _) (v := ?vuA2) rfl (by kernel_rfl) (by kernel_rfl) (by kernel_rfl) (fun _ _ _ h => h) (Or.inl ⟨by rfl, ?hyuA2⟩) (by assumption) ?restuA2
          case hyuA2 => (intro w hSw; (try dsimp only at hSw); go_split_ands; go_simp; try (with_reducible rfl))
          try simp only [List.getElem_toArray, List.getElem_cons_zero, List.getElem_cons_succ, Act.put, List.setIfInBounds_toArray, List.set_cons_zero, List.set_cons_succ]
          refine wpAnyH_take (i := 3) (oi := _) (v := ?vuA3) rfl (by kernel_rfl) (by kernel_rfl) (by kernel_rfl) (fun _ _ _ h => h) (Or.inl ⟨by rfl, ?hyuA3⟩) (by assumption) ?restuA3
          case hyuA3 => (intro w hSw; (try dsimp only at hSw); go_split_ands; go_simp; try (with_reducible rfl))
          try simp only [List.getElem_toArray, List.getElem_cons_zero, List.getElem_cons_succ, Act.put, List.setIfInBounds_toArray, List.set_cons_zero, List.set_cons_succ]
          refine wpAnyH_take (i := 4) (oi := _) (v := ?vuA4) rfl (by kernel_rfl) (by kernel_rfl) (by kernel_rfl) (fun _ _ _ h => h) (Or.inl ⟨by rfl, ?hyuA4⟩) (by assumption) ?restuA4
          case hyuA4 => (intro w hSw; (try dsimp only at hSw); go_split_ands; go_simp; try (with_reducible rfl))
          try simp only [List.getElem_toArray, List.getElem_cons_zero, List.getElem_cons_succ, Act.put, List.setIfInBounds_toArray, List.set_cons_zero, List.set_cons_succ]
          refine wpAnyH_take (i := 5) (oi := _) (v := ?vuA5) rfl (by kernel_rfl) (by kernel_rfl) (by kernel_rfl) (fun _ _ _ h => h) (Or.inl ⟨by rfl, ?hyuA5⟩) (by assumption) ?restuA5
          case hyuA5 => (intro w hSw; (try dsimp only at hSw); go_split_ands; go_simp; try (with_reducible rfl))
          try simp only [List.getElem_toArray, List.getElem_cons_zero, List.getElem_cons_succ, Act.put, List.setIfInBounds_toArray, List.set_cons_zero, List.set_cons_succ]
          refine wpAnyH_take (i := 6) (oi := _) (v := ?vuA6) rfl (by kernel_rfl) (by kernel_rfl) (by kernel_rfl) (fun _ _ _ h => h) (Or.inl ⟨by rfl, ?hyuA6⟩) (by assumption) ?restuA6
          case hyuA6 => (intro w hSw; (try dsimp only at hSw); go_split_ands; go_simp; try (with_reducible rfl))
          try simp only [List.getElem_toArray, List.getElem_cons_zero, List.getElem_cons_succ, Act.put, List.setIfInBounds_toArray, List.set_cons_zero, List.set_cons_succ]
          refine wpAnyH_take (i := 7) (oi := _) (v := ?vuA7) rfl (by kernel_rfl) (by kernel_rfl) (by kernel_rfl) (fun _ _ _ h => h) (Or.inl ⟨by rfl, ?hyuA7⟩) (by assumption) ?restuA7
          case hyuA7 => (intro w hSw; (try dsimp only at hSw); go_split_ands; go_simp; try (with_reducible rfl))
          try simp only [List.getElem_toArray, List.getElem_cons_zero, List.getElem_cons_succ, Act.put, List.setIfInBounds_toArray, List.set_cons_zero, List.set_cons_succ]
          refine wpAnyH_take (i := 8) (oi := _) (v := ?vuA8) rfl (by kernel_rfl) (by kernel_rfl) (by kernel_rfl) (fun _ _ _ h => h) (Or.inl ⟨by rfl, ?hyuA8⟩) (by assumption) ?restuA8
          case hyuA8 => (intro w hSw; (try dsimp only at hSw); go_split_ands; go_simp; try (with_reducible rfl))
          try simp only [List.getElem_toArray, List.getElem_cons_zero, List.getElem_cons_succ, Act.put, List.setIfInBounds_toArray, List.set_cons_zero, List.set_cons_succ]
          refine wpAnyH_take (i := 9) (oi := _) (v := ?vuA9) rfl (by kernel_rfl) (by kernel_rfl) (by kernel_rfl) (fun _ _ _ h => h) (Or.inl ⟨by rfl, ?hyuA9⟩) (by assumption) ?restuA9
          case hyuA9 => (intro w hSw; (try dsimp only at hSw); go_split_ands; go_simp; try (with_reducible rfl))
          try simp only [List.getElem_toArray, List.getElem_cons_zero, List.getElem_cons_succ, Act.put, List.setIfInBounds_toArray, List.set_cons_zero, List.set_cons_succ]
          refine wpAnyH_take (i := 10) (oi := _) (v := ?vuA10) rfl (by kernel_rfl) (by kernel_rfl) (by kernel_rfl) (fun _ _ _ h => h) (Or.inl ⟨by rfl, ?hyuA10⟩) (by assumption) ?restuA10
          case hyuA10 => (intro w hSw; (try dsimp only at hSw); go_split_ands; go_simp; try (with_reducible rfl))
          try simp only [List.getElem_toArray, List.getElem_cons_zero, List.getElem_cons_succ, Act.put, List.setIfInBounds_toArray, List.set_cons_zero, List.set_cons_succ]
          refine wpAnyH_take (i := 11) (oi := _) (v := ?vuA11) rfl (by kernel_rfl) (by kernel_rfl) (by kernel_rfl) (fun _ _ _ h => h) (Or.inl ⟨by rfl, ?hyuA11⟩) (by assumption) ?restuA11
          case hyuA11 => (intro w hSw; (try dsimp only at hSw); go_split_ands; go_simp; try (with_reducible rfl))
          try simp only [List.getElem_toArray, List.getElem_cons_zero, List.getElem_cons_succ, Act.put, List.setIfInBounds_toArray, List.set_cons_zero, List.set_cons_succ]
          refine wpAnyH_take (i := 12) (oi := _) (v := ?vuA12) rfl (by kernel_rfl) (by kernel_rfl) (by kernel_rfl) (fun _ _ _ h => h) (Or.inl ⟨by rfl, ?hyuA12⟩) (by assumption) ?restuA12
          case hyuA12 => (intro w hSw; (try dsimp only at hSw); go_split_ands; go_simp; try (with_reducible rfl))
          try simp only [List.getElem_toArray, List.getElem_cons_zero, List.getElem_cons_succ, Act.put, List.setIfInBounds_toArray, List.set_cons_zero, List.set_cons_succ]
          refine wpAnyH_take (i := 13) (oi := _) (v := ?vuA13) rfl (by kernel_rfl) (by kernel_rfl) (by kernel_rfl) (fun _ _ _ h => h) (Or.inl ⟨by rfl, ?hyuA13⟩) (by assumption) ?restuA13
          case hyuA13 => (intro w hSw; (try dsimp only at hSw); go_split_ands; go_simp; try (with_reducible rfl))
          try simp only [List.getElem_toArray, List.getElem_cons_zero, List.getElem_cons_succ, Act.put, List.setIfInBounds_toArray, List.set_cons_zero, List.set_cons_succ]
          refine wpAnyH_take (i := 14) (oi := _) (v := .agg (arr f)) rfl (by kernel_rfl) (by kernel_rfl) (by kernel_rfl) (fun _ _ _ h => h) (yld41 (by rfl) _ rfl gz 5 rfl f HF.out (fun w h => Pk.pF K2.out E2.out h.2.2.2.2.1.out)) (by assumption) ?_
          try simp only [List.getElem_toArray, List.getElem_cons_zero, List.getElem_cons_succ, Act.put, List.setIfInBounds_toArray, List.set_cons_zero, List.set_cons_succ]
          refine wpAnyH_take (i := 15) (oi := _) (v := .agg (arr f)) rfl (by kernel_rfl) (by kernel_rfl) (by kernel_rfl) (fun _ _ _ h => h) (yld36 (by rfl) _ rfl g0 0 rfl f HF.out (fun w h => h.2.2.2.2.2.1.out.part)) (by assumption) ?_
          try simp only [List.getElem_toArray, List.getElem_cons_zero, List.getElem_cons_succ, Act.put, List.setIfInBounds_toArray, List.set_cons_zero, List.set_cons_succ]
          refine wpAnyH_take (i := 16) (oi := _) (v := ?vuA16) rfl (by kernel_rfl) (by kernel_rfl) (by kernel_rfl) (fun _ _ _ h => h) (Or.inl ⟨by rfl, ?hyuA16⟩) (by assumption) ?restuA16
          case hyuA16 => (intro w hSw; (try dsimp only at hSw); go_split_ands; go_simp; try (with_reducible rfl))
          try simp only [List.getElem_toArray, List.getElem_cons_zero, List.getElem_cons_succ, Act.put, List.setIfInBounds_toArray, List.set_cons_zero, List.set_cons_succ]
          refine wpAnyH_take (i := 17) (oi := _) (v := ?vuA17) rfl (by kernel_rfl) (by kernel_rfl) (by kernel_rfl) (fun _ _ _ h => h) (Or.inl ⟨by rfl, ?hyuA17⟩) (by assumption) ?restuA17
          case hyuA17 => (intro w hSw; (try dsimp only at hSw); go_split_ands; go_simp; try (with_reducible rfl))
          try simp only [List.getElem_toArray, List.getElem_cons_zero, List.getElem_cons_succ, Act.put, List.setIfInBounds_toArray, List.set_cons_zero, List.set_cons_succ]
          refine wpAnyH_take (i := 18) (oi := _) (v := ?vuA18) rfl (by kernel_rfl) (by kernel_rfl) (by kernel_rfl) (fun _ _ _ h => h) (Or.inl ⟨by rfl, ?hyuA18⟩) (by assumption) ?restuA18
          case hyuA18 => (intro w hSw; (try dsimp only at hSw); go_split_ands; go_simp; try (with_reducible rfl))
          try simp only [List.getElem_toArray, List.getElem_cons_zero, List.getElem_cons_succ, Act.put, List.setIfInBounds_toArray, List.set_cons_zero, List.set_cons_succ]
          refine wpAnyH_take (i := 19) (oi := _) (v := ?vuA19) rfl (by kernel_rfl) (by kernel_rfl) (by kernel_rfl) (fun _ _ _ h => h) (Or.inl ⟨by rfl, ?hyuA19⟩) (by assumption) ?restuA19
          case hyuA19 => (intro w hSw; (try dsimp only at hSw); go_split_ands; go_simp; try (with_reducible rfl))
          try simp only [List.getElem_toArray, List.getElem_cons_zero, List.getElem_cons_succ, Act.put, List.setIfInBounds_toArray, List.set_cons_zero, List.set_cons_succ]
          refine wpAnyH_take (i := 20) (oi := _) (v := ?vuA20) rfl (by kernel_rfl) (by kernel_rfl) (by kernel_rfl) (fun _ _ _ h => h) (Or.inl ⟨by rfl, ?hyuA20⟩) (by assumption) ?restuA20
          case hyuA20 => (intro w hSw; (try dsimp only at hSw); go_split_ands; go_simp; try (with_reducible rfl))
          try simp only [List.getElem_toArray, List.getElem_cons_zero, List.getElem_cons_succ, Act.put, List.setIfInBounds_toArray, List.set_cons_zero, List.set_cons_succ]
          refine wpAnyH_take (i := 21) (oi := _) (v := .agg (arr t)) rfl (by kernel_rfl) (by kernel_rfl) (by kernel_rfl) (fun _ _ _ h => h) (yld41 (by rfl) _ rfl gz 21 rfl t HT.out (fun w h => Pk.pT K2.out E2.out h.2.2.2.2.1.out)) (by assumption) ?_
          try simp only [List.getElem_toArray, List.getElem_cons_zero, List.getElem_cons_succ, Act.put, List.setIfInBounds_toArray, List.set_cons_zero, List.set_cons_succ]
          refine wpAnyH_take (i := 22) (oi := _) (v := .agg (arr t)) rfl (by kernel_rfl) (by kernel_rfl) (by kernel_rfl) (fun _ _ _ h => h) (yld36 (by rfl) _ rfl g1 0 rfl t HT.out (fun w h => h.2.2.2.2.2.2.1.out.part)) (by assumption) ?_
          try simp only [List.getElem_toArray, List.getElem_cons_zero, List.getElem_cons_succ, Act.put, List.setIfInBounds_toArray, List.set_cons_zero, List.set_cons_succ]
          refine wpAnyH_take (i := 23) (oi := _) (v := ?vuA23) rfl (by kernel_rfl) (by kernel_rfl) (by kernel_rfl) (fun _ _ _ h => h) (Or.inl ⟨by rfl, ?hyuA23⟩) (by assumption) ?restuA23
          case hyuA23 => (intro w hSw; (try dsimp only at hSw); go_split_ands; go_simp; try (with_reducible rfl))
          try simp only [List.getElem_toArray, List.getElem_cons_zero, List.getElem_cons_succ, Act.put, List.setIfInBounds_toArray, List.set_cons_zero, List.set_cons_succ]
          refine wpAnyH_take (i := 24) (oi := _) (v := ?vuA24) rfl (by kernel_rfl) (by kernel_rfl) (by kernel_rfl) (fun _ _ _ h => h) (Or.inl ⟨by rfl, ?hyuA24⟩) (by assumption) ?restuA24
          case hyuA24 => (intro w hSw; (try dsimp only at hSw); go_split_ands; go_simp; try (with_reducible rfl))
          try simp only [List.getElem_toArray, List.getElem_cons_zero, List.getElem_cons_succ, Act.put, List.setIfInBounds_toArray, List.set_cons_zero, List.set_cons_succ]
          refine wpAnyH_take (i := 25) (oi := _) (v := ?vuA25) rfl (by kernel_rfl) (by kernel_rfl) (by kernel_rfl) (fun _ _ _ h => h) (Or.inl ⟨by rfl, ?hyuA25⟩) (by assumption) ?restuA25
          case hyuA25 => (intro w hSw; (try dsimp only at hSw); go_split_ands; go_simp; try (with_reducible rfl))
          try simp only [List.getElem_toArray, List.getElem_cons_zero, List.getElem_cons_succ, Act.put, List.setIfInBounds_toArray, List.set_cons_zero, List.set_cons_succ]
          refine wpAnyH_take (i := 26) (oi := _) (v := ?vuA26) rfl (by kernel_rfl) (by kernel_rfl) (by kernel_rfl) (fun _ _ _ h => h) (Or.inl ⟨by rfl, ?hyuA26⟩) (by assumption) ?restuA26
          case hyuA26 => (intro w hSw; (try dsimp only at hSw); go_split_ands; go_simp; try (with_reducible rfl))
          try simp only [List.getElem_toArray, List.getElem_cons_zero, List.getElem_cons_succ, Act.put, List.setIfInBounds_toArray, List.set_cons_zero, List.set_cons_succ]
          refine wpAnyH_take (i := 27) (oi := _) (v := .agg o.cs) rfl (by kernel_rfl) (by kernel_rfl) (by kernel_rfl) (fun _ _ _ h => h) (yldOq oh (by rfl) _ rfl gz 66 rfl o (fun w h => Pk.pO K2.out E2.out h.2.2.2.2.1.out)) (by assumption) ?_
          try simp only [List.getElem_toArray, List.getElem_cons_zero, List.getElem_cons_succ, Act.put, List.setIfInBounds_toArray, List.set_cons_zero, List.set_cons_succ]
          refine wpAnyH_take (i := 29) (oi := _) (v := .agg o.cs) rfl (by kernel_rfl) (by kernel_rfl) (by kernel_rfl) (fun _ _ _ h => h) (yldOq or_ (by rfl) _ rfl g3 0 rfl o (fun w h => h.2.2.2.2.2.2.2.out.part)) (by assumption) ?_
          try simp only [List.getElem_toArray, List.getElem_cons_zero, List.getElem_cons_succ, Act.put, List.setIfInBounds_toArray, List.set_cons_zero, List.set_cons_succ]
          refine wpAnyH_ready (rs := [28]) (by kernel_rfl) (by simp) ?_
          refine AllReadyH.cons (o := _) rfl (fun K hK => ?_) AllReadyH.nil
          go_simp
          refine (hopOf_any o _).mono ?_
          rintro e w12 ⟨rfl, hb⟩
          have Z12 := hid (Z11.out.below hb)
          have F12 := hid (F11.out.below hb)
          have T12 := hid (T11.out.below hb)
          have O12 := hid (O11.out.below hb)
          have SX12 := hid (own_below SX11.out hb)
          have AL12 := hid (own_below AL11.out hb)
          have BW12 := hid (bthen BW11.out hb)
          clear hb F11 T11 O11 Z11 SX11 AL11 BW11
          go_wp2_with fail
          refine hK.out _ _ ⟨Pk.c37 K2.out E2.out Z12.out, Pk.c4 K2.out E2.out Z12.out, Pk.c71 K2.out E2.out Z12.out, Pk.c72 K2.out E2.out Z12.out, Z12, F12, T12, O12⟩ (fun hHeld => ?_)
          clear hK K
          try simp only [List.getElem_toArray, List.getElem_cons_zero, List.getElem_cons_succ, Act.put, List.setIfInBounds_toArray, List.set_cons_zero, List.set_cons_succ]
          refine wpAnyH_take (i := 30) (oi := _) (v := ?vuA30) rfl (by kernel_rfl) (by kernel_rfl) (by kernel_rfl) (fun _ _ _ h => h) (Or.inl ⟨by rfl, ?hyuA30⟩) (by assumption) ?restuA30
          case hyuA30 => (intro w hSw; (try dsimp only at hSw); go_split_ands; go_simp; try (with_reducible rfl))
          try simp only [List.getElem_toArray, List.getElem_cons_zero, List.getElem_cons_succ, Act.put, List.setIfInBounds_toArray, List.set_cons_zero, List.set_cons_succ]
          refine wpAnyH_take (i := 31) (oi := _) (v := ?vuA31) rfl (by kernel_rfl) (by kernel_rfl) (by kernel_rfl) (fun _ _ _ h => h) (Or.inl ⟨by rfl, ?hyuA31⟩) (by assumption) ?restuA31
          case hyuA31 => (intro w hSw; (try dsimp only at hSw); go_split_ands; go_simp; try (with_reducible rfl))
          try simp only [List.getElem_toArray, List.getElem_cons_zero, List.getElem_cons_succ, Act.put, List.setIfInBounds_toArray, List.set_cons_zero, List.set_cons_succ]
          refine wpAnyH_take (i := 32) (oi := _) (v := ?vuA32) rfl (by kernel_rfl) (by kernel_rfl) (by kernel_rfl) (fun _ _ _ h => h) (Or.inl ⟨by rfl, ?hyuA32⟩) (by assumption) ?restuA32
          case hyuA32 => (intro w hSw; (try dsimp only at hSw); go_split_ands; go_simp; try (with_reducible rfl))
          try simp only [List.getElem_toArray, List.getElem_cons_zero, List.getElem_cons_succ, Act.put, List.setIfInBounds_toArray, List.set_cons_zero, List.set_cons_succ]
          refine wpAnyH_take (i := 33) (oi := _) (v := ?vuA33) rfl (by kernel_rfl) (by kernel_rfl) (by kernel_rfl) (fun _ _ _ h => h) (Or.inl ⟨by rfl, ?hyuA33⟩) (by assumption) ?restuA33
          case hyuA33 => (intro w hSw; (try dsimp only at hSw); go_split_ands; go_simp; try (with_reducible rfl))
          try simp only [List.getElem_toArray, List.getElem_cons_zero, List.getElem_cons_succ, Act.put, List.setIfInBounds_toArray, List.set_cons_zero, List.set_cons_succ]
          refine wpAnyH_take (i := 34) (oi := _) (v := ?vuA34) rfl (by kernel_rfl) (by kernel_rfl) (by kernel_rfl) (fun _ _ _ h => h) (Or.inl ⟨by rfl, ?hyuA34⟩) (by assumption) ?restuA34
          case hyuA34 => (intro w hSw; (try dsimp only at hSw); go_split_ands; go_simp; try (with_reducible rfl))
          try simp only [List.getElem_toArray, List.getElem_cons_zero, List.getElem_cons_succ, Act.put, List.setIfInBounds_toArray, List.set_cons_zero, List.set_cons_succ]
          refine wpAnyH_take (i := 35) (oi := _) (v := ?vuA35) rfl (by kernel_rfl) (by kernel_rfl) (by kernel_rfl) (fun _ _ _ h => h) (Or.inl ⟨by rfl, ?hyuA35⟩) (by assumption) ?restuA35
          case hyuA35 => (intro w hSw; (try dsimp only at hSw); go_split_ands; go_simp; try (with_reducible rfl))
          try simp only [List.getElem_toArray, List.getElem_cons_zero, List.getElem_cons_succ, Act.put, List.setIfInBounds_toArray, List.set_cons_zero, List.set_cons_succ]
          refine wpAnyH_take (i := 36) (oi := _) (v := ?vuA36) rfl (by kernel_rfl) (by kernel_rfl) (by kernel_rfl) (fun _ _ _ h => h) (Or.inl ⟨by rfl, ?hyuA36⟩) (by assumption) ?restuA36
          case hyuA36 => (intro w hSw; (try dsimp only at hSw); go_split_ands; go_simp; try (with_reducible rfl))
          try simp only [List.getElem_toArray, List.getElem_cons_zero, List.getElem_cons_succ, Act.put, List.setIfInBounds_toArray, List.set_cons_zero, List.set_cons_succ]
          refine wpAnyH_take (i := 37) (oi := _) (v := ?vuA37) rfl (by kernel_rfl) (by kernel_rfl) (by kernel_rfl) (fun _ _ _ h => h) (Or.inl ⟨by rfl, ?hyuA37⟩) (by assumption) ?restuA37
          case hyuA37 => (intro w hSw; (try dsimp only at hSw); go_split_ands; go_simp; try (with_reducible rfl))
          try simp only [List.getElem_toArray, List.getElem_cons_zero, List.getElem_cons_succ, Act.put, List.setIfInBounds_toArray, List.set_cons_zero, List.set_cons_succ]
          refine wpAnyH_take (i := 38) (oi := _) (v := ?vuA38) rfl (by kernel_rfl) (by kernel_rfl) (by kernel_rfl) (fun _ _ _ h => h) (Or.inl ⟨by rfl, ?hyuA38⟩) (by assumption) ?restuA38
          case hyuA38 => (intro w hSw; (try dsimp only at hSw); go_split_ands; go_simp; try (with_reducible rfl))
          try simp only [List.getElem_toArray, List.getElem_cons_zero, List.getElem_cons_succ, Act.put, List.setIfInBounds_toArray, List.set_cons_zero, List.set_cons_succ]
          refine wpAnyH_take (i := 39) (oi := _) (v := ?vuA39) rfl (by kernel_rfl) (by kernel_rfl) (by kernel_rfl) (fun _ _ _ h => h) (Or.inl ⟨by rfl, ?hyuA39⟩) (by assumption) ?restuA39
          case hyuA39 => (intro w hSw; (try dsimp only at hSw); go_split_ands; go_simp; try (with_reducible rfl))
          try simp only [List.getElem_toArray, List.getElem_cons_zero, List.getElem_cons_succ, Act.put, List.setIfInBounds_toArray, List.set_cons_zero, List.set_cons_succ]
          refine wpAnyH_take (i := 40) (oi := _) (v := ?vuA40) rfl (by kernel_rfl) (by kernel_rfl) (by kernel_rfl) (fun _ _ _ h => h) (Or.inl ⟨by rfl, ?hyuA40⟩) (by assumption) ?restuA40
          case hyuA40 => (intro w hSw; (try dsimp only at hSw); go_split_ands; go_simp; try (with_reducible rfl))
          try simp only [List.getElem_toArray, List.getElem_cons_zero, List.getElem_cons_succ, Act.put, List.setIfInBounds_toArray, List.set_cons_zero, List.set_cons_succ]
          refine wpAnyH_take (i := 41) (oi := _) (v := ?vuA41) rfl (by kernel_rfl) (by kernel_rfl) (by kernel_rfl) (fun _ _ _ h => h) (Or.inl ⟨by rfl, ?hyuA41⟩) (by assumption) ?restuA41
          case hyuA41 => (intro w hSw; (try dsimp only at hSw); go_split_ands; go_simp; try (with_reducible rfl))
          try simp only [List.getElem_toArray, List.getElem_cons_zero, List.getElem_cons_succ, Act.put, List.setIfInBounds_toArray, List.set_cons_zero, List.set_cons_succ]
          refine wpAnyH_ready (rs := [42]) (by kernel_rfl) (by simp) ?_
          refine AllReadyH.cons (o := _) rfl (fun K hK => ?_) AllReadyH.nil
          go_simp
          refine (same_any xa a4 xn xc xn cap4 (bytes4 T) (bytes4 T) _ (owns_lies' SX12.out HBN2.out) (owns_lies' AL12.out HBN2.out)).mono ?_
          rintro e w13 ⟨rfl, qq, rfl⟩
          rw [beq_self_eq_true]
          have hb : Below w12.heap.size w12 (w12.drewN qq) := bdrew (Below.refl _ _) qq
          have Z13 := hid (Z12.out.below hb)
          have F13 := hid (F12.out.below hb)
          have T13 := hid (T12.out.below hb)
          have O13 := hid (O12.out.below hb)
          have SX13 := hid (own_below SX12.out hb)
          have AL13 := hid (own_below AL12.out hb)
          have BW13 := hid (bthen BW12.out hb)
          clear hb F12 T12 O12 Z12 SX12 AL12 BW12
          go_wp2_with fail
          refine hK.out _ _ ⟨Pk.c37 K2.out E2.out Z13.out, Pk.c4 K2.out E2.out Z13.out, Pk.c71 K2.out E2.out Z13.out, Pk.c72 K2.out E2.out Z13.out, Z13, F13, T13, O13⟩ (fun hHeld => ?_)
          clear hK K
          try simp only [List.getElem_toArray, List.getElem_cons_zero, List.getElem_cons_succ, Act.put, List.setIfInBounds_toArray, List.set_cons_zero, List.set_cons_succ]
          refine wpAnyH_take (i := 43) (oi := _) (v := ?vuA43) rfl (by kernel_rfl) (by kernel_rfl) (by kernel_rfl) (fun _ _ _ h => h) (Or.inl ⟨by rfl, ?hyuA43⟩) (by assumption) ?restuA43
          case hyuA43 => (intro w hSw; (try dsimp only at hSw); go_split_ands; go_simp; try (with_reducible rfl))
          try simp only [List.getElem_toArray, List.getElem_cons_zero, List.getElem_cons_succ, Act.put, List.setIfInBounds_toArray, List.set_cons_zero, List.set_cons_succ]
          refine wpAnyH_take (i := 44) (oi := _) (v := ?vuA44) rfl (by kernel_rfl) (by kernel_rfl) (by kernel_rfl) (fun _ _ _ h => h) (Or.inl ⟨by rfl, ?hyuA44⟩) (by assumption) ?restuA44
          case hyuA44 => (intro w hSw; (try dsimp only at hSw); go_split_ands; go_simp; try (with_reducible rfl))
          try simp only [List.getElem_toArray, List.getElem_cons_zero, List.getElem_cons_succ, Act.put, List.setIfInBounds_toArray, List.set_cons_zero, List.set_cons_succ]
          refine wpAnyH_done (by kernel_rfl) ?_ _
          go_wp2_with fail
          go_ret
          exact ⟨rfl, BW13.out⟩
    · have hd : decide ((k : Int) < (len : Int)) = false := by simp; omega
      have hd2 : decide (k < len) = false := by simp; omega
      obtain ⟨a4, cap4, rfl⟩ := owns_len hI.out.all
      obtain ⟨a5, cap5, rfl, hx5⟩ := owns_texts4 hI.out.txt (fun t ht => (hI.out.oks t ht).below hI.out.bel)
      have F6 := hid (F5.out.below hI.out.bel)
      have T6 := hid (T5.out.below hI.out.bel)
      have O6 := hid (O5.out.below hI.out.bel)
      have TX6 := hid hx5
      have HS : Hid ((bytes4 (cutL (L.map Txt.four) k)).length ≤ 100000) := hid (by have := bytes_cutL (L.map Txt.four) k; omega)
      generalize cutL (L.map Txt.four) k = T at *
      generalize hTn : T.length = Tn at *
      clear hx5 hTn
      have BL := hid hI.out.bel
      have AL := hid hI.out.all
      clear hI
      generalize hbn : (bytes4 T).length = bn at *
      have HBN := hid hbn
      clear hbn
      go_upto_region 11 with fail
      generalize wr = w6 at *
      go_cut [19] from 54 to 60 (fun v19 wx => ∃ (gz : Nat) (q2 : Pv) (x2 : Txt), v19 = .pointer (some ⟨gz, 0, none⟩) ∧ Hid (Row wx gz 41 q2.cs) ∧ Hid (wx.ownsRow w6.heap.size 5 1 x2.v bn (u8s (bytes4 T))) ∧ x2.n = bn ∧ Hid (q2.d = true ∧ q2.h = ⟨0, 0, 0, 0, 64, f, t⟩ ∧ q2.o = o ∧ q2.n = n ∧ q2.t = x2) ∧ Hid q2.fit ∧ Hid (Below w6.heap.size w6 wx))
      case first =>
        as_aux_lemma =>
          refine wp_region_held_drew (S := fun w' => Hid (Row w' g0 22 (arr f)) ∧ (Hid (Row w' g1 22 (arr t)) ∧ Hid (Row w' g3 29 o.cs))) (by kernel_rfl) ?_ (fun hHeld => ?_)
          · exact ⟨F6, T6, O6⟩
          have BB : Hid (Below w6.heap.size w6 w6.drew) := hid (show Below w6.heap.size w6 w6.drew from bdrew (Below.refl _ _) 1)
          generalize w6.drew = w6d at *
          refine wpAnyH_take (i := 0) (oi := _) (v := .agg (arr f)) rfl (by kernel_rfl) (by kernel_rfl) (by kernel_rfl) (fun _ _ _ h => h) (yld36 (by rfl) _ rfl g0 0 rfl f HF.out (fun w h => h.1.out.part)) (by assumption) ?_
          try simp only [List.getElem_toArray, List.getElem_cons_zero, List.getElem_cons_succ, Act.put, List.setIfInBounds_toArray, List.set_cons_zero, List.set_cons_succ]
          refine wpAnyH_take (i := 1) (oi := _) (v := .agg (arr t)) rfl (by kernel_rfl) (by kernel_rfl) (by kernel_rfl) (fun _ _ _ h => h) (yld36 (by rfl) _ rfl g1 0 rfl t HT.out (fun w h => h.2.1.out.part)) (by assumption) ?_
          try simp only [List.getElem_toArray, List.getElem_cons_zero, List.getElem_cons_succ, Act.put, List.setIfInBounds_toArray, List.set_cons_zero, List.set_cons_succ]
          refine wpAnyH_take (i := 2) (oi := _) (v := .agg o.cs) rfl (by kernel_rfl) (by kernel_rfl) (by kernel_rfl) (fun _ _ _ h => h) (yldOq or_ (by rfl) _ rfl g3 0 rfl o (fun w h => h.2.2.out.part)) (by assumption) ?_
          try simp only [List.getElem_toArray, List.getElem_cons_zero, List.getElem_cons_succ, Act.put, List.setIfInBounds_toArray, List.set_cons_zero, List.set_cons_succ]
          refine wpAnyH_take (i := 4) (oi := _) (v := ?vtB4) rfl (by kernel_rfl) (by kernel_rfl) (by kernel_rfl) (fun _ _ _ h => h) (Or.inl ⟨by rfl, ?hytB4⟩) (by assumption) ?resttB4
          case hytB4 => (intro w hSw; (try dsimp only at hSw); go_split_ands; go_simp; try (with_reducible rfl))
          try simp only [List.getElem_toArray, List.getElem_cons_zero, List.getElem_cons_succ, Act.put, List.setIfInBounds_toArray, List.set_cons_zero, List.set_cons_succ]
          refine wpAnyH_take (i := 5) (oi := _) (v := ?vtB5) rfl (by kernel_rfl) (by kernel_rfl) (by kernel_rfl) (fun _ _ _ h => h) (Or.inl ⟨by rfl, ?hytB5⟩) (by assumption) ?resttB5
          case hytB5 => (intro w hSw; (try dsimp only at hSw); go_split_ands; go_simp; try (with_reducible rfl))
          try simp only [List.getElem_toArray, List.getElem_cons_zero, List.getElem_cons_succ, Act.put, List.setIfInBounds_toArray, List.set_cons_zero, List.set_cons_succ]
          refine wpAnyH_ready (rs := [3, 7]) (by kernel_rfl) (by simp) ?_
          refine AllReadyH.cons (o := _) rfl (fun K hK => ?_) (AllReadyH.cons (o := _) rfl (fun K hK => ?_) AllReadyH.nil)
          · go_simp
            refine (hopTo_any o _).mono ?_
            rintro e w12m ⟨rfl, hb⟩
            replace BB := hid (bthen BB.out hb)
            clear hb
            go_wp2_with fail
            refine hK.out _ _ ⟨hid (F6.out.below BB.out), hid (T6.out.below BB.out), hid (O6.out.below BB.out)⟩ (fun hHeld => ?_)
            clear hK K
            try simp only [List.getElem_toArray, List.getElem_cons_zero, List.getElem_cons_succ, Act.put, List.setIfInBounds_toArray, List.set_cons_zero, List.set_cons_succ]
            refine wpAnyH_ready (rs := [6, 7]) (by kernel_rfl) (by simp) ?_
            refine AllReadyH.cons (o := _) rfl (fun K hK => ?_) (AllReadyH.cons (o := _) rfl (fun K hK => ?_) AllReadyH.nil)
            · go_simp
              refine (dgSend_any f t HF.out HT.out o n _ _ _ T _ (TX6.out.below BB.out) (by rw [HBN.out]; exact HS.out)).mono ?_
              rintro e w13m ⟨⟨x2, rfl, hown, hxl, hxn⟩, hb⟩
              rw [HBN.out] at hown hxn
              have SX := hid (own_mono hown.out BB.out.size)
              have HXN := hid hxn
              replace BB := hid (bthen BB.out hb)
              clear hb hown hxl hxn
              generalize hq2 : (⟨⟨0, 0, 0, 0, 64, f, t⟩, true, Mv.zero, o, n, x2⟩ : Pv) = q2 at *
              have E2 : Hid (q2.d = true ∧ q2.h = ⟨0, 0, 0, 0, 64, f, t⟩ ∧ q2.o = o ∧ q2.n = n ∧ q2.t = x2) := by rw [Hid, ← hq2]; exact ⟨rfl, rfl, rfl, rfl, rfl⟩
              have HK2 : Hid q2.fit := by rw [Hid, ← hq2]; exact ⟨⟨HF.out, HT.out⟩, adr_zeros⟩
              clear hq2
              go_wp2_with fail
              refine hK.out _ _ ⟨hid (F6.out.below BB.out), hid (T6.out.below BB.out), hid (O6.out.below BB.out)⟩ (fun hHeld => ?_)
              clear hK K
              try simp only [List.getElem_toArray, List.getElem_cons_zero, List.getElem_cons_succ, Act.put, List.setIfInBounds_toArray, List.set_cons_zero, List.set_cons_succ]
              refine wpAnyH_ready (rs := [7]) (by kernel_rfl) (by simp) ?_
              refine AllReadyH.cons (o := _) rfl (fun K hK => ?_) AllReadyH.nil
              go_simp
              have hb := balloc (Below.refl w13m.heap.size w13m) (.cells Pv.zero.cs 41)
              have ZZ := hid (Row.new w13m 41 Pv.zero.cs)
              have LZ : Hid (w6.heap.size ≤ w13m.heap.size) := hid BB.out.size
              replace BB := hid (bthen BB.out hb)
              replace SX := hid (own_below SX.out hb)
              clear hb
              refine hK.out _ _ ⟨hid (F6.out.below BB.out), hid (T6.out.below BB.out), hid (O6.out.below BB.out)⟩ (fun hHeld => ?_)
              clear hK K
              try simp only [List.getElem_toArray, List.getElem_cons_zero, List.getElem_cons_succ, Act.put, List.setIfInBounds_toArray, List.set_cons_zero, List.set_cons_succ]
              generalize w13m.alloc (.cells Pv.zero.cs 41) = w14m at *
              generalize w13m.heap.size = gz at *
              have hgr := below_setRow' BB.out LZ.out q2.cs
              have SY := hid (own_setRowT (cs := q2.cs) SX.out ZZ.out (by decide))
              have ZY := hid (ZZ.out.setRow q2.cs)
              refine anyH_st 8 ?qw15mBa rfl rfl 41 _ _ rfl gz q2.cs ?qw15mBb ?qw15mBc 41 Pv.zero.cs ?qw15mBd ?qw15mBe ?qw15mBf ?qw15mBg ?qw15mBh ?_
              case qw15mBa => kernel_rfl
              case qw15mBb => rfl
              case qw15mBc => rfl
              case qw15mBd => exact ZZ.out
              case qw15mBe => rw [Pv.size HK2.out]; exact ptP.info
              case qw15mBf => rw [Pv.size HK2.out, Pv.size Pv.zero_fit]
              case qw15mBg => exact Pv.one _
              case qw15mBh => exact ⟨hid (F6.out.below hgr), hid (T6.out.below hgr), hid (O6.out.below hgr)⟩
              try simp only [List.getElem_toArray, List.getElem_cons_zero, List.getElem_cons_succ, Act.put, List.setIfInBounds_toArray, List.set_cons_zero, List.set_cons_succ]
              refine wpAnyH_done (by kernel_rfl) ?_ _
              go_wp2_with fail
              go_meet
              case rel => exact ⟨gz, q2, x2, rfl, ZY, SY, HXN.out, E2, HK2, hid hgr⟩
            · go_simp
              have hb := balloc (Below.refl w12m.heap.size w12m) (.cells Pv.zero.cs 41)
              have ZZ := hid (Row.new w12m 41 Pv.zero.cs)
              have LZ : Hid (w6.heap.size ≤ w12m.heap.size) := hid BB.out.size
              replace BB := hid (bthen BB.out hb)
              clear hb
              refine hK.out _ _ ⟨hid (F6.out.below BB.out), hid (T6.out.below BB.out), hid (O6.out.below BB.out)⟩ (fun hHeld => ?_)
              clear hK K
              try simp only [List.getElem_toArray, List.getElem_cons_zero, List.getElem_cons_succ, Act.put, List.setIfInBounds_toArray, List.set_cons_zero, List.set_cons_succ]
              generalize w12m.alloc (.cells Pv.zero.cs 41) = w16m at *
              generalize w12m.heap.size = gz at *
              refine wpAnyH_ready (rs := [6]) (by kernel_rfl) (by simp) ?_
              refine AllReadyH.cons (o := _) rfl (fun K hK => ?_) AllReadyH.nil
              go_simp
              refine (dgSend_any f t HF.out HT.out o n _ _ _ T _ (TX6.out.below BB.out) (by rw [HBN.out]; exact HS.out)).mono ?_
              rintro e w17m ⟨⟨x2, rfl, hown, hxl, hxn⟩, hb⟩
              replace ZZ := hid (ZZ.out.below hb)
              rw [HBN.out] at hown hxn
              have SX := hid (own_mono hown.out BB.out.size)
              have HXN := hid hxn
              replace BB := hid (bthen BB.out hb)
              clear hb hown hxl hxn
              generalize hq2 : (⟨⟨0, 0, 0, 0, 64, f, t⟩, true, Mv.zero, o, n, x2⟩ : Pv) = q2 at *
              have E2 : Hid (q2.d = true ∧ q2.h = ⟨0, 0, 0, 0, 64, f, t⟩ ∧ q2.o = o ∧ q2.n = n ∧ q2.t = x2) := by rw [Hid, ← hq2]; exact ⟨rfl, rfl, rfl, rfl, rfl⟩
              have HK2 : Hid q2.fit := by rw [Hid, ← hq2]; exact ⟨⟨HF.out, HT.out⟩, adr_zeros⟩
              clear hq2
              go_wp2_with fail
              refine hK.out _ _ ⟨hid (F6.out.below BB.out), hid (T6.out.below BB.out), hid (O6.out.below BB.out)⟩ (fun hHeld => ?_)
              clear hK K
              try simp only [List.getElem_toArray, List.getElem_cons_zero, List.getElem_cons_succ, Act.put, List.setIfInBounds_toArray, List.set_cons_zero, List.set_cons_succ]
              have hgr := below_setRow' BB.out LZ.out q2.cs
              have SY := hid (own_setRowT (cs := q2.cs) SX.out ZZ.out (by decide))
              have ZY := hid (ZZ.out.setRow q2.cs)
              refine anyH_st 8 ?qw18mBa rfl rfl 41 _ _ rfl gz q2.cs ?qw18mBb ?qw18mBc 41 Pv.zero.cs ?qw18mBd ?qw18mBe ?qw18mBf ?qw18mBg ?qw18mBh ?_
              case qw18mBa => kernel_rfl
              case qw18mBb => rfl
              case qw18mBc => rfl
              case qw18mBd => exact ZZ.out
              case qw18mBe => rw [Pv.size HK2.out]; exact ptP.info
              case qw18mBf => rw [Pv.size HK2.out, Pv.size Pv.zero_fit]
              case qw18mBg => exact Pv.one _
              case qw18mBh => exact ⟨hid (F6.out.below hgr), hid (T6.out.below hgr), hid (O6.out.below hgr)⟩
              try simp only [List.getElem_toArray, List.getElem_cons_zero, List.getElem_cons_succ, Act.put, List.setIfInBounds_toArray, List.set_cons_zero, List.set_cons_succ]
              refine wpAnyH_done (by kernel_rfl) ?_ _
              go_wp2_with fail
              go_meet
              case rel => exact ⟨gz, q2, x2, rfl, ZY, SY, HXN.out, E2, HK2, hid hgr⟩
          · go_simp
            have hb := balloc (Below.refl w6d.heap.size w6d) (.cells Pv.zero.cs 41)
            have ZZ := hid (Row.new w6d 41 Pv.zero.cs)
            have LZ : Hid (w6.heap.size ≤ w6d.heap.size) := hid BB.out.size
            replace BB := hid (bthen BB.out hb)
            clear hb
            refine hK.out _ _ ⟨hid (F6.out.below BB.out), hid (T6.out.below BB.out), hid (O6.out.below BB.out)⟩ (fun hHeld => ?_)
            clear hK K
            try simp only [List.getElem_toArray, List.getElem_cons_zero, List.getElem_cons_succ, Act.put, List.setIfInBounds_toArray, List.set_cons_zero, List.set_cons_succ]
            generalize w6d.alloc (.cells Pv.zero.cs 41) = w19m at *
            generalize w6d.heap.size = gz at *
            refine wpAnyH_ready (rs := [3]) (by kernel_rfl) (by simp) ?_
            refine AllReadyH.cons (o := _) rfl (fun K hK => ?_) AllReadyH.nil
            go_simp
            refine (hopTo_any o _).mono ?_
            rintro e w20m ⟨rfl, hb⟩
            replace ZZ := hid (ZZ.out.below hb)
            replace BB := hid (bthen BB.out hb)
            clear hb
            go_wp2_with fail
            refine hK.out _ _ ⟨hid (F6.out.below BB.out), hid (T6.out.below BB.out), hid (O6.out.below BB.out)⟩ (fun hHeld => ?_)
            clear hK K
            try simp only [List.getElem_toArray, List.getElem_cons_zero, List.getElem_cons_succ, Act.put, List.setIfInBounds_toArray, List.set_cons_zero, List.set_cons_succ]
            refine wpAnyH_ready (rs := [6]) (by kernel_rfl) (by simp) ?_
            refine AllReadyH.cons (o := _) rfl (fun K hK => ?_) AllReadyH.nil
            go_simp
            refine (dgSend_any f t HF.out HT.out o n _ _ _ T _ (TX6.out.below BB.out) (by rw [HBN.out]; exact HS.out)).mono ?_
            rintro e w21m ⟨⟨x2, rfl, hown, hxl, hxn⟩, hb⟩
            replace ZZ := hid (ZZ.out.below hb)
            rw [HBN.out] at hown hxn
            have SX := hid (own_mono hown.out BB.out.size)
            have HXN := hid hxn
            replace BB := hid (bthen BB.out hb)
            clear hb hown hxl hxn
            generalize hq2 : (⟨⟨0, 0, 0, 0, 64, f, t⟩, true, Mv.zero, o, n, x2⟩ : Pv) = q2 at *
            have E2 : Hid (q2.d = true ∧ q2.h = ⟨0, 0, 0, 0, 64, f, t⟩ ∧ q2.o = o ∧ q2.n = n ∧ q2.t = x2) := by rw [Hid, ← hq2]; exact ⟨rfl, rfl, rfl, rfl, rfl⟩
            have HK2 : Hid q2.fit := by rw [Hid, ← hq2]; exact ⟨⟨HF.out, HT.out⟩, adr_zeros⟩
            clear hq2
            go_wp2_with fail
            refine hK.out _ _ ⟨hid (F6.out.below BB.out), hid (T6.out.below BB.out), hid (O6.out.below BB.out)⟩ (fun hHeld => ?_)
            clear hK K
            try simp only [List.getElem_toArray, List.getElem_cons_zero, List.getElem_cons_succ, Act.put, List.setIfInBounds_toArray, List.set_cons_zero, List.set_cons_succ]
            have hgr := below_setRow' BB.out LZ.out q2.cs
            have SY := hid (own_setRowT (cs := q2.cs) SX.out ZZ.out (by decide))
            have ZY := hid (ZZ.out.setRow q2.cs)
            refine anyH_st 8 ?qw22mBa rfl rfl 41 _ _ rfl gz q2.cs ?qw22mBb ?qw22mBc 41 Pv.zero.cs ?qw22mBd ?qw22mBe ?qw22mBf ?qw22mBg ?qw22mBh ?_
            case qw22mBa => kernel_rfl
            case qw22mBb => rfl
            case qw22mBc => rfl
            case qw22mBd => exact ZZ.out
            case qw22mBe => rw [Pv.size HK2.out]; exact ptP.info
            case qw22mBf => rw [Pv.size HK2.out, Pv.size Pv.zero_fit]
            case qw22mBg => exact Pv.one _
            case qw22mBh => exact ⟨hid (F6.out.below hgr), hid (T6.out.below hgr), hid (O6.out.below hgr)⟩
            try simp only [List.getElem_toArray, List.getElem_cons_zero, List.getElem_cons_succ, Act.put, List.setIfInBounds_toArray, List.set_cons_zero, List.set_cons_succ]
            refine wpAnyH_done (by kernel_rfl) ?_ _
            go_wp2_with fail
            go_meet
            case rel => exact ⟨gz, q2, x2, rfl, ZY, SY, HXN.out, E2, HK2, hid hgr⟩
      case rest =>
        obtain ⟨gz, q2, x2, rfl, ZZ, SX, hxn, E2, K2, B8⟩ := hcut
        obtain ⟨xa, xn, xc, xl⟩ := x2
        obtain rfl : xn = bn := hxn
        have B58 := hid (bthen BL.out B8.out)
        have HSM : Hid (sameM q.m.p x.p = true) := hid (by rw [← HQ.out]; show sameM y.p x.p = true; rw [HYP.out]; exact sameM_self _)
        have hqd : q.d = false := by rw [← HQ.out]
        have hqh : q.h = ⟨0, 0, 0, 0, 255, f, t⟩ := by rw [← HQ.out]
        have QM : Hid (q.m.ok w5) := by rw [Hid, ← HQ.out]; exact Y5.out
        have RQ8 := hid (RQ5.out.below B58.out)
        have RX8 := hid (RX5.out.below B58.out)
        have F8 := hid (F6.out.below B8.out)
        have T8 := hid (T6.out.below B8.out)
        have O8 := hid (O6.out.below B8.out)
        have Z8 := ZZ
        have SX8 := SX
        have AL8 := hid (own_below AL.out B8.out)
        have V8 := hid (V5.out.below B58.out)
        have BW8 := hid (bthen B5.out B58.out)
        have X8 := hid (X5.out.below B58.out)
        have QM8 := hid (QM.out.below B58.out)
        have c37 := Pv.rD HK.out RQ8.out
        rw [hqd] at c37
        have hPH := Pv.rH HK.out RQ8.out
        have c4 := hPH.at 4 _ (Hd.at4 q.h)
        have PFh := Part.hdF HK.out.1 hPH
        have PTh := Part.hdT HK.out.1 hPH
        rw [hqh] at c4 PFh PTh
        have PF := hid PFh
        have PT2 := hid PTh
        have heF := eqA_self f HF.out
        have heT := eqA_self t HT.out
        have heO := eqO_self o
        clear hPH PFh PTh hqd hqh BL AL ZZ SX QM F6 T6 O6 TX6 HS
        have HBN2 := HBN
        clear HBN
        go_wp2_with (first | (refine ldAd _ rfl rfl gp 5 rfl f HF.out.1 PF.out ?_) | (refine ldAd _ rfl rfl gp 21 rfl t HT.out.1 PT2.out ?_) | (refine ldAr _ rfl rfl g0 0 rfl f HF.out.1 F8.out.part ?_) | (refine ldAr _ rfl rfl g1 0 rfl t HT.out.1 T8.out.part ?_) | (refine ldM m29 _ rfl rfl gp 38 rfl q.m HK.out.2 (Pv.rM HK.out RQ8.out) ?_) | (refine ldM m29 _ rfl rfl gx 0 rfl x hA.out RX8.out.part ?_))
        refine (cSame_any q.m x _ QM8.out X8.out).mono ?_
        rintro e w9 ⟨rfl, hb⟩
        rw [HSM.out]
        have Z9 := hid (Z8.out.below hb)
        have F9 := hid (F8.out.below hb)
        have T9 := hid (T8.out.below hb)
        have O9 := hid (O8.out.below hb)
        have SX9 := hid (own_below SX8.out hb)
        have AL9 := hid (own_below AL8.out hb)
        have BW9 := hid (bthen BW8.out hb)
        have V9 := hid (V8.out.below hb)
        clear hb c37 c4 PF PT2 F8 T8 O8 Z8 SX8 AL8 V8 BW8
        go_upto_region 14 with fail
        refine wp_region_held_drew (S := fun w' => w'.cell? ⟨gz, 37, none⟩ = some (.bool true) ∧ (w'.cell? ⟨gz, 4, none⟩ = some (.int .i64 64) ∧ (w'.cell? ⟨gz, 71, none⟩ = some (.int .i64 n) ∧ (w'.cell? ⟨gz, 72, none⟩ = some (.slice xa xn xc) ∧ (Hid (Row w' gz 41 q2.cs) ∧ (Hid (Row w' g0 22 (arr f)) ∧ (Hid (Row w' g1 22 (arr t)) ∧ Hid (Row w' g3 29 o.cs)))))))) (by kernel_rfl) ?_ (fun hHeld => ?_)
        · exact ⟨Pk.c37 K2.out E2.out Z9.out, Pk.c4 K2.out E2.out Z9.out, Pk.c71 K2.out E2.out Z9.out, Pk.c72 K2.out E2.out Z9.out, Z9, F9, T9, O9⟩
        have hbd : Below w9.heap.size w9 w9.drew := bdrew (Below.refl _ _) 1
        have Z10 := hid (Z9.out.below hbd)
        have F10 := hid (F9.out.below hbd)
        have T10 := hid (T9.out.below hbd)
        have O10 := hid (O9.out.below hbd)
        have SX10 := hid (own_below SX9.out hbd)
        have AL10 := hid (own_below AL9.out hbd)
        have BW10 := hid (bthen BW9.out hbd)
        have V10 := hid (V9.out.below hbd)
        clear hbd F9 T9 O9 Z9 SX9 AL9 V9 BW9
        generalize w9.drew = w10 at *
        refine wpAnyH_ready (rs := [0]) (by kernel_rfl) (by simp) ?_
        refine AllReadyH.cons (o := _) rfl (fun K hK => ?_) AllReadyH.nil
        go_simp
        refine (dgKnown_any _ V10.out).mono ?_
        rintro e w11 ⟨rfl, hb⟩
        have Z11 := hid (Z10.out.below hb)
        have F11 := hid (F10.out.below hb)
        have T11 := hid (T10.out.below hb)
        have O11 := hid (O10.out.below hb)
        have SX11 := hid (own_below SX10.out hb)
        have AL11 := hid (own_below AL10.out hb)
        have BW11 := hid (bthen BW10.out hb)
        clear hb F10 T10 O10 Z10 SX10 AL10 BW10
        go_wp2_with fail
        refine hK.out _ _ ⟨Pk.c37 K2.out E2.out Z11.out, Pk.c4 K2.out E2.out Z11.out, Pk.c71 K2.out E2.out Z11.out, Pk.c72 K2.out E2.out Z11.out, Z11, F11, T11, O11⟩ (fun hHeld => ?_)
        clear hK K
        try simp only [List.getElem_toArray, List.getElem_cons_zero, List.getElem_cons_succ, Act.put, List.setIfInBounds_toArray, List.set_cons_zero, List.set_cons_succ]
        refine wpAnyH_take (i := 1) (oi := _) (v := ?vuB1) rfl (by kernel_rfl) (by kernel_rfl) (by kernel_rfl) (fun _ _ _ h => h) (Or.inl ⟨by rfl, ?hyuB1⟩) (by assumption) ?restuB1
        case hyuB1 => (intro w hSw; (try dsimp only at hSw); go_split_ands; go_simp; try (with_reducible rfl))
        try simp only [List.getElem_toArray, List.getElem_cons_zero, List.getElem_cons_succ, Act.put, List.setIfInBounds_toArray, List.set_cons_zero, List.set_cons_succ]
        refine wpAnyH_take (i := 2) (oi := _) (v := ?vuB2) rfl (by kernel_rfl) (by kernel_rfl) (by kernel_rfl) (fun _ _ _ h => h) (Or.inl ⟨by rfl, ?hyuB2⟩) (by assumption) ?restuB2
        case hyuB2 => (intro w hSw; (try dsimp only at hSw); go_split_ands; go_simp; try (with_reducible rfl))
        try simp only [List.getElem_toArray, List.getElem_cons_zero, List.getElem_cons_succ, Act.put, List.setIfInBounds_toArray, List.set_cons_zero, List.set_cons_succ]
        refine wpAnyH_take (i := 3) (oi := _) (v := ?vuB3) rfl (by kernel_rfl) (by kernel_rfl) (by kernel_rfl) (fun _ _ _ h => h) (Or.inl ⟨by rfl, ?hyuB3⟩) (by assumption) ?restuB3
        case hyuB3 => (intro w hSw; (try dsimp only at hSw); go_split_ands; go_simp; try (with_reducible rfl))
        try simp only [List.getElem_toArray, List.getElem_cons_zero, List.getElem_cons_succ, Act.put, List.setIfInBounds_toArray, List.set_cons_zero, List.set_cons_succ]
        refine wpAnyH_take (i := 4) (oi := _) (v := ?vuB4) rfl (by kernel_rfl) (by kernel_rfl) (by kernel_rfl) (fun _ _ _ h => h) (Or.inl ⟨by rfl, ?hyuB4⟩) (by assumption) ?restuB4
        case hyuB4 => (intro w hSw; (try dsimp only at hSw); go_split_ands; go_simp; try (with_reducible rfl))
        try simp only [List.getElem_toArray, List.getElem_cons_zero, List.getElem_cons_succ, Act.put, List.setIfInBounds_toArray, List.set_cons_zero, List.set_cons_succ]
        refine wpAnyH_take (i := 5) (oi := _) (v := ?vuB5) rfl (by kernel_rfl) (by kernel_rfl) (by kernel_rfl) (fun _ _ _ h => h) (Or.inl ⟨by rfl, ?hyuB5⟩) (by assumption) ?restuB5
        case hyuB5 => (intro w hSw; (try dsimp only at hSw); go_split_ands; go_simp; try (with_reducible rfl))
        try simp only [List.getElem_toArray, List.getElem_cons_zero, List.getElem_cons_succ, Act.put, List.setIfInBounds_toArray, List.set_cons_zero, List.set_cons_succ]
        refine wpAnyH_take (i := 6) (oi := _) (v := ?vuB6) rfl (by kernel_rfl) (by kernel_rfl) (by kernel_rfl) (fun _ _ _ h => h) (Or.inl ⟨by rfl, ?hyuB6⟩) (by assumption) ?restuB6
        case hyuB6 => (intro w hSw; (try dsimp only at hSw); go_split_ands; go_simp; try (with_reducible rfl))
        try simp only [List.getElem_toArray, List.getElem_cons_zero, List.getElem_cons_succ, Act.put, List.setIfInBounds_toArray, List.set_cons_zero, List.set_cons_succ]
        refine wpAnyH_take (i := 7) (oi := _) (v := ?vuB7) rfl (by kernel_rfl) (by kernel_rfl) (by kernel_rfl) (fun _ _ _ h => h) (Or.inl ⟨by rfl, ?hyuB7⟩) (by assumption) ?restuB7
        case hyuB7 => (intro w hSw; (try dsimp only at hSw); go_split_ands; go_simp; try (with_reducible rfl))
        try simp only [List.getElem_toArray, List.getElem_cons_zero, List.getElem_cons_succ, Act.put, List.setIfInBounds_toArray, List.set_cons_zero, List.set_cons_succ]
        refine wpAnyH_take (i := 8) (oi := _) (v := ?vuB8) rfl (by kernel_rfl) (by kernel_rfl) (by kernel_rfl) (fun _ _ _ h => h) (Or.inl ⟨by rfl, ?hyuB8⟩) (by assumption) ?restuB8
        case hyuB8 => (intro w hSw; (try dsimp only at hSw); go_split_ands; go_simp; try (with_reducible rfl))
        try simp only [List.getElem_toArray, List.getElem_cons_zero, List.getElem_cons_succ, Act.put, List.setIfInBounds_toArray, List.set_cons_zero, List.set_cons_succ]
        refine wpAnyH_take (i := 9) (oi := _) (v := ?vuB9) rfl (by kernel_rfl) (by kernel_rfl) (by kernel_rfl) (fun _ _ _ h => h) (Or.inl ⟨by rfl, ?hyuB9⟩) (by assumption) ?restuB9
        case hyuB9 => (intro w hSw; (try dsimp only at hSw); go_split_ands; go_simp; try (with_reducible rfl))
        try simp only [List.getElem_toArray, List.getElem_cons_zero, List.getElem_cons_succ, Act.put, List.setIfInBounds_toArray, List.set_cons_zero, List.set_cons_succ]
        refine wpAnyH_take (i := 10) (oi := _) (v := ?vuB10) rfl (by kernel_rfl) (by kernel_rfl) (by kernel_rfl) (fun _ _ _ h => h) (Or.inl ⟨by rfl, ?hyuB10⟩) (by assumption) ?restuB10
        case hyuB10 => (intro w hSw; (try dsimp only at hSw); go_split_ands; go_simp; try (with_reducible rfl))
        try simp only [List.getElem_toArray, List.getElem_cons_zero, List.getElem_cons_succ, Act.put, List.setIfInBounds_toArray, List.set_cons_zero, List.set_cons_succ]
        refine wpAnyH_take (i := 11) (oi := _) (v := ?vuB11) rfl (by kernel_rfl) (by kernel_rfl) (by kernel_rfl) (fun _ _ _ h => h) (Or.inl ⟨by rfl, ?hyuB11⟩) (by assumption) ?restuB11
        case hyuB11 => (intro w hSw; (try dsimp only at hSw); go_split_ands; go_simp; try (with_reducible rfl))
        try simp only [List.getElem_toArray, List.getElem_cons_zero, List.getElem_cons_succ, Act.put, List.setIfInBounds_toArray, List.set_cons_zero, List.set_cons_succ]
        refine wpAnyH_take (i := 12) (oi := _) (v := ?vuB12) rfl (by kernel_rfl) (by kernel_rfl) (by kernel_rfl) (fun _ _ _ h => h) (Or.inl ⟨by rfl, ?hyuB12⟩) (by assumption) ?restuB12
        case hyuB12 => (intro w hSw; (try dsimp only at hSw); go_split_ands; go_simp; try (with_reducible rfl))
        try simp only [List.getElem_toArray, List.getElem_cons_zero, List.getElem_cons_succ, Act.put, List.setIfInBounds_toArray, List.set_cons_zero, List.set_cons_succ]
        refine wpAnyH_take (i := 13) (oi := _) (v := ?vuB13) rfl (by kernel_rfl) (by kernel_rfl) (by kernel_rfl) (fun _ _ _ h => h) (Or.inl ⟨by rfl, ?hyuB13⟩) (by assumption) ?restuB13
        case hyuB13 => (intro w hSw; (try dsimp only at hSw); go_split_ands; go_simp; try (with_reducible rfl))
        try simp only [List.getElem_toArray, List.getElem_cons_zero, List.getElem_cons_succ, Act.put, List.setIfInBounds_toArray, List.set_cons_zero, List.set_cons_succ]
        refine wpAnyH_take (i := 14) (oi := _) (v := .agg (arr f)) rfl (by kernel_rfl) (by kernel_rfl) (by kernel_rfl) (fun _ _ _ h => h) (yld41 (by rfl) _ rfl gz 5 rfl f HF.out (fun w h => Pk.pF K2.out E2.out h.2.2.2.2.1.out)) (by assumption) ?_
        try simp only [List.getElem_toArray, List.getElem_cons_zero, List.getElem_cons_succ, Act.put, List.setIfInBounds_toArray, List.set_cons_zero, List.set_cons_succ]
        refine wpAnyH_take (i := 15) (oi := _) (v := .agg (arr f)) rfl (by kernel_rfl) (by kernel_rfl) (by kernel_rfl) (fun _ _ _ h => h) (yld36 (by rfl) _ rfl g0 0 rfl f HF.out (fun w h => h.2.2.2.2.2.1.out.part)) (by assumption) ?_
        try simp only [List.getElem_toArray, List.getElem_cons_zero, List.getElem_cons_succ, Act.put, List.setIfInBounds_toArray, List.set_cons_zero, List.set_cons_succ]
        refine wpAnyH_take (i := 16) (oi := _) (v := ?vuB16) rfl (by kernel_rfl) (by kernel_rfl) (by kernel_rfl) (fun _ _ _ h => h) (Or.inl ⟨by rfl, ?hyuB16⟩) (by assumption) ?restuB16
        case hyuB16 => (intro w hSw; (try dsimp only at hSw); go_split_ands; go_simp; try (with_reducible rfl))
        try simp only [List.getElem_toArray, List.getElem_cons_zero, List.getElem_cons_succ, Act.put, List.setIfInBounds_toArray, List.set_cons_zero, List.set_cons_succ]
        refine wpAnyH_take (i := 17) (oi := _) (v := ?vuB17) rfl (by kernel_rfl) (by kernel_rfl) (by kernel_rfl) (fun _ _ _ h => h) (Or.inl ⟨by rfl, ?hyuB17⟩) (by assumption) ?restuB17
        case hyuB17 => (intro w hSw; (try dsimp only at hSw); go_split_ands; go_simp; try (with_reducible rfl))
        try simp only [List.getElem_toArray, List.getElem_cons_zero, List.getElem_cons_succ, Act.put, List.setIfInBounds_toArray, List.set_cons_zero, List.set_cons_succ]
        refine wpAnyH_take (i := 18) (oi := _) (v := ?vuB18) rfl (by kernel_rfl) (by kernel_rfl) (by kernel_rfl) (fun _ _ _ h => h) (Or.inl ⟨by rfl, ?hyuB18⟩) (by assumption) ?restuB18
        case hyuB18 => (intro w hSw; (try dsimp only at hSw); go_split_ands; go_simp; try (with_reducible rfl))
        try simp only [List.getElem_toArray, List.getElem_cons_zero, List.getElem_cons_succ, Act.put, List.setIfInBounds_toArray, List.set_cons_zero, List.set_cons_succ]
        refine wpAnyH_take (i := 19) (oi := _) (v := ?vuB19) rfl (by kernel_rfl) (by kernel_rfl) (by kernel_rfl) (fun _ _ _ h => h) (Or.inl ⟨by rfl, ?hyuB19⟩) (by assumption) ?restuB19
        case hyuB19 => (intro w hSw; (try dsimp only at hSw); go_split_ands; go_simp; try (with_reducible rfl))
        try simp only [List.getElem_toArray, List.getElem_cons_zero, List.getElem_cons_succ, Act.put, List.setIfInBounds_toArray, List.set_cons_zero, List.set_cons_succ]
        refine wpAnyH_take (i := 20) (oi := _) (v := ?vuB20) rfl (by kernel_rfl) (by kernel_rfl) (by kernel_rfl) (fun _ _ _ h => h) (Or.inl ⟨by rfl, ?hyuB20⟩) (by assumption) ?restuB20
        case hyuB20 => (intro w hSw; (try dsimp only at hSw); go_split_ands; go_simp; try (with_reducible rfl))
        try simp only [List.getElem_toArray, List.getElem_cons_zero, List.getElem_cons_succ, Act.put, List.setIfInBounds_toArray, List.set_cons_zero, List.set_cons_succ]
        refine wpAnyH_take (i := 21) (oi := _) (v := .agg (arr t)) rfl (by kernel_rfl) (by kernel_rfl) (by kernel_rfl) (fun _ _ _ h => h) (yld41 (by rfl) _ rfl gz 21 rfl t HT.out (fun w h => Pk.pT K2.out E2.out h.2.2.2.2.1.out)) (by assumption) ?_
        try simp only [List.getElem_toArray, List.getElem_cons_zero, List.getElem_cons_succ, Act.put, List.setIfInBounds_toArray, List.set_cons_zero, List.set_cons_succ]
        refine wpAnyH_take (i := 22) (oi := _) (v := .agg (arr t)) rfl (by kernel_rfl) (by kernel_rfl) (by kernel_rfl) (fun _ _ _ h => h) (yld36 (by rfl) _ rfl g1 0 rfl t HT.out (fun w h => h.2.2.2.2.2.2.1.out.part)) (by assumption) ?_
        try simp only [List.getElem_toArray, List.getElem_cons_zero, List.getElem_cons_succ, Act.put, List.setIfInBounds_toArray, List.set_cons_zero, List.set_cons_succ]
        refine wpAnyH_take (i := 23) (oi := _) (v := ?vuB23) rfl (by kernel_rfl) (by kernel_rfl) (by kernel_rfl) (fun _ _ _ h => h) (Or.inl ⟨by rfl, ?hyuB23⟩) (by assumption) ?restuB23
        case hyuB23 => (intro w hSw; (try dsimp only at hSw); go_split_ands; go_simp; try (with_reducible rfl))
        try simp only [List.getElem_toArray, List.getElem_cons_zero, List.getElem_cons_succ, Act.put, List.setIfInBounds_toArray, List.set_cons_zero, List.set_cons_succ]
        refine wpAnyH_take (i := 24) (oi := _) (v := ?vuB24) rfl (by kernel_rfl) (by kernel_rfl) (by kernel_rfl) (fun _ _ _ h => h) (Or.inl ⟨by rfl, ?hyuB24⟩) (by assumption) ?restuB24
        case hyuB24 => (intro w hSw; (try dsimp only at hSw); go_split_ands; go_simp; try (with_reducible rfl))
        try simp only [List.getElem_toArray, List.getElem_cons_zero, List.getElem_cons_succ, Act.put, List.setIfInBounds_toArray, List.set_cons_zero, List.set_cons_succ]
        refine wpAnyH_take (i := 25) (oi := _) (v := ?vuB25) rfl (by kernel_rfl) (by kernel_rfl) (by kernel_rfl) (fun _ _ _ h => h) (Or.inl ⟨by rfl, ?hyuB25⟩) (by assumption) ?restuB25
        case hyuB25 => (intro w hSw; (try dsimp only at hSw); go_split_ands; go_simp; try (with_reducible rfl))
        try simp only [List.getElem_toArray, List.getElem_cons_zero, List.getElem_cons_succ, Act.put, List.setIfInBounds_toArray, List.set_cons_zero, List.set_cons_succ]
        refine wpAnyH_take (i := 26) (oi := _) (v := ?vuB26) rfl (by kernel_rfl) (by kernel_rfl) (by kernel_rfl) (fun _ _ _ h => h) (Or.inl ⟨by rfl, ?hyuB26⟩) (by assumption) ?restuB26
        case hyuB26 => (intro w hSw; (try dsimp only at hSw); go_split_ands; go_simp; try (with_reducible rfl))
        try simp only [List.getElem_toArray, List.getElem_cons_zero, List.getElem_cons_succ, Act.put, List.setIfInBounds_toArray, List.set_cons_zero, List.set_cons_succ]
        refine wpAnyH_take (i := 27) (oi := _) (v := .agg o.cs) rfl (by kernel_rfl) (by kernel_rfl) (by kernel_rfl) (fun _ _ _ h => h) (yldOq oh (by rfl) _ rfl gz 66 rfl o (fun w h => Pk.pO K2.out E2.out h.2.2.2.2.1.out)) (by assumption) ?_
        try simp only [List.getElem_toArray, List.getElem_cons_zero, List.getElem_cons_succ, Act.put, List.setIfInBounds_toArray, List.set_cons_zero, List.set_cons_succ]
        refine wpAnyH_take (i := 29) (oi := _) (v := .agg o.cs) rfl (by kernel_rfl) (by kernel_rfl) (by kernel_rfl) (fun _ _ _ h => h) (yldOq or_ (by rfl) _ rfl g3 0 rfl o (fun w h => h.2.2.2.2.2.2.2.out.part)) (by assumption) ?_
        try simp only [List.getElem_toArray, List.getElem_cons_zero, List.getElem_cons_succ, Act.put, List.setIfInBounds_toArray, List.set_cons_zero, List.set_cons_succ]
        refine wpAnyH_ready (rs := [28]) (by kernel_rfl) (by simp) ?_
        refine AllReadyH.cons (o := _) rfl (fun K hK => ?_) AllReadyH.nil
        go_simp
        refine (hopOf_any o _).mono ?_
        rintro e w12 ⟨rfl, hb⟩
        have Z12 := hid (Z11.out.below hb)
        have F12 := hid (F11.out.below hb)
        have T12 := hid (T11.out.below hb)
        have O12 := hid (O11.out.below hb)
        have SX12 := hid (own_below SX11.out hb)
        have AL12 := hid (own_below AL11.out hb)
        have BW12 := hid (bthen BW11.out hb)
        clear hb F11 T11 O11 Z11 SX11 AL11 BW11
        go_wp2_with fail
        refine hK.out _ _ ⟨Pk.c37 K2.out E2.out Z12.out, Pk.c4 K2.out E2.out Z12.out, Pk.c71 K2.out E2.out Z12.out, Pk.c72 K2.out E2.out Z12.out, Z12, F12, T12, O12⟩ (fun hHeld => ?_)
        clear hK K
        try simp only [List.getElem_toArray, List.getElem_cons_zero, List.getElem_cons_succ, Act.put, List.setIfInBounds_toArray, List.set_cons_zero, List.set_cons_succ]
        refine wpAnyH_take (i := 30) (oi := _) (v := ?vuB30) rfl (by kernel_rfl) (by kernel_rfl) (by kernel_rfl) (fun _ _ _ h => h) (Or.inl ⟨by rfl, ?hyuB30⟩) (by assumption) ?restuB30
        case hyuB30 => (intro w hSw; (try dsimp only at hSw); go_split_ands; go_simp; try (with_reducible rfl))
        try simp only [List.getElem_toArray, List.getElem_cons_zero, List.getElem_cons_succ, Act.put, List.setIfInBounds_toArray, List.set_cons_zero, List.set_cons_succ]
        refine wpAnyH_take (i := 31) (oi := _) (v := ?vuB31) rfl (by kernel_rfl) (by kernel_rfl) (by kernel_rfl) (fun _ _ _ h => h) (Or.inl ⟨by rfl, ?hyuB31⟩) (by assumption) ?restuB31
        case hyuB31 => (intro w hSw; (try dsimp only at hSw); go_split_ands; go_simp; try (with_reducible rfl))
        try simp only [List.getElem_toArray, List.getElem_cons_zero, List.getElem_cons_succ, Act.put, List.setIfInBounds_toArray, List.set_cons_zero, List.set_cons_succ]
        refine wpAnyH_take (i := 32) (oi := _) (v := ?vuB32) rfl (by kernel_rfl) (by kernel_rfl) (by kernel_rfl) (fun _ _ _ h => h) (Or.inl ⟨by rfl, ?hyuB32⟩) (by assumption) ?restuB32
        case hyuB32 => (intro w hSw; (try dsimp only at hSw); go_split_ands; go_simp; try (with_reducible rfl))
        try simp only [List.getElem_toArray, List.getElem_cons_zero, List.getElem_cons_succ, Act.put, List.setIfInBounds_toArray, List.set_cons_zero, List.set_cons_succ]
        refine wpAnyH_take (i := 33) (oi := _) (v := ?vuB33) rfl (by kernel_rfl) (by kernel_rfl) (by kernel_rfl) (fun _ _ _ h => h) (Or.inl ⟨by rfl, ?hyuB33⟩) (by assumption) ?restuB33
        case hyuB33 => (intro w hSw; (try dsimp only at hSw); go_split_ands; go_simp; try (with_reducible rfl))
        try simp only [List.getElem_toArray, List.getElem_cons_zero, List.getElem_cons_succ, Act.put, List.setIfInBounds_toArray, List.set_cons_zero, List.set_cons_succ]
        refine wpAnyH_take (i := 34) (oi := _) (v := ?vuB34) rfl (by kernel_rfl) (by kernel_rfl) (by kernel_rfl) (fun _ _ _ h => h) (Or.inl ⟨by rfl, ?hyuB34⟩) (by assumption) ?restuB34
        case hyuB34 => (intro w hSw; (try dsimp only at hSw); go_split_ands; go_simp; try (with_reducible rfl))
        try simp only [List.getElem_toArray, List.getElem_cons_zero, List.getElem_cons_succ, Act.put, List.setIfInBounds_toArray, List.set_cons_zero, List.set_cons_succ]
        refine wpAnyH_take (i := 35) (oi := _) (v := ?vuB35) rfl (by kernel_rfl) (by kernel_rfl) (by kernel_rfl) (fun _ _ _ h => h) (Or.inl ⟨by rfl, ?hyuB35⟩) (by assumption) ?restuB35
        case hyuB35 => (intro w hSw; (try dsimp only at hSw); go_split_ands; go_simp; try (with_reducible rfl))
        try simp only [List.getElem_toArray, List.getElem_cons_zero, List.getElem_cons_succ, Act.put, List.setIfInBounds_toArray, List.set_cons_zero, List.set_cons_succ]
        refine wpAnyH_take (i := 36) (oi := _) (v := ?vuB36) rfl (by kernel_rfl) (by kernel_rfl) (by kernel_rfl) (fun _ _ _ h => h) (Or.inl ⟨by rfl, ?hyuB36⟩) (by assumption) ?restuB36
        case hyuB36 => (intro w hSw; (try dsimp only at hSw); go_split_ands; go_simp; try (with_reducible rfl))
        try simp only [List.getElem_toArray, List.getElem_cons_zero, List.getElem_cons_succ, Act.put, List.setIfInBounds_toArray, List.set_cons_zero, List.set_cons_succ]
        refine wpAnyH_take (i := 37) (oi := _) (v := ?vuB37) rfl (by kernel_rfl) (by kernel_rfl) (by kernel_rfl) (fun _ _ _ h => h) (Or.inl ⟨by rfl, ?hyuB37⟩) (by assumption) ?restuB37
        case hyuB37 => (intro w hSw; (try dsimp only at hSw); go_split_ands; go_simp; try (with_reducible rfl))
        try simp only [List.getElem_toArray, List.getElem_cons_zero, List.getElem_cons_succ, Act.put, List.setIfInBounds_toArray, List.set_cons_zero, List.set_cons_succ]
        refine wpAnyH_take (i := 38) (oi := _) (v := ?vuB38) rfl (by kernel_rfl) (by kernel_rfl) (by kernel_rfl) (fun _ _ _ h => h) (Or.inl ⟨by rfl, ?hyuB38⟩) (by assumption) ?restuB38
        case hyuB38 => (intro w hSw; (try dsimp only at hSw); go_split_ands; go_simp; try (with_reducible rfl))
        try simp only [List.getElem_toArray, List.getElem_cons_zero, List.getElem_cons_succ, Act.put, List.setIfInBounds_toArray, List.set_cons_zero, List.set_cons_succ]
        refine wpAnyH_take (i := 39) (oi := _) (v := ?vuB39) rfl (by kernel_rfl) (by kernel_rfl) (by kernel_rfl) (fun _ _ _ h => h) (Or.inl ⟨by rfl, ?hyuB39⟩) (by assumption) ?restuB39
        case hyuB39 => (intro w hSw; (try dsimp only at hSw); go_split_ands; go_simp; try (with_reducible rfl))
        try simp only [List.getElem_toArray, List.getElem_cons_zero, List.getElem_cons_succ, Act.put, List.setIfInBounds_toArray, List.set_cons_zero, List.set_cons_succ]
        refine wpAnyH_take (i := 40) (oi := _) (v := ?vuB40) rfl (by kernel_rfl) (by kernel_rfl) (by kernel_rfl) (fun _ _ _ h => h) (Or.inl ⟨by rfl, ?hyuB40⟩) (by assumption) ?restuB40
        case hyuB40 => (intro w hSw; (try dsimp only at hSw); go_split_ands; go_simp; try (with_reducible rfl))
        try simp only [List.getElem_toArray, List.getElem_cons_zero, List.getElem_cons_succ, Act.put, List.setIfInBounds_toArray, List.set_cons_zero, List.set_cons_succ]
        refine wpAnyH_take (i := 41) (oi := _) (v := ?vuB41) rfl (by kernel_rfl) (by kernel_rfl) (by kernel_rfl) (fun _ _ _ h => h) (Or.inl ⟨by rfl, ?hyuB41⟩) (by assumption) ?restuB41
        case hyuB41 => (intro w hSw; (try dsimp only at hSw); go_split_ands; go_simp; try (with_reducible rfl))
        try simp only [List.getElem_toArray, List.getElem_cons_zero, List.getElem_cons_succ, Act.put, List.setIfInBounds_toArray, List.set_cons_zero, List.set_cons_succ]
        refine wpAnyH_ready (rs := [42]) (by kernel_rfl) (by simp) ?_
        refine AllReadyH.cons (o := _) rfl (fun K hK => ?_) AllReadyH.nil
        go_simp
        refine (same_any xa a4 xn xc xn cap4 (bytes4 T) (bytes4 T) _ (owns_lies' SX12.out HBN2.out) (owns_lies' AL12.out HBN2.out)).mono ?_
        rintro e w13 ⟨rfl, qq, rfl⟩
        rw [beq_self_eq_true]
        have hb : Below w12.heap.size w12 (w12.drewN qq) := bdrew (Below.refl _ _) qq
        have Z13 := hid (Z12.out.below hb)
        have F13 := hid (F12.out.below hb)
        have T13 := hid (T12.out.below hb)
        have O13 := hid (O12.out.below hb)
        have SX13 := hid (own_below SX12.out hb)
        have AL13 := hid (own_below AL12.out hb)
        have BW13 := hid (bthen BW12.out hb)
        clear hb F12 T12 O12 Z12 SX12 AL12 BW12
        go_wp2_with fail
        refine hK.out _ _ ⟨Pk.c37 K2.out E2.out Z13.out, Pk.c4 K2.out E2.out Z13.out, Pk.c71 K2.out E2.out Z13.out, Pk.c72 K2.out E2.out Z13.out, Z13, F13, T13, O13⟩ (fun hHeld => ?_)
        clear hK K
        try simp only [List.getElem_toArray, List.getElem_cons_zero, List.getElem_cons_succ, Act.put, List.setIfInBounds_toArray, List.set_cons_zero, List.set_cons_succ]
        refine wpAnyH_take (i := 43) (oi := _) (v := ?vuB43) rfl (by kernel_rfl) (by kernel_rfl) (by kernel_rfl) (fun _ _ _ h => h) (Or.inl ⟨by rfl, ?hyuB43⟩) (by assumption) ?restuB43
        case hyuB43 => (intro w hSw; (try dsimp only at hSw); go_split_ands; go_simp; try (with_reducible rfl))
        try simp only [List.getElem_toArray, List.getElem_cons_zero, List.getElem_cons_succ, Act.put, List.setIfInBounds_toArray, List.set_cons_zero, List.set_cons_succ]
        refine wpAnyH_take (i := 44) (oi := _) (v := ?vuB44) rfl (by kernel_rfl) (by kernel_rfl) (by kernel_rfl) (fun _ _ _ h => h) (Or.inl ⟨by rfl, ?hyuB44⟩) (by assumption) ?restuB44
        case hyuB44 => (intro w hSw; (try dsimp only at hSw); go_split_ands; go_simp; try (with_reducible rfl))
        try simp only [List.getElem_toArray, List.getElem_cons_zero, List.getElem_cons_succ, Act.put, List.setIfInBounds_toArray, List.set_cons_zero, List.set_cons_succ]
        refine wpAnyH_done (by kernel_rfl) ?_ _
        go_wp2_with fail
        go_ret
        exact ⟨rfl, BW13.out⟩

end Go.Proofs.YtbklpelikaapoaaGreatDoor
