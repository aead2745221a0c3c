/- Are two messages the same? The document's answer, where they differ first. · Are two messages the same? The document's answer. · The law's To: what is its own. -/
import Derived.Test.YtbfjkhafdkhhmaaDoorSc
import Derived.Test.YtbfjkhafdkhhmaaDoorM32
import Derived.Test.YtbfjkhafdkhhmaaDoorM13
import Derived.Test.YtbfjkhafdkhhmaaDoorTw
namespace Go.Proofs.YtbfjkhafdkhhmaaDoor
open Go.ChangeShapes Go.WideShapes Go.ChangeAt Go.RowKit Go.Deep
set_option linter.unusedVariables false
set_option linter.unusedSimpArgs false

set_option maxRecDepth 100000 in
set_option maxHeartbeats 3200000 in
theorem refSame10 (m x : Mv) (w : World) (hm : m.ok w) (hx : x.ok w) (bc : (m.c == x.c) = true) (bi : (m.i == x.i) = true) (bv : (m.v == x.v) = true) (br : (m.r == x.r) = true) (bmo : (m.mo == x.mo) = true) (bpf : (m.pf == x.pf) = true) (bd : (m.d == x.d) = true) (bsq : (m.sq == x.sq) = true) (bst : (m.st == x.st) = true) (bg : (m.g == x.g) = true) (ba : (m.a == x.a) = false) : Calls Tryd.prog 12 #[.agg m.cs, .agg x.cs] w fun e w' => e = .returned (.bool (sameM m.p x.p)) ∧ Below w.heap.size w w' := by
  have HA := hid hm.ro
  have HB := hid hx.ro
  have R1 := hid ((Row.new w 25 m.cs).alloc (.cells x.cs 25))
  have X1 := hid (Row.new (w.alloc (.cells m.cs 25)) 25 x.cs)
  have B1 := hid (balloc (balloc (Below.refl w.heap.size w) (.cells m.cs 25)) (.cells x.cs 25))
  have hs1 : (w.alloc (.cells m.cs 25)).heap.size = w.heap.size + 1 := World.size_alloc ..
  rw [hs1] at X1
  have O1 := hid (hm.o.below B1.out)
  have P1 := hid (hx.o.below B1.out)
  have hq := eq36 m.ro x.ro hm.ro.1 hx.ro.1
  have HS : Hid (sameM m.p x.p = ((m.c == x.c) && ((m.i == x.i) && ((m.v == x.v) && ((m.r == x.r) && ((m.mo == x.mo) && ((m.pf == x.pf) && ((m.d == x.d) && ((m.sq == x.sq) && ((m.st == x.st) && ((m.g == x.g) && ((m.a == x.a) && ((m.ro == x.ro) && allB (pos m.L) (pos x.L)))))))))))))) := hid (HSP m x)
  rw [bc, bi, bv, br, bmo, bpf, bd, bsq, bst, bg, ba] at HS
  clear hm hx
  go_enter Tryd.func12, Tryd.ntmps12
  go_upto_region 1 with fail
  generalize hw1 : (w.alloc (.cells m.cs 25)).alloc (.cells x.cs 25) = w1 at *
  generalize hg1 : w.heap.size = g1 at *
  clear hw1 hs1
  have c0 := (R1.out.cell 0).trans m.at0
  have d0 := (X1.out.cell 0).trans x.at0
  have c1 := (R1.out.cell 1).trans m.at1
  have d1 := (X1.out.cell 1).trans x.at1
  have c2 := (R1.out.cell 2).trans m.at2
  have d2 := (X1.out.cell 2).trans x.at2
  have c3 := (R1.out.cell 3).trans m.at3
  have d3 := (X1.out.cell 3).trans x.at3
  have c4 := (R1.out.cell 4).trans m.at4
  have d4 := (X1.out.cell 4).trans x.at4
  have c5 := (R1.out.cell 5).trans m.at5
  have d5 := (X1.out.cell 5).trans x.at5
  have c6 := (R1.out.cell 6).trans m.at6
  have d6 := (X1.out.cell 6).trans x.at6
  have c7 := (R1.out.cell 7).trans m.at7
  have d7 := (X1.out.cell 7).trans x.at7
  have c8 := (R1.out.cell 8).trans m.at8
  have d8 := (X1.out.cell 8).trans x.at8
  have c9 := (R1.out.cell 9).trans m.at9
  have d9 := (X1.out.cell 9).trans x.at9
  have c10 := (R1.out.cell 10).trans m.at10
  have d10 := (X1.out.cell 10).trans x.at10
  have PA := hid (R1.out.part.mvA HA.out)
  have PB := hid (X1.out.part.mvA HB.out)
  go_wp2_with (with_reducible refine wpl_id ?_; first | (refine ld36 _ rfl rfl _ _ rfl m.ro HA.out PA.out ?_) | (refine ld36 _ rfl rfl _ _ rfl x.ro HB.out PB.out ?_))
  go_ret
  exact ⟨ret_bool (by rw [HS.out]; rfl), by rw [hg1]; exact B1.out⟩
set_option maxRecDepth 100000 in
set_option maxHeartbeats 3200000 in
theorem refSame11 (m x : Mv) (w : World) (hm : m.ok w) (hx : x.ok w) (bc : (m.c == x.c) = true) (bi : (m.i == x.i) = true) (bv : (m.v == x.v) = true) (br : (m.r == x.r) = true) (bmo : (m.mo == x.mo) = true) (bpf : (m.pf == x.pf) = true) (bd : (m.d == x.d) = true) (bsq : (m.sq == x.sq) = true) (bst : (m.st == x.st) = true) (bg : (m.g == x.g) = true) (ba : (m.a == x.a) = true) (bro : (m.ro == x.ro) = false) : Calls Tryd.prog 12 #[.agg m.cs, .agg x.cs] w fun e w' => e = .returned (.bool (sameM m.p x.p)) ∧ Below w.heap.size w w' := by
  have HA := hid hm.ro
  have HB := hid hx.ro
  have R1 := hid ((Row.new w 25 m.cs).alloc (.cells x.cs 25))
  have X1 := hid (Row.new (w.alloc (.cells m.cs 25)) 25 x.cs)
  have B1 := hid (balloc (balloc (Below.refl w.heap.size w) (.cells m.cs 25)) (.cells x.cs 25))
  have hs1 : (w.alloc (.cells m.cs 25)).heap.size = w.heap.size + 1 := World.size_alloc ..
  rw [hs1] at X1
  have O1 := hid (hm.o.below B1.out)
  have P1 := hid (hx.o.below B1.out)
  have hq := eq36 m.ro x.ro hm.ro.1 hx.ro.1
  have HS : Hid (sameM m.p x.p = ((m.c == x.c) && ((m.i == x.i) && ((m.v == x.v) && ((m.r == x.r) && ((m.mo == x.mo) && ((m.pf == x.pf) && ((m.d == x.d) && ((m.sq == x.sq) && ((m.st == x.st) && ((m.g == x.g) && ((m.a == x.a) && ((m.ro == x.ro) && allB (pos m.L) (pos x.L)))))))))))))) := hid (HSP m x)
  rw [bc, bi, bv, br, bmo, bpf, bd, bsq, bst, bg, ba, bro] at HS
  rw [bro] at hq
  clear hm hx
  go_enter Tryd.func12, Tryd.ntmps12
  go_upto_region 1 with fail
  generalize hw1 : (w.alloc (.cells m.cs 25)).alloc (.cells x.cs 25) = w1 at *
  generalize hg1 : w.heap.size = g1 at *
  clear hw1 hs1
  have c0 := (R1.out.cell 0).trans m.at0
  have d0 := (X1.out.cell 0).trans x.at0
  have c1 := (R1.out.cell 1).trans m.at1
  have d1 := (X1.out.cell 1).trans x.at1
  have c2 := (R1.out.cell 2).trans m.at2
  have d2 := (X1.out.cell 2).trans x.at2
  have c3 := (R1.out.cell 3).trans m.at3
  have d3 := (X1.out.cell 3).trans x.at3
  have c4 := (R1.out.cell 4).trans m.at4
  have d4 := (X1.out.cell 4).trans x.at4
  have c5 := (R1.out.cell 5).trans m.at5
  have d5 := (X1.out.cell 5).trans x.at5
  have c6 := (R1.out.cell 6).trans m.at6
  have d6 := (X1.out.cell 6).trans x.at6
  have c7 := (R1.out.cell 7).trans m.at7
  have d7 := (X1.out.cell 7).trans x.at7
  have c8 := (R1.out.cell 8).trans m.at8
  have d8 := (X1.out.cell 8).trans x.at8
  have c9 := (R1.out.cell 9).trans m.at9
  have d9 := (X1.out.cell 9).trans x.at9
  have c10 := (R1.out.cell 10).trans m.at10
  have d10 := (X1.out.cell 10).trans x.at10
  have PA := hid (R1.out.part.mvA HA.out)
  have PB := hid (X1.out.part.mvA HB.out)
  go_wp2_with (with_reducible refine wpl_id ?_; first | (refine ld36 _ rfl rfl _ _ rfl m.ro HA.out PA.out ?_) | (refine ld36 _ rfl rfl _ _ rfl x.ro HB.out PB.out ?_))
  go_ret
  exact ⟨ret_bool (by rw [HS.out]; rfl), by rw [hg1]; exact B1.out⟩
set_option maxRecDepth 100000 in
set_option maxHeartbeats 3200000 in
theorem refSame12 (m x : Mv) (w : World) (hm : m.ok w) (hx : x.ok w) (bc : (m.c == x.c) = true) (bi : (m.i == x.i) = true) (bv : (m.v == x.v) = true) (br : (m.r == x.r) = true) (bmo : (m.mo == x.mo) = true) (bpf : (m.pf == x.pf) = true) (bd : (m.d == x.d) = true) (bsq : (m.sq == x.sq) = true) (bst : (m.st == x.st) = true) (bg : (m.g == x.g) = true) (ba : (m.a == x.a) = true) (bro : (m.ro == x.ro) = true) : Calls Tryd.prog 12 #[.agg m.cs, .agg x.cs] w fun e w' => e = .returned (.bool (sameM m.p x.p)) ∧ Below w.heap.size w w' := by
  have HA := hid hm.ro
  have HB := hid hx.ro
  have R1 := hid ((Row.new w 25 m.cs).alloc (.cells x.cs 25))
  have X1 := hid (Row.new (w.alloc (.cells m.cs 25)) 25 x.cs)
  have B1 := hid (balloc (balloc (Below.refl w.heap.size w) (.cells m.cs 25)) (.cells x.cs 25))
  have hs1 : (w.alloc (.cells m.cs 25)).heap.size = w.heap.size + 1 := World.size_alloc ..
  rw [hs1] at X1
  have O1 := hid (hm.o.below B1.out)
  have P1 := hid (hx.o.below B1.out)
  have hq := eq36 m.ro x.ro hm.ro.1 hx.ro.1
  have HS : Hid (sameM m.p x.p = ((m.c == x.c) && ((m.i == x.i) && ((m.v == x.v) && ((m.r == x.r) && ((m.mo == x.mo) && ((m.pf == x.pf) && ((m.d == x.d) && ((m.sq == x.sq) && ((m.st == x.st) && ((m.g == x.g) && ((m.a == x.a) && ((m.ro == x.ro) && allB (pos m.L) (pos x.L)))))))))))))) := hid (HSP m x)
  rw [bc, bi, bv, br, bmo, bpf, bd, bsq, bst, bg, ba, bro] at HS
  rw [bro] at hq
  clear hm hx
  go_enter Tryd.func12, Tryd.ntmps12
  go_upto_region 1 with fail
  generalize hw1 : (w.alloc (.cells m.cs 25)).alloc (.cells x.cs 25) = w1 at *
  generalize hg1 : w.heap.size = g1 at *
  clear hw1 hs1
  have c0 := (R1.out.cell 0).trans m.at0
  have d0 := (X1.out.cell 0).trans x.at0
  have c1 := (R1.out.cell 1).trans m.at1
  have d1 := (X1.out.cell 1).trans x.at1
  have c2 := (R1.out.cell 2).trans m.at2
  have d2 := (X1.out.cell 2).trans x.at2
  have c3 := (R1.out.cell 3).trans m.at3
  have d3 := (X1.out.cell 3).trans x.at3
  have c4 := (R1.out.cell 4).trans m.at4
  have d4 := (X1.out.cell 4).trans x.at4
  have c5 := (R1.out.cell 5).trans m.at5
  have d5 := (X1.out.cell 5).trans x.at5
  have c6 := (R1.out.cell 6).trans m.at6
  have d6 := (X1.out.cell 6).trans x.at6
  have c7 := (R1.out.cell 7).trans m.at7
  have d7 := (X1.out.cell 7).trans x.at7
  have c8 := (R1.out.cell 8).trans m.at8
  have d8 := (X1.out.cell 8).trans x.at8
  have c9 := (R1.out.cell 9).trans m.at9
  have d9 := (X1.out.cell 9).trans x.at9
  have c10 := (R1.out.cell 10).trans m.at10
  have d10 := (X1.out.cell 10).trans x.at10
  have c27 := (R1.out.cell 27).trans (Mv.at27 HA.out)
  have d27 := (X1.out.cell 27).trans (Mv.at27 HB.out)
  have PA := hid (R1.out.part.mvA HA.out)
  have PB := hid (X1.out.part.mvA HB.out)
  go_wp2_with (with_reducible refine wpl_id ?_; first | (refine ld36 _ rfl rfl _ _ rfl m.ro HA.out PA.out ?_) | (refine ld36 _ rfl rfl _ _ rfl x.ro HB.out PB.out ?_))
  refine (optRefAll_any m.oa x.oa m.on m.oc x.on x.oc m.L x.L _ O1.out P1.out).mono ?_
  rintro e w2 ⟨rfl, hb2⟩
  have B2 : Hid (Below g1 w w2) := hid (B1.out.trans (hb2.mono (by rw [← hg1]; exact B1.out.size)))
  clear hb2
  go_wp2_with fail
  go_ret
  exact ⟨ret_bool (by rw [HS.out]; simp), by rw [hg1]; exact B2.out⟩
end Go.Proofs.YtbfjkhafdkhhmaaDoor

namespace Go.Proofs.YtbfjkhafdkhhmaaDoor
open Go.ChangeShapes Go.WideShapes Go.ChangeAt Go.RowKit Go.Deep
set_option linter.unusedVariables false
set_option linter.unusedSimpArgs false

theorem refSameM_any (m x : Mv) (w : World) (hm : m.ok w) (hx : x.ok w) : Calls Tryd.prog 12 #[.agg m.cs, .agg x.cs] w fun e w' => e = .returned (.bool (sameM m.p x.p)) ∧ Below w.heap.size w w' := by
  cases bc : (m.c == x.c)
  · exact refSame0 m x w hm hx bc
  · cases bi : (m.i == x.i)
    · exact refSame1 m x w hm hx bc bi
    · cases bv : (m.v == x.v)
      · exact refSame2 m x w hm hx bc bi bv
      · cases br : (m.r == x.r)
        · exact refSame3 m x w hm hx bc bi bv br
        · cases bmo : (m.mo == x.mo)
          · exact refSame4 m x w hm hx bc bi bv br bmo
          · cases bpf : (m.pf == x.pf)
            · exact refSame5 m x w hm hx bc bi bv br bmo bpf
            · cases bd : (m.d == x.d)
              · exact refSame6 m x w hm hx bc bi bv br bmo bpf bd
              · cases bsq : (m.sq == x.sq)
                · exact refSame7 m x w hm hx bc bi bv br bmo bpf bd bsq
                · cases bst : (m.st == x.st)
                  · exact refSame8 m x w hm hx bc bi bv br bmo bpf bd bsq bst
                  · cases bg : (m.g == x.g)
                    · exact refSame9 m x w hm hx bc bi bv br bmo bpf bd bsq bst bg
                    · cases ba : (m.a == x.a)
                      · exact refSame10 m x w hm hx bc bi bv br bmo bpf bd bsq bst bg ba
                      · cases bro : (m.ro == x.ro)
                        · exact refSame11 m x w hm hx bc bi bv br bmo bpf bd bsq bst bg ba bro
                        · exact refSame12 m x w hm hx bc bi bv br bmo bpf bd bsq bst bg ba bro
end Go.Proofs.YtbfjkhafdkhhmaaDoor

namespace Go.Proofs.YtbfjkhafdkhhmaaDoor
open Go.ChangeShapes Go.WideShapes Go.ChangeAt Go.RowKit Go.Deep
set_option linter.unusedVariables false
set_option linter.unusedSimpArgs false

theorem lies_ahead {w w' : World} {B g : Nat} {a : Option Addr} {n cap : Nat} {F : List Int} (h : Lies .u8 w a n cap F) (ha : ∀ x, a = some x → 0 < n → x.block < B) (hg : w.grownBy w' (some g)) (hB : B ≤ g) (hw : B ≤ w.heap.size) : Lies .u8 w' a n cap F := by
  refine ⟨h.1, h.2.1, h.2.2.1, h.2.2.2.1, fun k hk => ?_⟩
  obtain ⟨b, off, he, hc⟩ := h.2.2.2.2 k hk
  have hb : b < B := ha ⟨b, off, none⟩ he (by omega)
  refine ⟨b, off, he, ?_⟩
  have := hg.block b (by omega) (fun e => by have := Option.some.inj e; omega)
  simp only [World.cell?, this]
  exact hc
/-- An option whose numbers are the call's own (from b on); its text lies ahead of B. -/
structure Mt (b B : Nat) (w : World) (o : Ov) : Prop where
  n : w.ownsRow b 3 1 o.n.v o.n.l.length (i64s o.n.l)
  nn : o.n.n = o.n.l.length
  ad : Adr o.ad
  t : Lies .u8 w o.t.a o.t.n o.t.cap o.t.l
  tb : ∀ x, o.t.a = some x → 0 < o.t.n → x.block < B
  oct : Oct o.t.l
theorem Mt.ok {b B : Nat} {w : World} {o : Ov} (h : Mt b B w o) : o.ok w := by
  refine ⟨?_, h.ad, h.t, h.oct⟩
  obtain ⟨a, cap, e, hl⟩ := owns_liesk h.n
  have e1 : Value.slice o.n.a o.n.n o.n.cap = .slice a o.n.l.length cap := e
  injection e1 with e2 e3 e4
  rw [e2, e3, e4]; exact hl
theorem Mt.below {b B : Nat} {w w' : World} {o : Ov} (h : Mt b B w o) (hb : Below w.heap.size w w') : Mt b B w' o := ⟨own_below h.n hb, h.nn, h.ad, h.t.below hb, h.tb, h.oct⟩
theorem Mt.row {b B : Nat} {w w' : World} {o : Ov} {g : Nat} {c : Array Value} (h : Mt b B w o) (hr : Row w g 29 c) (hg : w.grownBy w' (some g)) (hB : B ≤ g) (hw : B ≤ w.heap.size) : Mt b B w' o :=
  ⟨h.n.kept hg (.inr (own_row h.n hr (by decide))), h.nn, h.ad, lies_ahead h.t h.tb hg hB hw, h.tb, h.oct⟩
structure MtM (b B : Nat) (w : World) (m : Mv) : Prop where
  ro : Adr m.ro
  own : w.ownsRow b 54 19 (.slice m.oa m.on m.oc) m.on (ocs m.L)
  all : ∀ o ∈ m.L, Mt b B w o
  len : m.L.length = m.on
theorem MtM.ok {b B : Nat} {w : World} {m : Mv} (h : MtM b B w m) : m.ok w := ⟨h.ro, opts_own h.len h.own (fun o ho => (h.all o ho).ok)⟩
theorem MtM.below {b B : Nat} {w w' : World} {m : Mv} (h : MtM b B w m) (hb : Below w.heap.size w w') : MtM b B w' m := ⟨h.ro, own_below h.own hb, fun o ho => (h.all o ho).below hb, h.len⟩
theorem MtM.row {b B : Nat} {w w' : World} {m : Mv} {g : Nat} {c : Array Value} (h : MtM b B w m) (hr : Row w g 29 c) (hg : w.grownBy w' (some g)) (hB : B ≤ g) (hw : B ≤ w.heap.size) : MtM b B w' m :=
  ⟨h.ro, h.own.kept hg (.inr (own_row h.own hr (by decide))), fun o ho => (h.all o ho).row hr hg hB hw, h.len⟩
set_option maxRecDepth 100000 in
set_option maxHeartbeats 1600000 in
theorem cTo_own (W0 : World) (m : Mv) (w : World) (hm0 : m.ok W0) (hb0 : Below W0.heap.size W0 w) (hwf : Wfo m.L) : Calls Tryd.prog 6 #[.agg m.cs] w fun e w' => (∃ m' : Mv, e = .returned (.agg m'.cs) ∧ m'.on ≤ 20 ∧ Hid (MtM W0.heap.size W0.heap.size w' m') ∧ Hid (Wfo m'.L)) ∧ Below w.heap.size w w' := by
  have hz := zmv
  have hm := hm0.below hb0
  have HM0 := hid hm0
  have HB0 := hid hb0
  have HA := hid hm.ro
  have R1 := hid ((Row.new w 25 m.cs).alloc (.cells Mv.zero.cs 29))
  have Z1 := hid (Row.new (w.alloc (.cells m.cs 25)) 29 Mv.zero.cs)
  have B1 := hid (balloc (balloc (Below.refl w.heap.size w) (.cells m.cs 25)) (.cells Mv.zero.cs 29))
  have hs1 : (w.alloc (.cells m.cs 25)).heap.size = w.heap.size + 1 := World.size_alloc ..
  have hs2 : ((w.alloc (.cells m.cs 25)).alloc (.cells Mv.zero.cs 29)).heap.size = w.heap.size + 2 := by rw [World.size_alloc, hs1]
  have HOm := hid hm.o
  have O1 := hid (hm.o.below B1.out)
  have HW := hid hwf
  rw [hs1] at Z1
  clear hm hm0 hb0
  go_enter Tryd.func6, Tryd.ntmps6
  go_upto_region 1 with fail
  generalize hw1 : (w.alloc (.cells m.cs 25)).alloc (.cells Mv.zero.cs 29) = w1 at *
  have B1 : Hid (Below w.heap.size w w1.drew) := hid (B1.out.trans ⟨rfl, rfl, rfl, Nat.le_refl _, fun _ _ => rfl⟩)
  have R1 : Hid (Row w1.drew w.heap.size 25 m.cs) := R1
  have Z1 : Hid (Row w1.drew (w.heap.size + 1) 29 Mv.zero.cs) := Z1
  have O1 : Hid (Opts w1.drew m.oa m.on m.oc m.L) := hid (O1.out.below (bdrew (Below.refl _ _) 1))
  have hs2 : w1.drew.heap.size = w.heap.size + 2 := hs2
  generalize hg0 : w.heap.size = g0 at *
  clear hw1 hs1 hz
  refine wp_region_held_drew (S := fun w' => w'.cell? ⟨g0, 0, none⟩ = some (.int .i64 m.c) ∧ (w'.cell? ⟨g0, 1, none⟩ = some (.int .i64 m.i) ∧ (w'.cell? ⟨g0, 2, none⟩ = some (.int .i64 m.v) ∧ (w'.cell? ⟨g0, 3, none⟩ = some (.int .i64 m.r) ∧ (w'.cell? ⟨g0, 4, none⟩ = some (.int .i64 m.mo) ∧ (w'.cell? ⟨g0, 5, none⟩ = some (.int .i64 m.pf) ∧ (w'.cell? ⟨g0, 6, none⟩ = some (.int .i64 m.d) ∧ (w'.cell? ⟨g0, 7, none⟩ = some (.int .i64 m.sq) ∧ (w'.cell? ⟨g0, 8, none⟩ = some (.int .i64 m.st) ∧ (w'.cell? ⟨g0, 9, none⟩ = some (.bool m.g) ∧ (w'.cell? ⟨g0, 10, none⟩ = some (.bool m.a) ∧ (w'.cell? ⟨g0, 27, none⟩ = some (.slice m.oa m.on m.oc) ∧ (Hid (Row w' g0 25 m.cs)))))))))))))) (by kernel_rfl) ?_ (fun hHeld => ?_)
  · exact ⟨(R1.out.cell 0).trans m.at0, (R1.out.cell 1).trans m.at1, (R1.out.cell 2).trans m.at2, (R1.out.cell 3).trans m.at3, (R1.out.cell 4).trans m.at4, (R1.out.cell 5).trans m.at5, (R1.out.cell 6).trans m.at6, (R1.out.cell 7).trans m.at7, (R1.out.cell 8).trans m.at8, (R1.out.cell 9).trans m.at9, (R1.out.cell 10).trans m.at10, (R1.out.cell 27).trans (Mv.at27 HA.out), R1.out⟩
  refine wpAnyH_take (i := 0) (oi := _) (v := ?va0) rfl (by kernel_rfl) (by kernel_rfl) (by kernel_rfl) (fun _ _ _ h => h) (Or.inl ⟨by rfl, ?hya0⟩) (by assumption) ?resta0
  case hya0 => (intro w hSw; (try dsimp only at hSw); go_split_ands; go_simp; try (with_reducible rfl))
  try simp only [List.getElem_toArray, List.getElem_cons_zero, List.getElem_cons_succ, Act.put, List.setIfInBounds_toArray, List.set_cons_zero, List.set_cons_succ]
  refine wpAnyH_take (i := 1) (oi := _) (v := ?va1) rfl (by kernel_rfl) (by kernel_rfl) (by kernel_rfl) (fun _ _ _ h => h) (Or.inl ⟨by rfl, ?hya1⟩) (by assumption) ?resta1
  case hya1 => (intro w hSw; (try dsimp only at hSw); go_split_ands; go_simp; try (with_reducible rfl))
  try simp only [List.getElem_toArray, List.getElem_cons_zero, List.getElem_cons_succ, Act.put, List.setIfInBounds_toArray, List.set_cons_zero, List.set_cons_succ]
  refine wpAnyH_take (i := 2) (oi := _) (v := ?va2) rfl (by kernel_rfl) (by kernel_rfl) (by kernel_rfl) (fun _ _ _ h => h) (Or.inl ⟨by rfl, ?hya2⟩) (by assumption) ?resta2
  case hya2 => (intro w hSw; (try dsimp only at hSw); go_split_ands; go_simp; try (with_reducible rfl))
  try simp only [List.getElem_toArray, List.getElem_cons_zero, List.getElem_cons_succ, Act.put, List.setIfInBounds_toArray, List.set_cons_zero, List.set_cons_succ]
  refine wpAnyH_take (i := 3) (oi := _) (v := ?va3) rfl (by kernel_rfl) (by kernel_rfl) (by kernel_rfl) (fun _ _ _ h => h) (Or.inl ⟨by rfl, ?hya3⟩) (by assumption) ?resta3
  case hya3 => (intro w hSw; (try dsimp only at hSw); go_split_ands; go_simp; try (with_reducible rfl))
  try simp only [List.getElem_toArray, List.getElem_cons_zero, List.getElem_cons_succ, Act.put, List.setIfInBounds_toArray, List.set_cons_zero, List.set_cons_succ]
  refine wpAnyH_take (i := 4) (oi := _) (v := ?va4) rfl (by kernel_rfl) (by kernel_rfl) (by kernel_rfl) (fun _ _ _ h => h) (Or.inl ⟨by rfl, ?hya4⟩) (by assumption) ?resta4
  case hya4 => (intro w hSw; (try dsimp only at hSw); go_split_ands; go_simp; try (with_reducible rfl))
  try simp only [List.getElem_toArray, List.getElem_cons_zero, List.getElem_cons_succ, Act.put, List.setIfInBounds_toArray, List.set_cons_zero, List.set_cons_succ]
  refine wpAnyH_take (i := 5) (oi := _) (v := ?va5) rfl (by kernel_rfl) (by kernel_rfl) (by kernel_rfl) (fun _ _ _ h => h) (Or.inl ⟨by rfl, ?hya5⟩) (by assumption) ?resta5
  case hya5 => (intro w hSw; (try dsimp only at hSw); go_split_ands; go_simp; try (with_reducible rfl))
  try simp only [List.getElem_toArray, List.getElem_cons_zero, List.getElem_cons_succ, Act.put, List.setIfInBounds_toArray, List.set_cons_zero, List.set_cons_succ]
  refine wpAnyH_take (i := 6) (oi := _) (v := ?va6) rfl (by kernel_rfl) (by kernel_rfl) (by kernel_rfl) (fun _ _ _ h => h) (Or.inl ⟨by rfl, ?hya6⟩) (by assumption) ?resta6
  case hya6 => (intro w hSw; (try dsimp only at hSw); go_split_ands; go_simp; try (with_reducible rfl))
  try simp only [List.getElem_toArray, List.getElem_cons_zero, List.getElem_cons_succ, Act.put, List.setIfInBounds_toArray, List.set_cons_zero, List.set_cons_succ]
  refine wpAnyH_take (i := 7) (oi := _) (v := ?va7) rfl (by kernel_rfl) (by kernel_rfl) (by kernel_rfl) (fun _ _ _ h => h) (Or.inl ⟨by rfl, ?hya7⟩) (by assumption) ?resta7
  case hya7 => (intro w hSw; (try dsimp only at hSw); go_split_ands; go_simp; try (with_reducible rfl))
  try simp only [List.getElem_toArray, List.getElem_cons_zero, List.getElem_cons_succ, Act.put, List.setIfInBounds_toArray, List.set_cons_zero, List.set_cons_succ]
  refine wpAnyH_take (i := 8) (oi := _) (v := ?va8) rfl (by kernel_rfl) (by kernel_rfl) (by kernel_rfl) (fun _ _ _ h => h) (Or.inl ⟨by rfl, ?hya8⟩) (by assumption) ?resta8
  case hya8 => (intro w hSw; (try dsimp only at hSw); go_split_ands; go_simp; try (with_reducible rfl))
  try simp only [List.getElem_toArray, List.getElem_cons_zero, List.getElem_cons_succ, Act.put, List.setIfInBounds_toArray, List.set_cons_zero, List.set_cons_succ]
  refine wpAnyH_take (i := 9) (oi := _) (v := ?va9) rfl (by kernel_rfl) (by kernel_rfl) (by kernel_rfl) (fun _ _ _ h => h) (Or.inl ⟨by rfl, ?hya9⟩) (by assumption) ?resta9
  case hya9 => (intro w hSw; (try dsimp only at hSw); go_split_ands; go_simp; try (with_reducible rfl))
  try simp only [List.getElem_toArray, List.getElem_cons_zero, List.getElem_cons_succ, Act.put, List.setIfInBounds_toArray, List.set_cons_zero, List.set_cons_succ]
  refine wpAnyH_take (i := 10) (oi := _) (v := ?va10) rfl (by kernel_rfl) (by kernel_rfl) (by kernel_rfl) (fun _ _ _ h => h) (Or.inl ⟨by rfl, ?hya10⟩) (by assumption) ?resta10
  case hya10 => (intro w hSw; (try dsimp only at hSw); go_split_ands; go_simp; try (with_reducible rfl))
  try simp only [List.getElem_toArray, List.getElem_cons_zero, List.getElem_cons_succ, Act.put, List.setIfInBounds_toArray, List.set_cons_zero, List.set_cons_succ]
  refine wpAnyH_take (i := 11) (oi := _) (v := ?va11) rfl (by kernel_rfl) (by kernel_rfl) (by kernel_rfl) (fun _ _ _ h => h) (Or.inl ⟨by rfl, ?hya11⟩) (by assumption) ?resta11
  case hya11 => (intro w hSw; (try dsimp only at hSw); go_split_ands; go_simp; try (with_reducible rfl))
  try simp only [List.getElem_toArray, List.getElem_cons_zero, List.getElem_cons_succ, Act.put, List.setIfInBounds_toArray, List.set_cons_zero, List.set_cons_succ]
  refine wpAnyH_take (i := 12) (oi := _) (v := ?va12) rfl (by kernel_rfl) (by kernel_rfl) (by kernel_rfl) (fun _ _ _ h => h) (Or.inl ⟨by rfl, ?hya12⟩) (by assumption) ?resta12
  case hya12 => (intro w hSw; (try dsimp only at hSw); go_split_ands; go_simp; try (with_reducible rfl))
  try simp only [List.getElem_toArray, List.getElem_cons_zero, List.getElem_cons_succ, Act.put, List.setIfInBounds_toArray, List.set_cons_zero, List.set_cons_succ]
  refine wpAnyH_take (i := 13) (oi := _) (v := ?va13) rfl (by kernel_rfl) (by kernel_rfl) (by kernel_rfl) (fun _ _ _ h => h) (Or.inl ⟨by rfl, ?hya13⟩) (by assumption) ?resta13
  case hya13 => (intro w hSw; (try dsimp only at hSw); go_split_ands; go_simp; try (with_reducible rfl))
  try simp only [List.getElem_toArray, List.getElem_cons_zero, List.getElem_cons_succ, Act.put, List.setIfInBounds_toArray, List.set_cons_zero, List.set_cons_succ]
  refine wpAnyH_take (i := 14) (oi := _) (v := ?va14) rfl (by kernel_rfl) (by kernel_rfl) (by kernel_rfl) (fun _ _ _ h => h) (Or.inl ⟨by rfl, ?hya14⟩) (by assumption) ?resta14
  case hya14 => (intro w hSw; (try dsimp only at hSw); go_split_ands; go_simp; try (with_reducible rfl))
  try simp only [List.getElem_toArray, List.getElem_cons_zero, List.getElem_cons_succ, Act.put, List.setIfInBounds_toArray, List.set_cons_zero, List.set_cons_succ]
  refine wpAnyH_take (i := 15) (oi := _) (v := ?va15) rfl (by kernel_rfl) (by kernel_rfl) (by kernel_rfl) (fun _ _ _ h => h) (Or.inl ⟨by rfl, ?hya15⟩) (by assumption) ?resta15
  case hya15 => (intro w hSw; (try dsimp only at hSw); go_split_ands; go_simp; try (with_reducible rfl))
  try simp only [List.getElem_toArray, List.getElem_cons_zero, List.getElem_cons_succ, Act.put, List.setIfInBounds_toArray, List.set_cons_zero, List.set_cons_succ]
  refine wpAnyH_take (i := 16) (oi := _) (v := ?va16) rfl (by kernel_rfl) (by kernel_rfl) (by kernel_rfl) (fun _ _ _ h => h) (Or.inl ⟨by rfl, ?hya16⟩) (by assumption) ?resta16
  case hya16 => (intro w hSw; (try dsimp only at hSw); go_split_ands; go_simp; try (with_reducible rfl))
  try simp only [List.getElem_toArray, List.getElem_cons_zero, List.getElem_cons_succ, Act.put, List.setIfInBounds_toArray, List.set_cons_zero, List.set_cons_succ]
  refine wpAnyH_take (i := 17) (oi := _) (v := ?va17) rfl (by kernel_rfl) (by kernel_rfl) (by kernel_rfl) (fun _ _ _ h => h) (Or.inl ⟨by rfl, ?hya17⟩) (by assumption) ?resta17
  case hya17 => (intro w hSw; (try dsimp only at hSw); go_split_ands; go_simp; try (with_reducible rfl))
  try simp only [List.getElem_toArray, List.getElem_cons_zero, List.getElem_cons_succ, Act.put, List.setIfInBounds_toArray, List.set_cons_zero, List.set_cons_succ]
  refine wpAnyH_take (i := 18) (oi := _) (v := ?va18) rfl (by kernel_rfl) (by kernel_rfl) (by kernel_rfl) (fun _ _ _ h => h) (Or.inl ⟨by rfl, ?hya18⟩) (by assumption) ?resta18
  case hya18 => (intro w hSw; (try dsimp only at hSw); go_split_ands; go_simp; try (with_reducible rfl))
  try simp only [List.getElem_toArray, List.getElem_cons_zero, List.getElem_cons_succ, Act.put, List.setIfInBounds_toArray, List.set_cons_zero, List.set_cons_succ]
  refine wpAnyH_take (i := 19) (oi := _) (v := ?va19) rfl (by kernel_rfl) (by kernel_rfl) (by kernel_rfl) (fun _ _ _ h => h) (Or.inl ⟨by rfl, ?hya19⟩) (by assumption) ?resta19
  case hya19 => (intro w hSw; (try dsimp only at hSw); go_split_ands; go_simp; try (with_reducible rfl))
  try simp only [List.getElem_toArray, List.getElem_cons_zero, List.getElem_cons_succ, Act.put, List.setIfInBounds_toArray, List.set_cons_zero, List.set_cons_succ]
  refine wpAnyH_take (i := 20) (oi := _) (v := ?va20) rfl (by kernel_rfl) (by kernel_rfl) (by kernel_rfl) (fun _ _ _ h => h) (Or.inl ⟨by rfl, ?hya20⟩) (by assumption) ?resta20
  case hya20 => (intro w hSw; (try dsimp only at hSw); go_split_ands; go_simp; try (with_reducible rfl))
  try simp only [List.getElem_toArray, List.getElem_cons_zero, List.getElem_cons_succ, Act.put, List.setIfInBounds_toArray, List.set_cons_zero, List.set_cons_succ]
  refine wpAnyH_take (i := 21) (oi := _) (v := ?va21) rfl (by kernel_rfl) (by kernel_rfl) (by kernel_rfl) (fun _ _ _ h => h) (Or.inl ⟨by rfl, ?hya21⟩) (by assumption) ?resta21
  case hya21 => (intro w hSw; (try dsimp only at hSw); go_split_ands; go_simp; try (with_reducible rfl))
  try simp only [List.getElem_toArray, List.getElem_cons_zero, List.getElem_cons_succ, Act.put, List.setIfInBounds_toArray, List.set_cons_zero, List.set_cons_succ]
  refine wpAnyH_take (i := 22) (oi := _) (v := ?va22) rfl (by kernel_rfl) (by kernel_rfl) (by kernel_rfl) (fun _ _ _ h => h) (Or.inl ⟨by rfl, ?hya22⟩) (by assumption) ?resta22
  case hya22 => (intro w hSw; (try dsimp only at hSw); go_split_ands; go_simp; try (with_reducible rfl))
  try simp only [List.getElem_toArray, List.getElem_cons_zero, List.getElem_cons_succ, Act.put, List.setIfInBounds_toArray, List.set_cons_zero, List.set_cons_succ]
  refine wpAnyH_take (i := 23) (oi := _) (v := .agg (arr m.ro)) rfl (by kernel_rfl) (by kernel_rfl) (by kernel_rfl) (fun _ _ _ h => h) (yld36 (by rfl) _ rfl g0 11 rfl m.ro HA.out (fun w h => by have := h.2.2.2.2.2.2.2.2.2.2.2.2.out.part.mvA HA.out; simpa using this)) (by assumption) ?_
  try simp only [List.getElem_toArray, List.getElem_cons_zero, List.getElem_cons_succ, Act.put, List.setIfInBounds_toArray, List.set_cons_zero, List.set_cons_succ]
  refine wpAnyH_take (i := 24) (oi := _) (v := ?va24) rfl (by kernel_rfl) (by kernel_rfl) (by kernel_rfl) (fun _ _ _ h => h) (Or.inl ⟨by rfl, ?hya24⟩) (by assumption) ?resta24
  case hya24 => (intro w hSw; (try dsimp only at hSw); go_split_ands; go_simp; try (with_reducible rfl))
  try simp only [List.getElem_toArray, List.getElem_cons_zero, List.getElem_cons_succ, Act.put, List.setIfInBounds_toArray, List.set_cons_zero, List.set_cons_succ]
  refine wpAnyH_take (i := 25) (oi := _) (v := ?va25) rfl (by kernel_rfl) (by kernel_rfl) (by kernel_rfl) (fun _ _ _ h => h) (Or.inl ⟨by rfl, ?hya25⟩) (by assumption) ?resta25
  case hya25 => (intro w hSw; (try dsimp only at hSw); go_split_ands; go_simp; try (with_reducible rfl))
  try simp only [List.getElem_toArray, List.getElem_cons_zero, List.getElem_cons_succ, Act.put, List.setIfInBounds_toArray, List.set_cons_zero, List.set_cons_succ]
  refine wpAnyH_ready (rs := [26]) (by kernel_rfl) (by simp) ?_
  refine AllReadyH.cons (o := _) rfl (fun K hK => ?_) AllReadyH.nil
  go_simp
  refine (optTo2_any m.oa m.on m.oc m.L _ O1.out).mono ?_
  rintro e w2 ⟨a2, c2, L2, rfl, hO2, hp2, hS2, hM2, hT2, hb2⟩
  have R2 := hid (R1.out.below hb2)
  have Z2 := hid (Z1.out.below hb2)
  have B2 : Hid (Below g0 w w2) := hid (B1.out.trans (hb2.mono (by omega)))
  have O2 := hid hO2
  have P2 := hid hp2
  have S2 := hid hS2
  have M2 := hid hM2
  have T2 := hid hT2
  have BW := hid B1.out
  have hs3 := hb2.size
  clear hO2 hp2 hS2 hM2 hT2 hb2 R1 Z1 O1
  generalize hn2 : min m.on 20 = n2 at *
  have hn20 : n2 ≤ 20 := by omega
  clear hn2
  go_wp2_with fail
  refine hK.out _ _ ⟨(R2.out.cell 0).trans m.at0, (R2.out.cell 1).trans m.at1, (R2.out.cell 2).trans m.at2, (R2.out.cell 3).trans m.at3, (R2.out.cell 4).trans m.at4, (R2.out.cell 5).trans m.at5, (R2.out.cell 6).trans m.at6, (R2.out.cell 7).trans m.at7, (R2.out.cell 8).trans m.at8, (R2.out.cell 9).trans m.at9, (R2.out.cell 10).trans m.at10, (R2.out.cell 27).trans (Mv.at27 HA.out), R2.out⟩ (fun hHeld => ?_)
  clear hK K
  try simp only [List.getElem_toArray, List.getElem_cons_zero, List.getElem_cons_succ, Act.put, List.setIfInBounds_toArray, List.set_cons_zero, List.set_cons_succ]
  refine wpAnyH_take (i := 27) (oi := _) (v := .agg (Mv.cs (m.opt a2 n2 c2 L2))) rfl (by kernel_rfl) (by kernel_rfl) (by kernel_rfl) (fun _ _ _ h => h) (ybdM m29 (by rfl) _ _ _ _ _ _ _ _ _ _ _ _ _ rfl (m.opt a2 n2 c2 L2) HA.out rfl rfl rfl rfl rfl rfl rfl rfl rfl rfl rfl rfl rfl) (by assumption) ?_
  try simp only [List.getElem_toArray, List.getElem_cons_zero, List.getElem_cons_succ, Act.put, List.setIfInBounds_toArray, List.set_cons_zero, List.set_cons_succ]
  refine wpAnyH_ready (rs := [28]) (by kernel_rfl) (by simp) ?_
  refine AllReadyH.cons (o := _) rfl (fun K hK => ?_) AllReadyH.nil
  refine step_st rfl 29 _ _ rfl (g0 + 1) (Mv.cs (m.opt a2 n2 c2 L2)) rfl rfl 29 Mv.zero.cs (by exact Z2.out) (by rw [Mv.size (m := (m.opt a2 n2 c2 L2)) HA.out]; exact m29.info) (by rw [Mv.size adr_zeros, Mv.size (m := (m.opt a2 n2 c2 L2)) HA.out]) (Mv.one _) ?_
  have R3 := hid (R2.out.rowOther (g0 + 1) (Mv.cs (m.opt a2 n2 c2 L2)) (by omega))
  have Z3 := hid (Z2.out.setRow (Mv.cs (m.opt a2 n2 c2 L2)))
  have B3 := hid (below_setRow' B2.out (g := g0 + 1) (by omega) (Mv.cs (m.opt a2 n2 c2 L2)))
  refine hK.out _ _ ⟨(R3.out.cell 0).trans m.at0, (R3.out.cell 1).trans m.at1, (R3.out.cell 2).trans m.at2, (R3.out.cell 3).trans m.at3, (R3.out.cell 4).trans m.at4, (R3.out.cell 5).trans m.at5, (R3.out.cell 6).trans m.at6, (R3.out.cell 7).trans m.at7, (R3.out.cell 8).trans m.at8, (R3.out.cell 9).trans m.at9, (R3.out.cell 10).trans m.at10, (R3.out.cell 27).trans (Mv.at27 HA.out), R3.out⟩ (fun hHeld => ?_)
  clear hK K
  try simp only [List.getElem_toArray, List.getElem_cons_zero, List.getElem_cons_succ, Act.put, List.setIfInBounds_toArray, List.set_cons_zero, List.set_cons_succ]
  refine wpAnyH_done (by kernel_rfl) ?_ _
  go_wp2_with fail
  have B3' : Hid (Below w.heap.size w (w2.setRow (g0 + 1) (Mv.cs (m.opt a2 n2 c2 L2)))) := by rw [Hid, hg0]; exact B3.out
  have hW : W0.heap.size ≤ g0 := by rw [← hg0]; exact HB0.out.size
  have BW0 : Below W0.heap.size W0 (w2.setRow (g0 + 1) (Mv.cs (m.opt a2 n2 c2 L2))) := HB0.out.trans (B3'.out.mono (by rw [hg0]; exact hW))
  have OK3 : Hid (∀ o ∈ L2, Mt W0.heap.size W0.heap.size (w2.setRow (g0 + 1) (Mv.cs (m.opt a2 n2 c2 L2))) o) := by
    intro o ho
    have hM := M2.out o ho
    obtain ⟨o2, ho2, e1, e2⟩ := T2.out o ho
    have h2 := (HOm.out.ok o2 ho2).t
    have h0 := (HM0.out.o.ok o2 ho2).t
    rw [← e1] at h2 h0
    refine ⟨own_mono (own_setRowT (cs := Mv.cs (m.opt a2 n2 c2 L2)) hM.n Z2.out (by decide)) (by omega), hM.nn, hM.ad, text_keep hM.t (by rw [hg0]; exact BW.out) B3'.out h2 e2, ?_, hM.oct⟩
    intro x hx hn
    obtain ⟨b, off, e, hc⟩ := h0.2.2.2.2 0 (by omega)
    rw [hx] at e
    injection e with e
    rw [e]
    exact World.block_lt_of_cell? W0 _ hc
  exact bodyPost_ret (resM m29 rfl _ _ (g0 + 1) 29 (m.opt a2 n2 c2 L2) HA.out rfl Z3.out) rfl ⟨⟨(m.opt a2 n2 c2 L2), rfl, hn20, hid ⟨HA.out, own_mono (own_setRowT (cs := Mv.cs (m.opt a2 n2 c2 L2)) S2.out Z2.out (by decide)) (by omega), OK3.out, O2.out.len⟩, hid (cut_wf P2.out HW.out)⟩, B3'.out⟩
end Go.Proofs.YtbfjkhafdkhhmaaDoor
