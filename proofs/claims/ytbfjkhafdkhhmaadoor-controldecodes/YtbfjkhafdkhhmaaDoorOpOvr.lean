/- Cursors whose bytes are their own; a reader and an option in memory. -/
import Derived.Test.YtbfjkhafdkhhmaaDoorM8
namespace Go.Proofs.YtbfjkhafdkhhmaaDoor
open Go.ChangeShapes Go.WideShapes Go.ChangeAt Go.RowKit Go.Deep
set_option linter.unusedVariables false
set_option linter.unusedSimpArgs false

theorem over_own (a : Option Addr) (len cap : Nat) (l : List Int) (w : World) (h : Lies .u8 w a len cap l) (ho : Oct l) (hl : len ≤ 100000) :
    Calls Tryd.prog 37 #[.slice a len cap] w fun e w' => ∃ c a' cap', e = .returned (.pointer (some ⟨c, 0, none⟩)) ∧ CurAt w' c a' len cap' l 0 0 ∧ Below w.heap.size w w' ∧ w.heap.size ≤ c ∧ c < w'.heap.size ∧ w'.ownsRow w.heap.size 5 1 (.slice a' len cap') len (u8s l) := by
  have HB := hid h
  have HO := hid ho
  clear h ho
  go_enter Tryd.func37, Tryd.ntmps37
  go_wp2_with (go_at_call 62; refine (clone_any _ _ _ l _ HB.out hl).mono ?_; rintro e w1 ⟨v1, rfl, hown1, hb1⟩; have HOW := hid hown1; obtain ⟨a1, cap1, rfl, hl1, ho1⟩ := owns_lies hown1)
  have hln : l.length = len := HB.out.1
  rw [hln] at hl1
  go_ret
  have hb2 : Below w1.heap.size w1 (w1.alloc (.cells #[.slice a1 l.length cap1, .int .i64 0, .int .i64 0] 121)) := (Below.refl _ _).alloc (Nat.le_refl _) _
  refine ⟨w1.heap.size, a1, cap1, rfl, ⟨?_, hl1.below hb2, HO.out, Nat.zero_le _, hl⟩, hb1.trans (hb2.mono hb1.size), hb1.size, by simp, ?_⟩
  rotate_left
  · have := own_below HOW.out hb2
    rw [hln] at this ⊢
    exact this
  rw [heap_alloc_new, hln]; rfl

set_option maxHeartbeats 400000 in
theorem within_own (w : World) (c : Nat) (a : Option Addr) (len cap at_ : Nat) (l : List Int) (er n : Int) (h : CurAt w c a len cap l at_ er) :
    Calls Tryd.prog 104 #[.pointer (some ⟨c, 0, none⟩), .int .i64 n] w fun e w' => ∃ c2 a2 cap2, e = .returned (.pointer (some ⟨c2, 0, none⟩)) ∧
      CurAt w' c2 a2 (rdN 1 n (len - at_) er) cap2 ((l.drop at_).take (rdN 1 n (len - at_) er)) 0 (rdE 1 n (len - at_) er) ∧
      CurAt w' c a len cap l (at_ + rdN 1 n (len - at_) er) (rdE 1 n (len - at_) er) ∧ w.grownBy w' (some c) ∧ w.heap.size ≤ c2 ∧ w'.ownsRow w.heap.size 5 1 (.slice a2 (rdN 1 n (len - at_) er) cap2) (rdN 1 n (len - at_) er) (u8s ((l.drop at_).take (rdN 1 n (len - at_) er))) := by
  have H := hid h
  have hm0 := rdN_le 1 n (len - at_) er
  have hs := h.small
  have ho := hid (h.oct.cut at_ (rdN 1 n (len - at_) er))
  clear h
  go_enter Tryd.func104, Tryd.ntmps104
  go_wp2_with fail
  refine (read_any _ c a len cap at_ l er 1 n H.out).mono ?_
  rintro e w1 ⟨a1, rfl, hl1, hc1, hg1, hs1⟩
  have HL1 := hid hl1
  have HC1 := hid hc1
  have HG1 := hid hg1
  have HS1 := hid hs1
  clear hl1 hc1 hg1 hs1
  generalize hm : rdN 1 n (len - at_) er = m at *
  generalize he : rdE 1 n (len - at_) er = er' at *
  have HM := hid hm
  have HE := hid he
  clear hm he
  go_wp2_with fail
  refine (over_own _ _ _ _ _ HL1.out ho.out (by omega)).mono ?_
  rintro e w2 ⟨c2, a2, cap2, rfl, hc2, hb2, hlo2, hhi2, hap⟩
  have HC2 := hid hc2
  have HB2 := hid hb2
  have HAP := hid hap
  clear hap
  have hcc := HC1.out.below HB2.out
  have HCC := hid hcc
  have h2 := hcc.cell2
  clear hc2 hb2 hcc
  go_wp2_with fail
  refine (err_any _ _ _ h2).mono ?_
  rintro e w2 ⟨rfl, rfl⟩
  go_wp2_with fail
  refine (spoil_now _ c2 a2 m cap2 0 _ er' HC2.out).mono ?_
  rintro e w3 ⟨rfl, hc4, hg4, hs4⟩
  have HC4 := hid hc4
  have HG4 := hid hg4
  clear hc4 hg4 hs4
  go_wp2
  go_ret
  have hlt1 : c < w1.heap.size := HC1.out.lt
  rw [HM.out, HE.out]
  refine ⟨c2, a2, cap2, rfl, HC4.out, HCC.out.grown HC2.out.noU8 (by omega) HG4.out, ?_, by have := HS1.out; omega, ?_⟩
  rotate_left
  · have := HAP.out.kept HG4.out (.inr (own_row HAP.out HC2.out.block (by decide)))
    rw [HS1.out] at this
    exact this
  have hb3 : Below w1.heap.size w1 w3 := Below.grown HB2.out HG4.out HB2.out.size (fun k hk => by cases hk; exact hlo2)
  exact grownBy_below HG1.out hb3

/-- A reader, its cursor and an option in memory. -/
structure RdAt (base : Nat) (w wr : World) (p c g : Nat) (gv : Value) (a : Option Addr) (len cap : Nat) (l : List Int) (at_ : Nat) (er : Int) (o : Ov) : Prop where
  r : Row wr p 153 #[.pointer (some ⟨c, 0, none⟩), gv]
  cur : CurAt wr c a len cap l at_ er
  win : wr.ownsRow base 5 1 (.slice a len cap) len (u8s l)
  row : Row wr g 54 o.cs
  own : Own2 base wr o
  below : Below base w wr
  hc : base ≤ c
  hg : base ≤ g
theorem CurAt.row {w : World} {c : Nat} {a : Option Addr} {len cap : Nat} {l : List Int} {at_ : Nat} {er : Int} (h : CurAt w c a len cap l at_ er) : Row w c 121 #[.slice a len cap, .int .i64 at_, .int .i64 er] := h.block
theorem Row.ne {w : World} {b d : Nat} {t u : TypeId} {cs ds : Array Value} (h : Row w b t cs) (k : Row w d u ds) (hne : t ≠ u) : b ≠ d := by
  intro e
  subst e
  rw [Row] at h k
  rw [h] at k
  simp at k
  exact hne k.2
theorem Own2.row {base g : Nat} {w w' : World} {o : Ov} {t : TypeId} {cs : Array Value} (h : Own2 base w o) (hr : Row w g t cs) (h3 : (3 : TypeId) ≠ t) (h5 : (5 : TypeId) ≠ t) (hg : w.grownBy w' (some g)) : Own2 base w' o :=
  ⟨h.n.kept hg (.inr (own_row h.n hr h3)), h.nn, h.ad, h.t.kept hg (.inr (own_row h.t hr h5)), h.tn, h.oct⟩
theorem CurAt.other {w w' : World} {c : Nat} {d : Option Nat} {a : Option Addr} {len cap : Nat} {l : List Int} {at_ : Nat} {er : Int} (h : CurAt w c a len cap l at_ er) (hcd : some c ≠ d) (ha : ∀ ad, a = some ad → some ad.block ≠ d) (hg : w.grownBy w' d) : CurAt w' c a len cap l at_ er :=
  ⟨(hg.block c h.lt hcd).trans h.block, ⟨h.lies.1, h.lies.2.1, h.lies.2.2.1, h.lies.2.2.2.1, fun k hk => by
    obtain ⟨b, off, he, hc⟩ := h.lies.2.2.2.2 k hk
    exact ⟨b, off, he, hg.cell hc (ha ⟨b, off, none⟩ he)⟩⟩, h.oct, h.le, h.small⟩
section
variable {base : Nat} {w wr w' : World} {p c g : Nat} {gv : Value} {a : Option Addr} {len cap : Nat} {l : List Int} {at_ : Nat} {er : Int} {o : Ov}
theorem RdAt.on (h : RdAt base w wr p c g gv a len cap l at_ er o) (hb : Below wr.heap.size wr w') : RdAt base w w' p c g gv a len cap l at_ er o :=
  ⟨h.r.below hb, h.cur.below hb, own_below h.win hb, h.row.below hb, h.own.below hb, h.below.trans (hb.mono (Nat.le_of_lt (Nat.lt_of_le_of_lt h.hc h.cur.lt))), h.hc, h.hg⟩
theorem RdAt.drewN (h : RdAt base w wr p c g gv a len cap l at_ er o) (q : Nat) : RdAt base w (wr.drewN q) p c g gv a len cap l at_ er o := h.on (bdrew (Below.refl _ _) q)
theorem RdAt.size (h : RdAt base w wr p c g gv a len cap l at_ er o) : base ≤ wr.heap.size := Nat.le_of_lt (Nat.lt_of_le_of_lt h.hc h.cur.lt)
theorem RdAt.read (h : RdAt base w wr p c g gv a len cap l at_ er o) {at2 : Nat} {er2 : Int} (hc : CurAt w' c a len cap l at2 er2) (hg : wr.grownBy w' (some c)) : RdAt base w w' p c g gv a len cap l at2 er2 o :=
  ⟨h.r.kept hg (fun e => h.r.ne h.cur.row (by decide) (Option.some.inj e)), hc, h.win.kept hg (.inr (own_row h.win h.cur.row (by decide))), h.row.kept hg (fun e => h.row.ne h.cur.row (by decide) (Option.some.inj e)), h.own.row h.cur.row (by decide) (by decide) hg,
    Below.grown h.below hg h.size (fun k hk => by cases hk; exact h.hc), h.hc, h.hg⟩
theorem RdAt.wrote (h : RdAt base w wr p c g gv a len cap l at_ er o) {o2 : Ov} (hr : Row w' g 54 o2.cs) (hg : wr.grownBy w' (some g)) (ho : Own2 base w' o2) : RdAt base w w' p c g gv a len cap l at_ er o2 :=
  ⟨h.r.kept hg (fun e => h.r.ne h.row (by decide) (Option.some.inj e)), h.cur.other (fun e => h.cur.row.ne h.row (by decide) (Option.some.inj e)) (fun ad e => by have := own_row h.win h.row (by decide); rw [e] at this; exact this) hg, h.win.kept hg (.inr (own_row h.win h.row (by decide))), hr, ho,
    Below.grown h.below hg h.size (fun k hk => by cases hk; exact h.hg), h.hc, h.hg⟩
/-- The address is copied. -/
theorem RdAt.setA (h : RdAt base w wr p c g gv a len cap l at_ er o) (F : List Int) (hF : Adr F) : RdAt base w (wr.setRow g (o.setA F).cs) p c g gv a len cap l at_ er (o.setA F) := by
  have hg := grownBy_setRow wr g (o.setA F).cs
  have h2 := h.own.row h.row (by decide) (by decide) hg
  exact h.wrote (h.row.setRow _) hg ⟨h2.n, h2.nn, hF, h2.t, h2.tn, h2.oct⟩
/-- A list of numbers of the call's own is laid in. -/
theorem RdAt.setN (h : RdAt base w wr p c g gv a len cap l at_ er o) (na : Option Addr) (nc : Nat) (L : List Int) (hn : wr.ownsRow base 3 1 (.slice na L.length nc) L.length (i64s L)) : RdAt base w (wr.setCell ⟨g, 1, none⟩ (.slice na L.length nc)) p c g gv a len cap l at_ er (o.setN ⟨na, L.length, nc, L⟩) := by
  have hg := grownBy_setCell wr g 1 (.slice na L.length nc)
  have h2 := h.own.row h.row (by decide) (by decide) hg
  refine h.wrote ?_ hg ⟨hn.kept hg (.inr (own_row hn h.row (by decide))), rfl, h2.ad, h2.t, h2.tn, h2.oct⟩
  rw [← Ov.set1]
  exact h.row.set 1 _
theorem RdAt.setT (h : RdAt base w wr p c g gv a len cap l at_ er o) (na : Option Addr) (nc : Nat) (L : List Int) (hn : wr.ownsRow base 5 1 (.slice na L.length nc) L.length (u8s L)) (hO : Oct L) : RdAt base w (wr.setCell ⟨g, 18, none⟩ (.slice na L.length nc)) p c g gv a len cap l at_ er (o.setT ⟨na, L.length, nc, L⟩) := by
  have hg := grownBy_setCell wr g 18 (.slice na L.length nc)
  have h2 := h.own.row h.row (by decide) (by decide) hg
  refine h.wrote ?_ hg ⟨h2.n, h2.nn, h2.ad, hn.kept hg (.inr (own_row hn h.row (by decide))), rfl, hO⟩
  rw [← Ov.set18 h.own.ad]
  exact h.row.set 18 _
/-- An append onto the option's numbers. -/
theorem RdAt.grow (h : RdAt base w wr p c g gv a len cap l at_ er o) (hg : wr.grownBy w' o.n.v.ownBlock) : Row w' p 153 #[.pointer (some ⟨c, 0, none⟩), gv] ∧ CurAt w' c a len cap l at_ er ∧ w'.ownsRow base 5 1 (.slice a len cap) len (u8s l) ∧ Row w' g 54 o.cs ∧ w'.ownsRow base 5 1 o.t.v o.t.l.length (u8s o.t.l) ∧ Below base w w' := by
  have hw := own_apart h.win h.own.n (by decide)
  have ht := own_apart h.own.t h.own.n (by decide)
  refine ⟨h.r.kept hg (fun e => own_row h.own.n h.r (by decide) e.symm), h.cur.other (fun e => own_row h.own.n h.cur.row (by decide) e.symm) ?_ hg, h.win.kept hg hw, h.row.kept hg (fun e => own_row h.own.n h.row (by decide) e.symm), h.own.t.kept hg ht,
    Below.grown h.below hg h.size (fun k hk => (h.own.n.lt k hk).1)⟩
  intro ad e
  rcases hw with hw | hw
  · rw [e] at hw; simp [Value.ownBlock] at hw
  · rw [e] at hw; exact hw
/-- An append onto the option's numbers: the row that it writes. -/
theorem RdAt.app (h : RdAt base w wr p c g gv a len cap l at_ er o) (hg : wr.grownBy w' o.n.v.ownBlock) : Row w' p 153 #[.pointer (some ⟨c, 0, none⟩), gv] ∧ Row w' g 54 o.cs :=
  ⟨h.r.kept hg (fun e => own_row h.own.n h.r (by decide) e.symm), h.row.kept hg (fun e => own_row h.own.n h.row (by decide) e.symm)⟩
end
/-- n bytes, which are there. -/
theorem bytes_n (w : World) (c : Nat) (a : Option Addr) (len cap at_ : Nat) (l : List Int) (n : Nat) (h : CurAt w c a len cap l at_ 0) (hn : at_ + n ≤ len) :
    Calls Tryd.prog 84 #[.pointer (some ⟨c, 0, none⟩), .int .i64 n] w fun e w' => ∃ b cp, e = .returned (.slice b n cp) ∧
      Lies .u8 w' b n cp ((l.drop at_).take n) ∧ CurAt w' c a len cap l (at_ + n) 0 ∧ w.grownBy w' (some c) := by
  obtain ⟨hE, hN⟩ := rd_b n len at_ hn
  have hll := h.lies.1
  have hdl : ((l.drop at_).take n).length = n := by rw [List.length_take, List.length_drop]; omega
  have := bytes_any w c a len cap at_ l 0 n h
  rw [hE, hN] at this
  refine this.mono ?_
  rintro e w' ⟨v, rfl, hown, hc, hg⟩
  have hown' := ownsRow_u8 hown hdl.symm rfl
  obtain ⟨b, cp, rfl, hl, _⟩ := owns_lies hown'
  rw [hdl] at hl ⊢
  exact ⟨b, cp, rfl, hl, hc, hg⟩
/-- A number, which is there. -/
theorem take_n (w : World) (c : Nat) (a : Option Addr) (len cap at_ : Nat) (l : List Int) (size : Int) (h : CurAt w c a len cap l at_ 0) (hz : sizeB size = true) (hn : (at_ : Int) + size ≤ len) :
    Calls Tryd.prog 82 #[.pointer (some ⟨c, 0, none⟩), .int .i64 size] w fun e w' => e = .returned (.int .i64 (numOf ((l.drop at_).take size.toNat))) ∧
      CurAt w' c a len cap l (at_ + size.toNat) 0 ∧ w.grownBy w' (some c) ∧ w'.heap.size = w.heap.size := by
  obtain ⟨hE, hN⟩ := rd_n size len at_ hz hn
  have := take_any w c a len cap at_ l 0 size h
  rw [takeV, hE, hN] at this
  exact this
end Go.Proofs.YtbfjkhafdkhhmaaDoor
