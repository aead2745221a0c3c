/- Cursors whose bytes are their own; a reader and an option in memory. · Reading: takeParts. · Reading: fill. · Options of some kinds: Find, Without. · Reading: where next stands. -/
import Derived.Test.YtbklpelikaapoaaGreatDoorM6
import Derived.Test.YtbklpelikaapoaaGreatDoorM3
namespace Go.Proofs.YtbklpelikaapoaaGreatDoor
open Go.ChangeShapes Go.WideShapes Go.ChangeAt Go.RowKit Go.Deep
set_option linter.unusedVariables false
set_option linter.unusedSimpArgs false

theorem over_own (a : Option Addr) (len cap : Nat) (l : List Int) (w : World) (h : Lies .u8 w a len cap l) (ho : Oct l) (hl : len ≤ 100000) :
    Calls Tryz.prog 65 #[.slice a len cap] w fun e w' => ∃ c a' cap', e = .returned (.pointer (some ⟨c, 0, none⟩)) ∧ CurAt w' c a' len cap' l 0 0 ∧ Below w.heap.size w w' ∧ w.heap.size ≤ c ∧ c < w'.heap.size ∧ w'.ownsRow w.heap.size 5 1 (.slice a' len cap') len (u8s l) := by
  have HB := hid h
  have HO := hid ho
  clear h ho
  go_enter Tryz.func65, Tryz.ntmps65
  go_wp2_with (go_at_call 78; refine (clone_any _ _ _ l _ HB.out hl).mono ?_; rintro e w1 ⟨v1, rfl, hown1, hb1⟩; have HOW := hid hown1; obtain ⟨a1, cap1, rfl, hl1, ho1⟩ := owns_lies hown1)
  have hln : l.length = len := HB.out.1
  rw [hln] at hl1
  go_ret
  have hb2 : Below w1.heap.size w1 (w1.alloc (.cells #[.slice a1 l.length cap1, .int .i64 0, .int .i64 0] 172)) := (Below.refl _ _).alloc (Nat.le_refl _) _
  refine ⟨w1.heap.size, a1, cap1, rfl, ⟨?_, hl1.below hb2, HO.out, Nat.zero_le _, hl⟩, hb1.trans (hb2.mono hb1.size), hb1.size, by simp, ?_⟩
  rotate_left
  · have := own_below HOW.out hb2
    rw [hln] at this ⊢
    exact this
  rw [heap_alloc_new, hln]; rfl

set_option maxHeartbeats 400000 in
theorem within_own (w : World) (c : Nat) (a : Option Addr) (len cap at_ : Nat) (l : List Int) (er n : Int) (h : CurAt w c a len cap l at_ er) :
    Calls Tryz.prog 165 #[.pointer (some ⟨c, 0, none⟩), .int .i64 n] w fun e w' => ∃ c2 a2 cap2, e = .returned (.pointer (some ⟨c2, 0, none⟩)) ∧
      CurAt w' c2 a2 (rdN 1 n (len - at_) er) cap2 ((l.drop at_).take (rdN 1 n (len - at_) er)) 0 (rdE 1 n (len - at_) er) ∧
      CurAt w' c a len cap l (at_ + rdN 1 n (len - at_) er) (rdE 1 n (len - at_) er) ∧ w.grownBy w' (some c) ∧ w.heap.size ≤ c2 ∧ w'.ownsRow w.heap.size 5 1 (.slice a2 (rdN 1 n (len - at_) er) cap2) (rdN 1 n (len - at_) er) (u8s ((l.drop at_).take (rdN 1 n (len - at_) er))) := by
  have H := hid h
  have hm0 := rdN_le 1 n (len - at_) er
  have hs := h.small
  have ho := hid (h.oct.cut at_ (rdN 1 n (len - at_) er))
  clear h
  go_enter Tryz.func165, Tryz.ntmps165
  go_wp2_with fail
  refine (read_any _ c a len cap at_ l er 1 n H.out).mono ?_
  rintro e w1 ⟨a1, rfl, hl1, hc1, hg1, hs1⟩
  have HL1 := hid hl1
  have HC1 := hid hc1
  have HG1 := hid hg1
  have HS1 := hid hs1
  clear hl1 hc1 hg1 hs1
  generalize hm : rdN 1 n (len - at_) er = m at *
  generalize he : rdE 1 n (len - at_) er = er' at *
  have HM := hid hm
  have HE := hid he
  clear hm he
  go_wp2_with fail
  refine (over_own _ _ _ _ _ HL1.out ho.out (by omega)).mono ?_
  rintro e w2 ⟨c2, a2, cap2, rfl, hc2, hb2, hlo2, hhi2, hap⟩
  have HC2 := hid hc2
  have HB2 := hid hb2
  have HAP := hid hap
  clear hap
  have hcc := HC1.out.below HB2.out
  have HCC := hid hcc
  have h2 := hcc.cell2
  clear hc2 hb2 hcc
  go_wp2_with fail
  refine (err_any _ _ _ h2).mono ?_
  rintro e w2 ⟨rfl, rfl⟩
  go_wp2_with fail
  refine (spoil_now _ c2 a2 m cap2 0 _ er' HC2.out).mono ?_
  rintro e w3 ⟨rfl, hc4, hg4, hs4⟩
  have HC4 := hid hc4
  have HG4 := hid hg4
  clear hc4 hg4 hs4
  go_wp2
  go_ret
  have hlt1 : c < w1.heap.size := HC1.out.lt
  rw [HM.out, HE.out]
  refine ⟨c2, a2, cap2, rfl, HC4.out, HCC.out.grown HC2.out.noU8 (by omega) HG4.out, ?_, by have := HS1.out; omega, ?_⟩
  rotate_left
  · have := HAP.out.kept HG4.out (.inr (own_row HAP.out HC2.out.block (by decide)))
    rw [HS1.out] at this
    exact this
  have hb3 : Below w1.heap.size w1 w3 := Below.grown HB2.out HG4.out HB2.out.size (fun k hk => by cases hk; exact hlo2)
  exact grownBy_below HG1.out hb3

/-- A reader, its cursor and an option in memory. -/
structure RdAt (base : Nat) (w wr : World) (p c g : Nat) (gv : Value) (a : Option Addr) (len cap : Nat) (l : List Int) (at_ : Nat) (er : Int) (o : Ov) : Prop where
  r : Row wr p 243 #[.pointer (some ⟨c, 0, none⟩), gv]
  cur : CurAt wr c a len cap l at_ er
  win : wr.ownsRow base 5 1 (.slice a len cap) len (u8s l)
  row : Row wr g 140 o.cs
  own : Own2 base wr o
  below : Below base w wr
  hc : base ≤ c
  hg : base ≤ g
theorem CurAt.row {w : World} {c : Nat} {a : Option Addr} {len cap : Nat} {l : List Int} {at_ : Nat} {er : Int} (h : CurAt w c a len cap l at_ er) : Row w c 172 #[.slice a len cap, .int .i64 at_, .int .i64 er] := h.block
theorem Row.ne {w : World} {b d : Nat} {t u : TypeId} {cs ds : Array Value} (h : Row w b t cs) (k : Row w d u ds) (hne : t ≠ u) : b ≠ d := by
  intro e
  subst e
  rw [Row] at h k
  rw [h] at k
  simp at k
  exact hne k.2
theorem Own2.row {base g : Nat} {w w' : World} {o : Ov} {t : TypeId} {cs : Array Value} (h : Own2 base w o) (hr : Row w g t cs) (h3 : (3 : TypeId) ≠ t) (h5 : (5 : TypeId) ≠ t) (hg : w.grownBy w' (some g)) : Own2 base w' o :=
  ⟨h.n.kept hg (.inr (own_row h.n hr h3)), h.nn, h.ad, h.t.kept hg (.inr (own_row h.t hr h5)), h.tn, h.oct⟩
theorem CurAt.other {w w' : World} {c : Nat} {d : Option Nat} {a : Option Addr} {len cap : Nat} {l : List Int} {at_ : Nat} {er : Int} (h : CurAt w c a len cap l at_ er) (hcd : some c ≠ d) (ha : ∀ ad, a = some ad → some ad.block ≠ d) (hg : w.grownBy w' d) : CurAt w' c a len cap l at_ er :=
  ⟨(hg.block c h.lt hcd).trans h.block, ⟨h.lies.1, h.lies.2.1, h.lies.2.2.1, h.lies.2.2.2.1, fun k hk => by
    obtain ⟨b, off, he, hc⟩ := h.lies.2.2.2.2 k hk
    exact ⟨b, off, he, hg.cell hc (ha ⟨b, off, none⟩ he)⟩⟩, h.oct, h.le, h.small⟩
section
variable {base : Nat} {w wr w' : World} {p c g : Nat} {gv : Value} {a : Option Addr} {len cap : Nat} {l : List Int} {at_ : Nat} {er : Int} {o : Ov}
theorem RdAt.on (h : RdAt base w wr p c g gv a len cap l at_ er o) (hb : Below wr.heap.size wr w') : RdAt base w w' p c g gv a len cap l at_ er o :=
  ⟨h.r.below hb, h.cur.below hb, own_below h.win hb, h.row.below hb, h.own.below hb, h.below.trans (hb.mono (Nat.le_of_lt (Nat.lt_of_le_of_lt h.hc h.cur.lt))), h.hc, h.hg⟩
theorem RdAt.drewN (h : RdAt base w wr p c g gv a len cap l at_ er o) (q : Nat) : RdAt base w (wr.drewN q) p c g gv a len cap l at_ er o := h.on (bdrew (Below.refl _ _) q)
theorem RdAt.size (h : RdAt base w wr p c g gv a len cap l at_ er o) : base ≤ wr.heap.size := Nat.le_of_lt (Nat.lt_of_le_of_lt h.hc h.cur.lt)
theorem RdAt.read (h : RdAt base w wr p c g gv a len cap l at_ er o) {at2 : Nat} {er2 : Int} (hc : CurAt w' c a len cap l at2 er2) (hg : wr.grownBy w' (some c)) : RdAt base w w' p c g gv a len cap l at2 er2 o :=
  ⟨h.r.kept hg (fun e => h.r.ne h.cur.row (by decide) (Option.some.inj e)), hc, h.win.kept hg (.inr (own_row h.win h.cur.row (by decide))), h.row.kept hg (fun e => h.row.ne h.cur.row (by decide) (Option.some.inj e)), h.own.row h.cur.row (by decide) (by decide) hg,
    Below.grown h.below hg h.size (fun k hk => by cases hk; exact h.hc), h.hc, h.hg⟩
theorem RdAt.wrote (h : RdAt base w wr p c g gv a len cap l at_ er o) {o2 : Ov} (hr : Row w' g 140 o2.cs) (hg : wr.grownBy w' (some g)) (ho : Own2 base w' o2) : RdAt base w w' p c g gv a len cap l at_ er o2 :=
  ⟨h.r.kept hg (fun e => h.r.ne h.row (by decide) (Option.some.inj e)), h.cur.other (fun e => h.cur.row.ne h.row (by decide) (Option.some.inj e)) (fun ad e => by have := own_row h.win h.row (by decide); rw [e] at this; exact this) hg, h.win.kept hg (.inr (own_row h.win h.row (by decide))), hr, ho,
    Below.grown h.below hg h.size (fun k hk => by cases hk; exact h.hg), h.hc, h.hg⟩
/-- The address is copied. -/
theorem RdAt.setA (h : RdAt base w wr p c g gv a len cap l at_ er o) (F : List Int) (hF : Adr F) : RdAt base w (wr.setRow g (o.setA F).cs) p c g gv a len cap l at_ er (o.setA F) := by
  have hg := grownBy_setRow wr g (o.setA F).cs
  have h2 := h.own.row h.row (by decide) (by decide) hg
  exact h.wrote (h.row.setRow _) hg ⟨h2.n, h2.nn, hF, h2.t, h2.tn, h2.oct⟩
/-- A list of numbers of the call's own is laid in. -/
theorem RdAt.setN (h : RdAt base w wr p c g gv a len cap l at_ er o) (na : Option Addr) (nc : Nat) (L : List Int) (hn : wr.ownsRow base 3 1 (.slice na L.length nc) L.length (i64s L)) : RdAt base w (wr.setCell ⟨g, 1, none⟩ (.slice na L.length nc)) p c g gv a len cap l at_ er (o.setN ⟨na, L.length, nc, L⟩) := by
  have hg := grownBy_setCell wr g 1 (.slice na L.length nc)
  have h2 := h.own.row h.row (by decide) (by decide) hg
  refine h.wrote ?_ hg ⟨hn.kept hg (.inr (own_row hn h.row (by decide))), rfl, h2.ad, h2.t, h2.tn, h2.oct⟩
  rw [← Ov.set1]
  exact h.row.set 1 _
theorem RdAt.setT (h : RdAt base w wr p c g gv a len cap l at_ er o) (na : Option Addr) (nc : Nat) (L : List Int) (hn : wr.ownsRow base 5 1 (.slice na L.length nc) L.length (u8s L)) (hO : Oct L) : RdAt base w (wr.setCell ⟨g, 18, none⟩ (.slice na L.length nc)) p c g gv a len cap l at_ er (o.setT ⟨na, L.length, nc, L⟩) := by
  have hg := grownBy_setCell wr g 18 (.slice na L.length nc)
  have h2 := h.own.row h.row (by decide) (by decide) hg
  refine h.wrote ?_ hg ⟨h2.n, h2.nn, h2.ad, hn.kept hg (.inr (own_row hn h.row (by decide))), rfl, hO⟩
  rw [← Ov.set18 h.own.ad]
  exact h.row.set 18 _
/-- An append onto the option's numbers. -/
theorem RdAt.grow (h : RdAt base w wr p c g gv a len cap l at_ er o) (hg : wr.grownBy w' o.n.v.ownBlock) : Row w' p 243 #[.pointer (some ⟨c, 0, none⟩), gv] ∧ CurAt w' c a len cap l at_ er ∧ w'.ownsRow base 5 1 (.slice a len cap) len (u8s l) ∧ Row w' g 140 o.cs ∧ w'.ownsRow base 5 1 o.t.v o.t.l.length (u8s o.t.l) ∧ Below base w w' := by
  have hw := own_apart h.win h.own.n (by decide)
  have ht := own_apart h.own.t h.own.n (by decide)
  refine ⟨h.r.kept hg (fun e => own_row h.own.n h.r (by decide) e.symm), h.cur.other (fun e => own_row h.own.n h.cur.row (by decide) e.symm) ?_ hg, h.win.kept hg hw, h.row.kept hg (fun e => own_row h.own.n h.row (by decide) e.symm), h.own.t.kept hg ht,
    Below.grown h.below hg h.size (fun k hk => (h.own.n.lt k hk).1)⟩
  intro ad e
  rcases hw with hw | hw
  · rw [e] at hw; simp [Value.ownBlock] at hw
  · rw [e] at hw; exact hw
/-- An append onto the option's numbers: the row that it writes. -/
theorem RdAt.app (h : RdAt base w wr p c g gv a len cap l at_ er o) (hg : wr.grownBy w' o.n.v.ownBlock) : Row w' p 243 #[.pointer (some ⟨c, 0, none⟩), gv] ∧ Row w' g 140 o.cs :=
  ⟨h.r.kept hg (fun e => own_row h.own.n h.r (by decide) e.symm), h.row.kept hg (fun e => own_row h.own.n h.row (by decide) e.symm)⟩
end
/-- n bytes, which are there. -/
theorem bytes_n (w : World) (c : Nat) (a : Option Addr) (len cap at_ : Nat) (l : List Int) (n : Nat) (h : CurAt w c a len cap l at_ 0) (hn : at_ + n ≤ len) :
    Calls Tryz.prog 67 #[.pointer (some ⟨c, 0, none⟩), .int .i64 n] w fun e w' => ∃ b cp, e = .returned (.slice b n cp) ∧
      Lies .u8 w' b n cp ((l.drop at_).take n) ∧ CurAt w' c a len cap l (at_ + n) 0 ∧ w.grownBy w' (some c) := by
  obtain ⟨hE, hN⟩ := rd_b n len at_ hn
  have hll := h.lies.1
  have hdl : ((l.drop at_).take n).length = n := by rw [List.length_take, List.length_drop]; omega
  have := bytes_any w c a len cap at_ l 0 n h
  rw [hE, hN] at this
  refine this.mono ?_
  rintro e w' ⟨v, rfl, hown, hc, hg⟩
  have hown' := ownsRow_u8 hown hdl.symm rfl
  obtain ⟨b, cp, rfl, hl, _⟩ := owns_lies hown'
  rw [hdl] at hl ⊢
  exact ⟨b, cp, rfl, hl, hc, hg⟩
/-- A number, which is there. -/
theorem take_n (w : World) (c : Nat) (a : Option Addr) (len cap at_ : Nat) (l : List Int) (size : Int) (h : CurAt w c a len cap l at_ 0) (hz : sizeB size = true) (hn : (at_ : Int) + size ≤ len) :
    Calls Tryz.prog 103 #[.pointer (some ⟨c, 0, none⟩), .int .i64 size] w fun e w' => e = .returned (.int .i64 (numOf ((l.drop at_).take size.toNat))) ∧
      CurAt w' c a len cap l (at_ + size.toNat) 0 ∧ w.grownBy w' (some c) ∧ w'.heap.size = w.heap.size := by
  obtain ⟨hE, hN⟩ := rd_n size len at_ hz hn
  have := take_any w c a len cap at_ l 0 size h
  rw [takeV, hE, hN] at this
  exact this
end Go.Proofs.YtbklpelikaapoaaGreatDoor

namespace Go.Proofs.YtbklpelikaapoaaGreatDoor
open Go.ChangeShapes Go.WideShapes Go.ChangeAt Go.RowKit Go.Deep
set_option linter.unusedVariables false
set_option linter.unusedSimpArgs false

/-- Where takeParts stands. -/
def TkAt (base : Nat) (w wr : World) (p c g : Nat) (gv : Value) (a : Option Addr) (len cap : Nat) (l : List Int) (k : Int) (s : Nat × List Int × List Int) : Prop :=
  ∃ o : Ov, RdAt base w wr p c g gv a len cap l s.1 0 o ∧ o.p = ⟨k, s.2.1, s.2.2, []⟩
theorem prt_all : ∀ k, k < 10 → (∀ p ∈ prt k, (p.1 == 16) = true ∨ sizeB p.1 = true) ∧ (∀ i, i ≤ (prt k).length → sumP ((prt k).take i) ≤ sumP (prt k)) := by decide
theorem stps_n (l : List Int) (P : List (Int × Int)) (j : Nat) (hj : j ≤ P.length) : (stps l (P.take j)).2.1.length ≤ j := by
  induction j with
  | zero => simp [stps]
  | succ j ih =>
    have := ih (by omega)
    rw [stps_succ l P j (by omega), stp]
    split
    · simp; omega
    · simp; omega
/-- A number is appended, and the list laid in. -/
theorem RdAt.push {base : Nat} {w wr w' : World} {p c g : Nat} {gv : Value} {a : Option Addr} {len cap : Nat} {l : List Int} {at_ : Nat} {er : Int} {o : Ov} (h : RdAt base w wr p c g gv a len cap l at_ er o) (hg : wr.grownBy w' o.n.v.ownBlock) (na : Option Addr) (nc : Nat) (L : List Int) (m : Nat) (hm : L.length = m) (hn : w'.ownsRow base 3 1 (.slice na m nc) m (i64s L)) :
    RdAt base w (w'.setCell ⟨g, 1, none⟩ (.slice na m nc)) p c g gv a len cap l at_ er (o.setN ⟨na, m, nc, L⟩) := by
  subst hm
  obtain ⟨h1, h2, h3, h4, h5, h6⟩ := h.grow hg
  have hs := grownBy_setCell w' g 1 (.slice na L.length nc)
  refine ⟨h1.other _ _ (h1.ne h4 (by decide)), h2.other (fun e => h2.row.ne h4 (by decide) (Option.some.inj e)) (fun ad e => by have := own_row h3 h4 (by decide); rw [e] at this; exact this) hs, h3.kept hs (.inr (own_row h3 h4 (by decide))), ?_, ⟨hn.kept hs (.inr (own_row hn h4 (by decide))), rfl, h.own.ad, h5.kept hs (.inr (own_row h5 h4 (by decide))), h.own.tn, h.own.oct⟩,
    Below.grown h6 hs (Nat.le_of_lt (Nat.lt_of_le_of_lt h.hg h4.lt)) (fun k hk => by cases hk; exact h.hg), h.hc, h.hg⟩
  rw [← Ov.set1]
  exact h4.set 1 _
set_option maxRecDepth 100000 in
set_option maxHeartbeats 1600000 in
theorem takeParts_any {B base : Nat} (k : Nat) (hk : k < 10) (w w0 : World) (p c g : Nat) (gv : Value) (a : Option Addr) (len cap : Nat) (l : List Int) (o : Ov) (h : RdAt base w w0 p c g gv a len cap l 0 0 o) (hop : o.p = ⟨k, [], zeros, []⟩) (hV : Vars B w0) (hB : B ≤ base) (hsum : sumP (prt k) = len) :
    Calls Tryz.prog 169 #[.pointer (some ⟨p, 0, none⟩), .pointer (some ⟨g, 0, none⟩)] w0 fun e w' => e = .returned (.tuple #[]) ∧ Hid (TkAt base w w' p c g gv a len cap l k (stps l (prt k))) := by
  obtain ⟨pa, n, pc, c1, hP⟩ := hV.parts k hk
  have hsm := (prt_small k hk).1
  have hn10 : n ≤ 10 := by rw [← hP.len]; exact hsm
  have HS := hid (prt_all k hk)
  have HV := hid hV
  have HP := hid hP
  have H := hid h
  have HO := hid hop
  have HSum := hid hsum
  have c0 : w0.cell? ⟨g, 0, none⟩ = some (.int .i64 k) := by rw [(h.row.cell 0).trans o.at0, show o.k = k from congrArg Po.k hop]
  have HLen : Hid ((l.length : Int) = len) := by rw [Hid, h.cur.lies.1]
  generalize prt k = P at *
  clear hV hP hsm h hop hsum
  go_enter Tryz.func169, Tryz.ntmps169
  go_wp2_with fail
  go_loopw [14] (fun i wr => ∃ j : Nat, j ≤ n ∧ i = .int .i64 j ∧ Hid (TkAt base w wr p c g gv a len cap l k (stps l (P.take j)))) (fun i _ => n - (intOf i).toNat)
  case atStart => exact ⟨0, Nat.zero_le _, rfl, o, H.out, HO.out⟩
  case round =>
    obtain ⟨j, hj, rfl, ht⟩ := hrel
    by_cases hlt : j < n
    · obtain ⟨o1, h1, hp1⟩ := ht.out
      have hjP : j < P.length := by rw [HP.out.len]; exact hlt
      obtain ⟨b, off, rfl, hbB, hc0, hc1⟩ := (HP.out.same (fun b o hb => (h1.below.cell (p := ⟨b, o, none⟩) (Nat.lt_of_lt_of_le hb hB)).trans (H.out.below.cell (p := ⟨b, o, none⟩) (Nat.lt_of_lt_of_le hb hB)).symm)).cell j hlt
      have a1 := stps_at l P HS.out.1 j (by omega)
      have a2 := sumP_succ P j hjP
      have a3 := HS.out.2 (j + 1) hjP
      have HNx := hid (stps_succ l P j hjP)
      have HD := hid (stps_adr l P HS.out.1 h1.cur.oct (HSum.out.trans HLen.out.symm) (j + 1) hjP HS.out.2)
      have hs2 := stps_n l P j (by omega)
      have hcase := HS.out.1 _ (show P.getD j (0, 0) ∈ P by simp [hjP])
      rw [HSum.out, a2, ← a1] at a3
      rw [HNx.out] at HD
      clear a1 a2 ht hjP
      generalize P.getD j (0, 0) = q at *
      generalize stps l (P.take j) = s at *
      obtain ⟨x, y⟩ := q
      obtain ⟨s1, s2, s3⟩ := s
      simp only at hc0 hc1 a3 hcase h1 hp1 hs2
      have hle1 : (s1 : Int) + x ≤ len := a3
      have HLs : Hid (s2.length = o1.n.n) := by rw [Hid, h1.own.nn, show o1.n.l = s2 from congrArg Po.n hp1]
      have HN1 : Hid (o1.n.l = s2) := congrArg Po.n hp1
      have HO1 : Hid (o1.n.a = o1.n.a ∧ o1.n.n = o1.n.n ∧ o1.n.cap = o1.n.cap) := ⟨rfl, rfl, rfl⟩
      have hn1 : o1.n.n ≤ 10 := by rw [← HLs.out]; omega
      generalize hna1 : o1.n.a = na1 at *
      generalize hnn1 : o1.n.n = n1 at *
      generalize hnc1 : o1.n.cap = nc1 at *
      replace HO1 : Hid (o1.n.a = na1 ∧ o1.n.n = n1 ∧ o1.n.cap = nc1) := ⟨hna1, hnn1, hnc1⟩
      have HP1 : Hid (o1.k = k ∧ o1.n.l = s2 ∧ o1.ad = s3 ∧ o1.t.l = []) := ⟨congrArg Po.k hp1, congrArg Po.n hp1, congrArg Po.ad hp1, congrArg Po.t hp1⟩
      have R0 := hid (Row.new wr 240 #[.int .i64 x, .int .i64 y])
      have H2 := hid (h1.on (balloc (Below.refl wr.heap.size wr) (.cells #[.int .i64 x, .int .i64 y] 240)))
      clear hna1 hnn1 hnc1 h1 hp1 a3
      cases h16 : (x == 16)
      · have hz : sizeB x = true := by rcases hcase with e | e; · exact absurd e (by rw [h16]; simp)
                                       · exact e
        clear hcase
        go_wp2_with fail
        refine (isAddress_any _ _ _).mono ?_
        rintro e w1 ⟨rfl, hb1⟩
        have H3 := hid (H2.out.on hb1)
        have R1 := hid (R0.out.below hb1)
        clear hb1 H2 R0
        rw [h16]
        generalize wr.heap.size = t at *
        go_wp2_with fail
        refine wp_region_held_drew (S := fun w' => w'.cell? ⟨p, 0, none⟩ = some (.pointer (some ⟨c, 0, none⟩)) ∧ w'.cell? ⟨t, 0, none⟩ = some (.int .i64 x)) (by kernel_rfl) ?_ (fun hHeld => ?_)
        · exact ⟨H3.out.r.cell 0, (R1.out.cell 0)⟩
        refine wpAnyH_take (i := 0) (oi := _) (v := ?va0) rfl (by kernel_rfl) (by kernel_rfl) (by kernel_rfl) (fun _ _ _ h => h) (Or.inl ⟨by rfl, ?hya0⟩) (by assumption) ?resta0
        case hya0 => (intro w hSw; (try dsimp only at hSw); go_split_ands; go_simp; try (with_reducible rfl))
        try simp only [List.getElem_toArray, List.getElem_cons_zero, List.getElem_cons_succ, Act.put, List.setIfInBounds_toArray, List.set_cons_zero, List.set_cons_succ]
        refine wpAnyH_take (i := 1) (oi := _) (v := ?va1) rfl (by kernel_rfl) (by kernel_rfl) (by kernel_rfl) (fun _ _ _ h => h) (Or.inl ⟨by rfl, ?hya1⟩) (by assumption) ?resta1
        case hya1 => (intro w hSw; (try dsimp only at hSw); go_split_ands; go_simp; try (with_reducible rfl))
        try simp only [List.getElem_toArray, List.getElem_cons_zero, List.getElem_cons_succ, Act.put, List.setIfInBounds_toArray, List.set_cons_zero, List.set_cons_succ]
        refine wpAnyH_take (i := 2) (oi := _) (v := ?va2) rfl (by kernel_rfl) (by kernel_rfl) (by kernel_rfl) (fun _ _ _ h => h) (Or.inl ⟨by rfl, ?hya2⟩) (by assumption) ?resta2
        case hya2 => (intro w hSw; (try dsimp only at hSw); go_split_ands; go_simp; try (with_reducible rfl))
        try simp only [List.getElem_toArray, List.getElem_cons_zero, List.getElem_cons_succ, Act.put, List.setIfInBounds_toArray, List.set_cons_zero, List.set_cons_succ]
        refine wpAnyH_take (i := 3) (oi := _) (v := ?va3) rfl (by kernel_rfl) (by kernel_rfl) (by kernel_rfl) (fun _ _ _ h => h) (Or.inl ⟨by rfl, ?hya3⟩) (by assumption) ?resta3
        case hya3 => (intro w hSw; (try dsimp only at hSw); go_split_ands; go_simp; try (with_reducible rfl))
        try simp only [List.getElem_toArray, List.getElem_cons_zero, List.getElem_cons_succ, Act.put, List.setIfInBounds_toArray, List.set_cons_zero, List.set_cons_succ]
        refine wpAnyH_take (i := 5) (oi := _) (v := ?va5) rfl (by kernel_rfl) (by kernel_rfl) (by kernel_rfl) (fun _ _ _ h => h) (Or.inl ⟨by rfl, ?hya5⟩) (by assumption) ?resta5
        case hya5 => (intro w hSw; (try dsimp only at hSw); go_split_ands; go_simp; try (with_reducible rfl))
        try simp only [List.getElem_toArray, List.getElem_cons_zero, List.getElem_cons_succ, Act.put, List.setIfInBounds_toArray, List.set_cons_zero, List.set_cons_succ]
        refine wpAnyH_take (i := 6) (oi := _) (v := ?va6) rfl (by kernel_rfl) (by kernel_rfl) (by kernel_rfl) (fun _ _ _ h => h) (Or.inl ⟨by rfl, ?hya6⟩) (by assumption) ?resta6
        case hya6 => (intro w hSw; (try dsimp only at hSw); go_split_ands; go_simp; try (with_reducible rfl))
        try simp only [List.getElem_toArray, List.getElem_cons_zero, List.getElem_cons_succ, Act.put, List.setIfInBounds_toArray, List.set_cons_zero, List.set_cons_succ]
        refine wpAnyH_take (i := 7) (oi := _) (v := ?va7) rfl (by kernel_rfl) (by kernel_rfl) (by kernel_rfl) (fun _ _ _ h => h) (Or.inl ⟨by rfl, ?hya7⟩) (by assumption) ?resta7
        case hya7 => (intro w hSw; (try dsimp only at hSw); go_split_ands; go_simp; try (with_reducible rfl))
        try simp only [List.getElem_toArray, List.getElem_cons_zero, List.getElem_cons_succ, Act.put, List.setIfInBounds_toArray, List.set_cons_zero, List.set_cons_succ]
        refine wpAnyH_take (i := 8) (oi := _) (v := ?va8) rfl (by kernel_rfl) (by kernel_rfl) (by kernel_rfl) (fun _ _ _ h => h) (Or.inl ⟨by rfl, ?hya8⟩) (by assumption) ?resta8
        case hya8 => (intro w hSw; (try dsimp only at hSw); go_split_ands; go_simp; try (with_reducible rfl))
        try simp only [List.getElem_toArray, List.getElem_cons_zero, List.getElem_cons_succ, Act.put, List.setIfInBounds_toArray, List.set_cons_zero, List.set_cons_succ]
        refine wpAnyH_take (i := 9) (oi := _) (v := ?va9) rfl (by kernel_rfl) (by kernel_rfl) (by kernel_rfl) (fun _ _ _ h => h) (Or.inl ⟨by rfl, ?hya9⟩) (by assumption) ?resta9
        case hya9 => (intro w hSw; (try dsimp only at hSw); go_split_ands; go_simp; try (with_reducible rfl))
        try simp only [List.getElem_toArray, List.getElem_cons_zero, List.getElem_cons_succ, Act.put, List.setIfInBounds_toArray, List.set_cons_zero, List.set_cons_succ]
        refine wpAnyH_take (i := 10) (oi := _) (v := ?va10) rfl (by kernel_rfl) (by kernel_rfl) (by kernel_rfl) (fun _ _ _ h => h) (Or.inl ⟨by rfl, ?hya10⟩) (by assumption) ?resta10
        case hya10 => (intro w hSw; (try dsimp only at hSw); go_split_ands; go_simp; try (with_reducible rfl))
        try simp only [List.getElem_toArray, List.getElem_cons_zero, List.getElem_cons_succ, Act.put, List.setIfInBounds_toArray, List.set_cons_zero, List.set_cons_succ]
        refine wpAnyH_ready (rs := [4, 11]) (by kernel_rfl) (by simp) ?_
        refine AllReadyH.cons (o := _) rfl (fun K hK => ?_) (AllReadyH.cons (o := _) rfl (fun K hK => ?_) AllReadyH.nil)
        · have cn : w1.drew.cell? ⟨g, 1, none⟩ = some (.slice na1 n1 nc1) := (H3.out.row.cell 1).trans (by rw [o1.at1, HO1.out.1, HO1.out.2.1, HO1.out.2.2])
          go_simp
          go_wp2_with fail
          refine hK.out _ _ ⟨H3.out.r.cell 0, (R1.out.cell 0)⟩ (fun hHeld => ?_)
          clear hK K
          try simp only [List.getElem_toArray, List.getElem_cons_zero, List.getElem_cons_succ, Act.put, List.setIfInBounds_toArray, List.set_cons_zero, List.set_cons_succ]
          clear cn
          refine wpAnyH_ready (rs := [11]) (by kernel_rfl) (by simp) ?_
          refine AllReadyH.cons (o := _) rfl (fun K hK => ?_) AllReadyH.nil
          go_simp
          refine (take_n _ c a len cap s1 l x (H3.out.cur.drewN _) hz hle1).mono ?_
          rintro e w2 ⟨rfl, hc, hg, hs⟩
          have H4 := hid ((H3.out.drewN _).read hc hg)
          have R2 := hid (Row.kept (R1.out.drewN _) hg (fun e => R1.out.ne H3.out.cur.row (by decide) (Option.some.inj e)))
          clear hc hg hs H3 R1
          generalize hv : numOf ((l.drop s1).take x.toNat) = v at *
          have HVV := hid hv
          clear hv
          go_wp2_with fail
          refine hK.out _ _ ⟨H4.out.r.cell 0, (R2.out.cell 0)⟩ (fun hHeld => ?_)
          clear hK K
          try simp only [List.getElem_toArray, List.getElem_cons_zero, List.getElem_cons_succ, Act.put, List.setIfInBounds_toArray, List.set_cons_zero, List.set_cons_succ]
          refine wpAnyH_ready (rs := [12]) (by kernel_rfl) (by simp) ?_
          refine AllReadyH.cons (o := _) rfl (fun K hK => ?_) AllReadyH.nil
          go_simp
          have BA := hid (balloc (Below.refl w2.heap.size w2) (.cells #[.int .i64 v] 3))
          have H5 := hid (H4.out.on BA.out)
          have R3 := hid (R2.out.alloc (.cells #[.int .i64 v] 3))
          have LN := hid (lies_new .i64 w2 #[.int .i64 v] 3 [v] rfl (by simp))
          have NN : Hid ((w2.alloc (.cells #[.int .i64 v] 3)).ownsRow base 3 1 (.slice na1 n1 nc1) n1 (i64s s2)) := by
            have := H5.out.own.n
            rw [← H5.out.own.nn, HN1.out, Txt.v, HO1.out.1, HO1.out.2.1, HO1.out.2.2] at this
            exact this
          go_wp2_with fail
          refine hK.out _ _ ⟨H5.out.r.cell 0, (R3.out.cell 0)⟩ (fun hHeld => ?_)
          clear hK K
          try simp only [List.getElem_toArray, List.getElem_cons_zero, List.getElem_cons_succ, Act.put, List.setIfInBounds_toArray, List.set_cons_zero, List.set_cons_succ]
          refine wpAnyH_ready (rs := [13]) (by kernel_rfl) (by simp) ?_
          refine AllReadyH.cons (o := _) rfl (fun K hK => ?_) AllReadyH.nil
          refine step_appI (base := base) (n := n1) (m := 1) (xs := s2) (l := [v]) rfl _ _ rfl rfl rfl (by exact NN.out) (by exact LN.out) (by exact H5.out.size) (by omega) ?_
          intro v4 w4 hown4 hg4
          obtain ⟨na, nc, rfl⟩ := owns_len hown4
          have HG : Hid ((w2.alloc (.cells #[.int .i64 v] 3)).grownBy w4 o1.n.v.ownBlock) := by rw [Hid, Txt.v, HO1.out.1, HO1.out.2.1, HO1.out.2.2]; exact hg4
          have HL4 : (s2 ++ [v]).length = n1 + 1 := by rw [List.length_append, HLs.out]; rfl
          have H6 := hid (RdAt.push H5.out HG.out na nc (s2 ++ [v]) (n1 + 1) HL4 hown4)
          obtain ⟨g1, _, _, g4, _, _⟩ := H5.out.grow HG.out
          have P6 := hid g1
          have O6 := hid g4
          have R4 := hid (R3.out.kept HG.out (fun e => own_row H5.out.own.n R3.out (by decide) e.symm))
          clear hown4 hg4 g1 g4 HG H5 R3 LN NN HL4
          refine hK.out _ _ ⟨P6.out.cell 0, (R4.out.cell 0)⟩ (fun hHeld => ?_)
          clear hK K
          try simp only [List.getElem_toArray, List.getElem_cons_zero, List.getElem_cons_succ, Act.put, List.setIfInBounds_toArray, List.set_cons_zero, List.set_cons_succ]
          have f1 := O6.out.frozen 1
          have cn := (O6.out.cell 1).trans o1.at1
          refine wpAnyH_take (i := 14) (oi := _) (v := ?vc14) rfl (by kernel_rfl) (by kernel_rfl) (by kernel_rfl) (fun _ _ _ h => h) (Or.inl ⟨by rfl, ?hyc14⟩) (by assumption) ?restc14
          case hyc14 => (intro w hSw; (try dsimp only at hSw); go_split_ands; go_simp; try (with_reducible rfl))
          try simp only [List.getElem_toArray, List.getElem_cons_zero, List.getElem_cons_succ, Act.put, List.setIfInBounds_toArray, List.set_cons_zero, List.set_cons_succ]
          refine wpAnyH_take (i := 15) (oi := _) (v := ?vc15) rfl (by kernel_rfl) (by kernel_rfl) (by kernel_rfl) (fun _ _ _ h => h) (Or.inl ⟨by rfl, ?hyc15⟩) (by assumption) ?restc15
          case hyc15 => (intro w hSw; (try dsimp only at hSw); go_split_ands; go_simp; try (with_reducible rfl))
          try simp only [List.getElem_toArray, List.getElem_cons_zero, List.getElem_cons_succ, Act.put, List.setIfInBounds_toArray, List.set_cons_zero, List.set_cons_succ]
          refine wpAnyH_ready (rs := [16]) (by kernel_rfl) (by simp) ?_
          refine AllReadyH.cons (o := _) rfl (fun K hK => ?_) AllReadyH.nil
          go_simp
          go_wp2_with fail
          refine hK.out _ _ ⟨(P6.out.other _ _ (P6.out.ne O6.out (by decide))).cell 0, (R4.out.other _ _ (R4.out.ne O6.out (by decide))).cell 0⟩ (fun hHeld => ?_)
          clear hK K
          try simp only [List.getElem_toArray, List.getElem_cons_zero, List.getElem_cons_succ, Act.put, List.setIfInBounds_toArray, List.set_cons_zero, List.set_cons_succ]
          refine wpAnyH_done (by kernel_rfl) ?_ _
          go_wp2_with fail
          go_roundw
          case rel =>
            refine ⟨j + 1, by omega, by go_num, ?_⟩
            rw [Hid, HNx.out, stp, if_neg (by simp [h16])]
            exact ⟨_, H6.out, by rw [← HP1.out.2.2.1, ← HP1.out.1]; simp only [Ov.p, Ov.setN, HP1.out.2.2.2, HVV.out]⟩
          case measure => simp [intOf]; omega

        · go_simp
          refine (take_n _ c a len cap s1 l x (H3.out.cur.drewN _) hz hle1).mono ?_
          rintro e w2 ⟨rfl, hc, hg, hs⟩
          have H4 := hid ((H3.out.drewN _).read hc hg)
          have R2 := hid (Row.kept (R1.out.drewN _) hg (fun e => R1.out.ne H3.out.cur.row (by decide) (Option.some.inj e)))
          clear hc hg hs H3 R1
          generalize hv : numOf ((l.drop s1).take x.toNat) = v at *
          have HVV := hid hv
          clear hv
          go_wp2_with fail
          refine hK.out _ _ ⟨H4.out.r.cell 0, (R2.out.cell 0)⟩ (fun hHeld => ?_)
          clear hK K
          try simp only [List.getElem_toArray, List.getElem_cons_zero, List.getElem_cons_succ, Act.put, List.setIfInBounds_toArray, List.set_cons_zero, List.set_cons_succ]
          refine wpAnyH_ready (rs := [4, 12]) (by kernel_rfl) (by simp) ?_
          refine AllReadyH.cons (o := _) rfl (fun K hK => ?_) (AllReadyH.cons (o := _) rfl (fun K hK => ?_) AllReadyH.nil)
          · have cn : w2.cell? ⟨g, 1, none⟩ = some (.slice na1 n1 nc1) := (H4.out.row.cell 1).trans (by rw [o1.at1, HO1.out.1, HO1.out.2.1, HO1.out.2.2])
            go_simp
            go_wp2_with fail
            refine hK.out _ _ ⟨H4.out.r.cell 0, (R2.out.cell 0)⟩ (fun hHeld => ?_)
            clear hK K
            try simp only [List.getElem_toArray, List.getElem_cons_zero, List.getElem_cons_succ, Act.put, List.setIfInBounds_toArray, List.set_cons_zero, List.set_cons_succ]
            clear cn
            refine wpAnyH_ready (rs := [12]) (by kernel_rfl) (by simp) ?_
            refine AllReadyH.cons (o := _) rfl (fun K hK => ?_) AllReadyH.nil
            go_simp
            have BA := hid (balloc (Below.refl w2.heap.size w2) (.cells #[.int .i64 v] 3))
            have H5 := hid (H4.out.on BA.out)
            have R3 := hid (R2.out.alloc (.cells #[.int .i64 v] 3))
            have LN := hid (lies_new .i64 w2 #[.int .i64 v] 3 [v] rfl (by simp))
            have NN : Hid ((w2.alloc (.cells #[.int .i64 v] 3)).ownsRow base 3 1 (.slice na1 n1 nc1) n1 (i64s s2)) := by
              have := H5.out.own.n
              rw [← H5.out.own.nn, HN1.out, Txt.v, HO1.out.1, HO1.out.2.1, HO1.out.2.2] at this
              exact this
            go_wp2_with fail
            refine hK.out _ _ ⟨H5.out.r.cell 0, (R3.out.cell 0)⟩ (fun hHeld => ?_)
            clear hK K
            try simp only [List.getElem_toArray, List.getElem_cons_zero, List.getElem_cons_succ, Act.put, List.setIfInBounds_toArray, List.set_cons_zero, List.set_cons_succ]
            refine wpAnyH_ready (rs := [13]) (by kernel_rfl) (by simp) ?_
            refine AllReadyH.cons (o := _) rfl (fun K hK => ?_) AllReadyH.nil
            refine step_appI (base := base) (n := n1) (m := 1) (xs := s2) (l := [v]) rfl _ _ rfl rfl rfl (by exact NN.out) (by exact LN.out) (by exact H5.out.size) (by omega) ?_
            intro v4 w4 hown4 hg4
            obtain ⟨na, nc, rfl⟩ := owns_len hown4
            have HG : Hid ((w2.alloc (.cells #[.int .i64 v] 3)).grownBy w4 o1.n.v.ownBlock) := by rw [Hid, Txt.v, HO1.out.1, HO1.out.2.1, HO1.out.2.2]; exact hg4
            have HL4 : (s2 ++ [v]).length = n1 + 1 := by rw [List.length_append, HLs.out]; rfl
            have H6 := hid (RdAt.push H5.out HG.out na nc (s2 ++ [v]) (n1 + 1) HL4 hown4)
            obtain ⟨g1, _, _, g4, _, _⟩ := H5.out.grow HG.out
            have P6 := hid g1
            have O6 := hid g4
            have R4 := hid (R3.out.kept HG.out (fun e => own_row H5.out.own.n R3.out (by decide) e.symm))
            clear hown4 hg4 g1 g4 HG H5 R3 LN NN HL4
            refine hK.out _ _ ⟨P6.out.cell 0, (R4.out.cell 0)⟩ (fun hHeld => ?_)
            clear hK K
            try simp only [List.getElem_toArray, List.getElem_cons_zero, List.getElem_cons_succ, Act.put, List.setIfInBounds_toArray, List.set_cons_zero, List.set_cons_succ]
            have f1 := O6.out.frozen 1
            have cn := (O6.out.cell 1).trans o1.at1
            refine wpAnyH_take (i := 14) (oi := _) (v := ?vd14) rfl (by kernel_rfl) (by kernel_rfl) (by kernel_rfl) (fun _ _ _ h => h) (Or.inl ⟨by rfl, ?hyd14⟩) (by assumption) ?restd14
            case hyd14 => (intro w hSw; (try dsimp only at hSw); go_split_ands; go_simp; try (with_reducible rfl))
            try simp only [List.getElem_toArray, List.getElem_cons_zero, List.getElem_cons_succ, Act.put, List.setIfInBounds_toArray, List.set_cons_zero, List.set_cons_succ]
            refine wpAnyH_take (i := 15) (oi := _) (v := ?vd15) rfl (by kernel_rfl) (by kernel_rfl) (by kernel_rfl) (fun _ _ _ h => h) (Or.inl ⟨by rfl, ?hyd15⟩) (by assumption) ?restd15
            case hyd15 => (intro w hSw; (try dsimp only at hSw); go_split_ands; go_simp; try (with_reducible rfl))
            try simp only [List.getElem_toArray, List.getElem_cons_zero, List.getElem_cons_succ, Act.put, List.setIfInBounds_toArray, List.set_cons_zero, List.set_cons_succ]
            refine wpAnyH_ready (rs := [16]) (by kernel_rfl) (by simp) ?_
            refine AllReadyH.cons (o := _) rfl (fun K hK => ?_) AllReadyH.nil
            go_simp
            go_wp2_with fail
            refine hK.out _ _ ⟨(P6.out.other _ _ (P6.out.ne O6.out (by decide))).cell 0, (R4.out.other _ _ (R4.out.ne O6.out (by decide))).cell 0⟩ (fun hHeld => ?_)
            clear hK K
            try simp only [List.getElem_toArray, List.getElem_cons_zero, List.getElem_cons_succ, Act.put, List.setIfInBounds_toArray, List.set_cons_zero, List.set_cons_succ]
            refine wpAnyH_done (by kernel_rfl) ?_ _
            go_wp2_with fail
            go_roundw
            case rel =>
              refine ⟨j + 1, by omega, by go_num, ?_⟩
              rw [Hid, HNx.out, stp, if_neg (by simp [h16])]
              exact ⟨_, H6.out, by rw [← HP1.out.2.2.1, ← HP1.out.1]; simp only [Ov.p, Ov.setN, HP1.out.2.2.2, HVV.out]⟩
            case measure => simp [intOf]; omega

          · go_simp
            have BA := hid (balloc (Below.refl w2.heap.size w2) (.cells #[.int .i64 v] 3))
            have H5 := hid (H4.out.on BA.out)
            have R3 := hid (R2.out.alloc (.cells #[.int .i64 v] 3))
            have LN := hid (lies_new .i64 w2 #[.int .i64 v] 3 [v] rfl (by simp))
            have NN : Hid ((w2.alloc (.cells #[.int .i64 v] 3)).ownsRow base 3 1 (.slice na1 n1 nc1) n1 (i64s s2)) := by
              have := H5.out.own.n
              rw [← H5.out.own.nn, HN1.out, Txt.v, HO1.out.1, HO1.out.2.1, HO1.out.2.2] at this
              exact this
            go_wp2_with fail
            refine hK.out _ _ ⟨H5.out.r.cell 0, (R3.out.cell 0)⟩ (fun hHeld => ?_)
            clear hK K
            try simp only [List.getElem_toArray, List.getElem_cons_zero, List.getElem_cons_succ, Act.put, List.setIfInBounds_toArray, List.set_cons_zero, List.set_cons_succ]
            refine wpAnyH_ready (rs := [4]) (by kernel_rfl) (by simp) ?_
            refine AllReadyH.cons (o := _) rfl (fun K hK => ?_) AllReadyH.nil
            have cn : (w2.alloc (.cells #[.int .i64 v] 3)).cell? ⟨g, 1, none⟩ = some (.slice na1 n1 nc1) := (H5.out.row.cell 1).trans (by rw [o1.at1, HO1.out.1, HO1.out.2.1, HO1.out.2.2])
            go_simp
            go_wp2_with fail
            refine hK.out _ _ ⟨H5.out.r.cell 0, (R3.out.cell 0)⟩ (fun hHeld => ?_)
            clear hK K
            try simp only [List.getElem_toArray, List.getElem_cons_zero, List.getElem_cons_succ, Act.put, List.setIfInBounds_toArray, List.set_cons_zero, List.set_cons_succ]
            clear cn
            refine wpAnyH_ready (rs := [13]) (by kernel_rfl) (by simp) ?_
            refine AllReadyH.cons (o := _) rfl (fun K hK => ?_) AllReadyH.nil
            refine step_appI (base := base) (n := n1) (m := 1) (xs := s2) (l := [v]) rfl _ _ rfl rfl rfl (by exact NN.out) (by exact LN.out) (by exact H5.out.size) (by omega) ?_
            intro v4 w4 hown4 hg4
            obtain ⟨na, nc, rfl⟩ := owns_len hown4
            have HG : Hid ((w2.alloc (.cells #[.int .i64 v] 3)).grownBy w4 o1.n.v.ownBlock) := by rw [Hid, Txt.v, HO1.out.1, HO1.out.2.1, HO1.out.2.2]; exact hg4
            have HL4 : (s2 ++ [v]).length = n1 + 1 := by rw [List.length_append, HLs.out]; rfl
            have H6 := hid (RdAt.push H5.out HG.out na nc (s2 ++ [v]) (n1 + 1) HL4 hown4)
            obtain ⟨g1, _, _, g4, _, _⟩ := H5.out.grow HG.out
            have P6 := hid g1
            have O6 := hid g4
            have R4 := hid (R3.out.kept HG.out (fun e => own_row H5.out.own.n R3.out (by decide) e.symm))
            clear hown4 hg4 g1 g4 HG H5 R3 LN NN HL4
            refine hK.out _ _ ⟨P6.out.cell 0, (R4.out.cell 0)⟩ (fun hHeld => ?_)
            clear hK K
            try simp only [List.getElem_toArray, List.getElem_cons_zero, List.getElem_cons_succ, Act.put, List.setIfInBounds_toArray, List.set_cons_zero, List.set_cons_succ]
            have f1 := O6.out.frozen 1
            have cn := (O6.out.cell 1).trans o1.at1
            refine wpAnyH_take (i := 14) (oi := _) (v := ?ve14) rfl (by kernel_rfl) (by kernel_rfl) (by kernel_rfl) (fun _ _ _ h => h) (Or.inl ⟨by rfl, ?hye14⟩) (by assumption) ?reste14
            case hye14 => (intro w hSw; (try dsimp only at hSw); go_split_ands; go_simp; try (with_reducible rfl))
            try simp only [List.getElem_toArray, List.getElem_cons_zero, List.getElem_cons_succ, Act.put, List.setIfInBounds_toArray, List.set_cons_zero, List.set_cons_succ]
            refine wpAnyH_take (i := 15) (oi := _) (v := ?ve15) rfl (by kernel_rfl) (by kernel_rfl) (by kernel_rfl) (fun _ _ _ h => h) (Or.inl ⟨by rfl, ?hye15⟩) (by assumption) ?reste15
            case hye15 => (intro w hSw; (try dsimp only at hSw); go_split_ands; go_simp; try (with_reducible rfl))
            try simp only [List.getElem_toArray, List.getElem_cons_zero, List.getElem_cons_succ, Act.put, List.setIfInBounds_toArray, List.set_cons_zero, List.set_cons_succ]
            refine wpAnyH_ready (rs := [16]) (by kernel_rfl) (by simp) ?_
            refine AllReadyH.cons (o := _) rfl (fun K hK => ?_) AllReadyH.nil
            go_simp
            go_wp2_with fail
            refine hK.out _ _ ⟨(P6.out.other _ _ (P6.out.ne O6.out (by decide))).cell 0, (R4.out.other _ _ (R4.out.ne O6.out (by decide))).cell 0⟩ (fun hHeld => ?_)
            clear hK K
            try simp only [List.getElem_toArray, List.getElem_cons_zero, List.getElem_cons_succ, Act.put, List.setIfInBounds_toArray, List.set_cons_zero, List.set_cons_succ]
            refine wpAnyH_done (by kernel_rfl) ?_ _
            go_wp2_with fail
            go_roundw
            case rel =>
              refine ⟨j + 1, by omega, by go_num, ?_⟩
              rw [Hid, HNx.out, stp, if_neg (by simp [h16])]
              exact ⟨_, H6.out, by rw [← HP1.out.2.2.1, ← HP1.out.1]; simp only [Ov.p, Ov.setN, HP1.out.2.2.2, HVV.out]⟩
            case measure => simp [intOf]; omega


      · obtain rfl : x = 16 := by simpa using h16
        have hle2 : s1 + 16 ≤ len := by omega
        have HDA : Hid (Adr ((l.drop s1).take 16)) := HD.out
        clear HD hcase
        go_wp2_with fail
        refine (isAddress_any _ _ _).mono ?_
        rintro e w1 ⟨rfl, hb1⟩
        have H3 := hid (H2.out.on hb1)
        clear hb1 H2 R0
        rw [h16]
        generalize wr.heap.size = t at *
        go_wp2_with fail
        refine wp_region_held_drew (S := fun w' => w'.cell? ⟨p, 0, none⟩ = some (.pointer (some ⟨c, 0, none⟩))) (by kernel_rfl) ?_ (fun hHeld => ?_)
        · exact H3.out.r.cell 0
        refine wpAnyH_take (i := 0) (oi := _) (v := ?vb0) rfl (by kernel_rfl) (by kernel_rfl) (by kernel_rfl) (fun _ _ _ h => h) (Or.inl ⟨by rfl, ?hyb0⟩) (by assumption) ?restb0
        case hyb0 => (intro w hSw; (try dsimp only at hSw); go_split_ands; go_simp; try (with_reducible rfl))
        try simp only [List.getElem_toArray, List.getElem_cons_zero, List.getElem_cons_succ, Act.put, List.setIfInBounds_toArray, List.set_cons_zero, List.set_cons_succ]
        refine wpAnyH_take (i := 1) (oi := _) (v := ?vb1) rfl (by kernel_rfl) (by kernel_rfl) (by kernel_rfl) (fun _ _ _ h => h) (Or.inl ⟨by rfl, ?hyb1⟩) (by assumption) ?restb1
        case hyb1 => (intro w hSw; (try dsimp only at hSw); go_split_ands; go_simp; try (with_reducible rfl))
        try simp only [List.getElem_toArray, List.getElem_cons_zero, List.getElem_cons_succ, Act.put, List.setIfInBounds_toArray, List.set_cons_zero, List.set_cons_succ]
        refine wpAnyH_take (i := 2) (oi := _) (v := ?vb2) rfl (by kernel_rfl) (by kernel_rfl) (by kernel_rfl) (fun _ _ _ h => h) (Or.inl ⟨by rfl, ?hyb2⟩) (by assumption) ?restb2
        case hyb2 => (intro w hSw; (try dsimp only at hSw); go_split_ands; go_simp; try (with_reducible rfl))
        try simp only [List.getElem_toArray, List.getElem_cons_zero, List.getElem_cons_succ, Act.put, List.setIfInBounds_toArray, List.set_cons_zero, List.set_cons_succ]
        refine wpAnyH_take (i := 3) (oi := _) (v := ?vb3) rfl (by kernel_rfl) (by kernel_rfl) (by kernel_rfl) (fun _ _ _ h => h) (Or.inl ⟨by rfl, ?hyb3⟩) (by assumption) ?restb3
        case hyb3 => (intro w hSw; (try dsimp only at hSw); go_split_ands; go_simp; try (with_reducible rfl))
        try simp only [List.getElem_toArray, List.getElem_cons_zero, List.getElem_cons_succ, Act.put, List.setIfInBounds_toArray, List.set_cons_zero, List.set_cons_succ]
        refine wpAnyH_take (i := 4) (oi := _) (v := ?vb4) rfl (by kernel_rfl) (by kernel_rfl) (by kernel_rfl) (fun _ _ _ h => h) (Or.inl ⟨by rfl, ?hyb4⟩) (by assumption) ?restb4
        case hyb4 => (intro w hSw; (try dsimp only at hSw); go_split_ands; go_simp; try (with_reducible rfl))
        try simp only [List.getElem_toArray, List.getElem_cons_zero, List.getElem_cons_succ, Act.put, List.setIfInBounds_toArray, List.set_cons_zero, List.set_cons_succ]
        refine wpAnyH_take (i := 5) (oi := _) (v := ?vb5) rfl (by kernel_rfl) (by kernel_rfl) (by kernel_rfl) (fun _ _ _ h => h) (Or.inl ⟨by rfl, ?hyb5⟩) (by assumption) ?restb5
        case hyb5 => (intro w hSw; (try dsimp only at hSw); go_split_ands; go_simp; try (with_reducible rfl))
        try simp only [List.getElem_toArray, List.getElem_cons_zero, List.getElem_cons_succ, Act.put, List.setIfInBounds_toArray, List.set_cons_zero, List.set_cons_succ]
        refine wpAnyH_take (i := 6) (oi := _) (v := ?vb6) rfl (by kernel_rfl) (by kernel_rfl) (by kernel_rfl) (fun _ _ _ h => h) (Or.inl ⟨by rfl, ?hyb6⟩) (by assumption) ?restb6
        case hyb6 => (intro w hSw; (try dsimp only at hSw); go_split_ands; go_simp; try (with_reducible rfl))
        try simp only [List.getElem_toArray, List.getElem_cons_zero, List.getElem_cons_succ, Act.put, List.setIfInBounds_toArray, List.set_cons_zero, List.set_cons_succ]
        refine wpAnyH_take (i := 7) (oi := _) (v := ?vb7) rfl (by kernel_rfl) (by kernel_rfl) (by kernel_rfl) (fun _ _ _ h => h) (Or.inl ⟨by rfl, ?hyb7⟩) (by assumption) ?restb7
        case hyb7 => (intro w hSw; (try dsimp only at hSw); go_split_ands; go_simp; try (with_reducible rfl))
        try simp only [List.getElem_toArray, List.getElem_cons_zero, List.getElem_cons_succ, Act.put, List.setIfInBounds_toArray, List.set_cons_zero, List.set_cons_succ]
        refine wpAnyH_ready (rs := [8]) (by kernel_rfl) (by simp) ?_
        refine AllReadyH.cons (o := _) rfl (fun K hK => ?_) AllReadyH.nil
        go_simp
        refine (bytes_n _ c a len cap s1 l 16 (H3.out.cur.drewN _) hle2).mono ?_
        rintro e w2 ⟨fb, fc, rfl, hl, hc, hg⟩
        have H4 := hid ((H3.out.drewN _).read hc hg)
        have L4 := hid hl
        clear hc hg hl H3
        generalize hF : (l.drop s1).take 16 = F at *
        have HF := hid hF
        clear hF
        go_wp2_with fail
        refine hK.out _ _ (H4.out.r.cell 0) (fun hHeld => ?_)
        clear hK K
        try simp only [List.getElem_toArray, List.getElem_cons_zero, List.getElem_cons_succ, Act.put, List.setIfInBounds_toArray, List.set_cons_zero, List.set_cons_succ]
        refine wpAnyH_ready (rs := [9]) (by kernel_rfl) (by simp) ?_
        refine AllReadyH.cons (o := _) rfl (fun K hK => ?_) AllReadyH.nil
        refine step_copyA rfl _ _ rfl g 16 _ _ rfl rfl o1 H4.out.own.ad H4.out.row F L4.out ?_
        have H5 := hid (H4.out.setA F HDA.out)
        refine hK.out _ _ (H5.out.r.cell 0) (fun hHeld => ?_)
        clear hK K
        try simp only [List.getElem_toArray, List.getElem_cons_zero, List.getElem_cons_succ, Act.put, List.setIfInBounds_toArray, List.set_cons_zero, List.set_cons_succ]
        refine wpAnyH_done (by kernel_rfl) ?_ _
        go_wp2_with fail
        go_roundw
        case rel =>
          refine ⟨j + 1, by omega, by go_num, ?_⟩
          rw [Hid, HNx.out, stp, if_pos (by simp)]
          exact ⟨_, H5.out, by rw [← HP1.out.2.1, ← HP1.out.1]; simp only [Ov.p, Ov.setA, HP1.out.2.2.2, HF.out]⟩
        case measure => simp [intOf]; omega

    · obtain rfl : j = n := by omega
      go_wp2_with fail
      go_returns
      refine ⟨rfl, ?_⟩
      have := ht.out
      rwa [List.take_of_length_le (by rw [HP.out.len]; omega)] at this
end Go.Proofs.YtbklpelikaapoaaGreatDoor

namespace Go.Proofs.YtbklpelikaapoaaGreatDoor
open Go.ChangeShapes Go.WideShapes Go.ChangeAt Go.RowKit Go.Deep
set_option linter.unusedVariables false
set_option linter.unusedSimpArgs false

def filE (k : Nat) (l : List Int) (er : Int) : Int := if er = 0 then (if zer k = true then zerE l else if txb k = true then 0 else if sumP (prt k) = l.length then 0 else 3) else er
def filP (k : Nat) (l : List Int) (er : Int) : Po := if er = 0 then (if zer k = true then ⟨k, [(l.length : Int)], zeros, []⟩ else if txb k = true then ⟨k, [], zeros, l⟩ else if sumP (prt k) = l.length then ⟨k, (stps l (prt k)).2.1, (stps l (prt k)).2.2, []⟩ else ⟨k, [], zeros, []⟩) else ⟨k, [], zeros, []⟩
def FilOk (base : Nat) (w wr : World) (p c g : Nat) (gv : Value) (a : Option Addr) (len cap : Nat) (l : List Int) (er : Int) (k : Nat) : Prop :=
  ∃ at2 er2 o2, RdAt base w wr p c g gv a len cap l at2 er2 o2 ∧ o2.p = filP k l er ∧ closeV (len - at2) er2 = filE k l er
theorem Vars.rd {B base : Nat} {w w0 w1 : World} (hV : Vars B w0) (h0 : Below base w w0) (h1 : Below base w w1) (hB : B ≤ base) (hs : base ≤ w1.heap.size) : Vars B w1 := by
  have hc : ∀ b o, b < B → w1.cell? ⟨b, o, none⟩ = w0.cell? ⟨b, o, none⟩ := fun b o hb => (h1.cell (p := ⟨b, o, none⟩) (Nat.lt_of_lt_of_le hb hB)).trans (h0.cell (p := ⟨b, o, none⟩) (Nat.lt_of_lt_of_le hb hB)).symm
  exact ⟨hV.pos, Nat.le_trans hB hs, fun k hk => (hc _ _ hV.pos).trans (hV.word k hk), fun k hk => by
    obtain ⟨a, n, cap, h1, h2⟩ := hV.parts k hk
    exact ⟨a, n, cap, (hc _ _ hV.pos).trans h1, h2.same hc⟩, fun k hk => (hc _ _ hV.pos).trans (hV.zeros k hk), fun k hk => (hc _ _ hV.pos).trans (hV.text k hk)⟩
theorem fill_was {B base : Nat} (k : Nat) (hk : k < 10) (w w0 : World) (p c g : Nat) (gv : Value) (a : Option Addr) (len cap : Nat) (l : List Int) (o : Ov) (er : Int) (h : RdAt base w w0 p c g gv a len cap l 0 er o) (hop : o.p = ⟨k, [], zeros, []⟩) (hV : Vars B w0) (hB : B ≤ base) (her : er ≠ 0) :
    Calls Tryz.prog 166 #[.pointer (some ⟨p, 0, none⟩), .pointer (some ⟨g, 0, none⟩)] w0 fun e w' => e = .returned (.tuple #[]) ∧ Hid (FilOk base w w' p c g gv a len cap l er k) := by
  have H := hid h
  have HV := hid hV
  have HO := hid hop
  have c0 : w0.cell? ⟨g, 0, none⟩ = some (.int .i64 k) := by rw [(h.row.cell 0).trans o.at0, show o.k = k from congrArg Po.k hop]
  have p0 := h.r.cell 0
  simp only [List.getElem?_toArray, List.getElem?_cons_zero] at p0
  have HLl : Hid (l.length = len) := h.cur.lies.1
  clear h hV hop

  have he : (er != 0) = true := by rw [bne_iff_ne]; exact her
  have HE : Hid (filE k l er = er) := by simp [Hid, filE, her]
  have HP : Hid (filP k l er = ⟨k, [], zeros, []⟩) := by simp [Hid, filP, her]
  have HC : Hid (closeV (len - 0) er = er) := by simp [Hid, closeV, her]
  have HER := hid her
  clear her
  go_enter Tryz.func166, Tryz.ntmps166
  go_wp2_with fail
  refine (err_any _ c er H.out.cur.cell2).mono ?_
  rintro e w1 ⟨rfl, rfl⟩
  go_wp2_with fail
  go_returns
  exact ⟨rfl, 0, er, o, H.out, by rw [HP.out, HO.out], by rw [HC.out, HE.out]⟩
theorem fill_zeros {B base : Nat} (k : Nat) (hk : k < 10) (w w0 : World) (p c g : Nat) (gv : Value) (a : Option Addr) (len cap : Nat) (l : List Int) (o : Ov) (h : RdAt base w w0 p c g gv a len cap l 0 0 o) (hop : o.p = ⟨k, [], zeros, []⟩) (hV : Vars B w0) (hB : B ≤ base) (hzk : zer k = true) :
    Calls Tryz.prog 166 #[.pointer (some ⟨p, 0, none⟩), .pointer (some ⟨g, 0, none⟩)] w0 fun e w' => e = .returned (.tuple #[]) ∧ Hid (FilOk base w w' p c g gv a len cap l 0 k) := by
  have H := hid h
  have HV := hid hV
  have HO := hid hop
  have c0 : w0.cell? ⟨g, 0, none⟩ = some (.int .i64 k) := by rw [(h.row.cell 0).trans o.at0, show o.k = k from congrArg Po.k hop]
  have p0 := h.r.cell 0
  simp only [List.getElem?_toArray, List.getElem?_cons_zero] at p0
  have HLl : Hid (l.length = len) := h.cur.lies.1
  clear h hV hop

  have HE : Hid (filE k l 0 = zerE l) := by simp [Hid, filE, hzk]
  have HP : Hid (filP k l 0 = ⟨k, [(len : Int)], zeros, []⟩) := by simp [Hid, filP, hzk, HLl.out]
  have z0 := (HV.out.zeros k hk)
  rw [hzk] at z0
  go_enter Tryz.func166, Tryz.ntmps166
  go_wp2_with fail
  refine (err_any _ c 0 H.out.cur.cell2).mono ?_
  rintro e w1 ⟨rfl, rfl⟩
  go_wp2_with fail
  refine (left_any _ c a len cap 0 l 0 H.out.cur).mono ?_
  rintro e w2 ⟨rfl, q, rfl⟩
  have HL : Hid ((len : Int) - ((0 : Nat) : Int) = len) := by rw [Hid]; omega
  rw [HL.out]
  have H1 := hid (H.out.drewN q)
  have H2 := hid (H1.out.on (balloc (Below.refl _ _) (.cells #[.int .i64 len] 3)))
  have O2 := hid (owns_lit (e := 3) (size := 1) (base := base) (w1.drewN q) #[.int .i64 len] 1 H1.out.size (by decide) (by simp))
  have H3 := hid (H2.out.setN _ _ [(len : Int)] O2.out)
  have f1 := H2.out.row.frozen 1
  have n1 := (H2.out.row.cell 1).trans o.at1
  have f1' : (w1.drewN q).frozen? ⟨g, 1, none⟩ = false := H1.out.row.frozen 1
  have H4 : Hid (RdAt base w (((w1.drewN q).alloc (.cells #[.int .i64 len] 3)).setCell ⟨g, 1, none⟩ (.slice (some ⟨w1.heap.size, 0, none⟩) 1 1)) p c g gv a len cap l 0 0 (o.setN ⟨some ⟨w1.heap.size, 0, none⟩, 1, 1, [(len : Int)]⟩)) := H3.out
  clear H2 O2 H3
  go_upto_region 4 with fail
  generalize (((w1.drewN q).alloc (.cells #[.int .i64 len] 3)).setCell ⟨g, 1, none⟩ (.slice (some ⟨w1.heap.size, 0, none⟩) 1 1)) = w5 at *
  have PP : Hid ((o.setN ⟨some ⟨w1.heap.size, 0, none⟩, 1, 1, [(len : Int)]⟩).p = ⟨k, [(len : Int)], zeros, []⟩) := by
    have := HO.out
    simp only [Ov.p, Po.mk.injEq] at this
    simp only [Hid, Ov.p, Ov.setN, this]
  generalize o.setN ⟨some ⟨w1.heap.size, 0, none⟩, 1, 1, [(len : Int)]⟩ = o5 at *
  go_wp2_with fail
  refine (skipZeros_any _ p c a len cap 0 l gv H4.out.r H4.out.cur).mono ?_
  rintro e w6 ⟨rfl, hc, hg⟩
  have H6 := hid (H4.out.read hc hg)
  clear hc hg
  go_wp2_with fail
  go_returns
  refine ⟨rfl, len, _, o5, H6.out, by rw [HP.out, PP.out], ?_⟩
  rw [HE.out, List.drop_zero, Nat.sub_self]
  unfold closeV zerE
  split <;> rfl

set_option maxRecDepth 100000 in
theorem fill_text {B base : Nat} (k : Nat) (hk : k < 10) (w w0 : World) (p c g : Nat) (gv : Value) (a : Option Addr) (len cap : Nat) (l : List Int) (o : Ov) (h : RdAt base w w0 p c g gv a len cap l 0 0 o) (hop : o.p = ⟨k, [], zeros, []⟩) (hV : Vars B w0) (hB : B ≤ base) (hzk : zer k = false) (htk : txb k = true) :
    Calls Tryz.prog 166 #[.pointer (some ⟨p, 0, none⟩), .pointer (some ⟨g, 0, none⟩)] w0 fun e w' => e = .returned (.tuple #[]) ∧ Hid (FilOk base w w' p c g gv a len cap l 0 k) := by
  have H := hid h
  have HV := hid hV
  have HO := hid hop
  have c0 : w0.cell? ⟨g, 0, none⟩ = some (.int .i64 k) := by rw [(h.row.cell 0).trans o.at0, show o.k = k from congrArg Po.k hop]
  have p0 := h.r.cell 0
  simp only [List.getElem?_toArray, List.getElem?_cons_zero] at p0
  have HLl : Hid (l.length = len) := h.cur.lies.1
  clear h hV hop

  have HE : Hid (filE k l 0 = 0) := by simp [Hid, filE, hzk, htk]
  have HP : Hid (filP k l 0 = ⟨k, [], zeros, l⟩) := by simp [Hid, filP, hzk, htk]
  have z0 := (HV.out.zeros k hk)
  rw [hzk] at z0
  have t0 := (HV.out.text k hk)
  rw [htk] at t0
  go_enter Tryz.func166, Tryz.ntmps166
  go_wp2_with fail
  refine (err_any _ c 0 H.out.cur.cell2).mono ?_
  rintro e w1 ⟨rfl, rfl⟩
  go_wp2_with fail
  refine wp_region_held_drew (S := fun w' => w'.cell? ⟨p, 0, none⟩ = some (.pointer (some ⟨c, 0, none⟩))) (by kernel_rfl) ?_ (fun hHeld => ?_)
  · exact H.out.r.cell 0
  refine wpAnyH_take (i := 0) (oi := _) (v := ?va0) rfl (by kernel_rfl) (by kernel_rfl) (by kernel_rfl) (fun _ _ _ h => h) (Or.inl ⟨by rfl, ?hya0⟩) (by assumption) ?resta0
  case hya0 => (intro w hSw; (try dsimp only at hSw); go_split_ands; go_simp; try (with_reducible rfl))
  try simp only [List.getElem_toArray, List.getElem_cons_zero, List.getElem_cons_succ, Act.put, List.setIfInBounds_toArray, List.set_cons_zero, List.set_cons_succ]
  refine wpAnyH_take (i := 1) (oi := _) (v := ?va1) rfl (by kernel_rfl) (by kernel_rfl) (by kernel_rfl) (fun _ _ _ h => h) (Or.inl ⟨by rfl, ?hya1⟩) (by assumption) ?resta1
  case hya1 => (intro w hSw; (try dsimp only at hSw); go_split_ands; go_simp; try (with_reducible rfl))
  try simp only [List.getElem_toArray, List.getElem_cons_zero, List.getElem_cons_succ, Act.put, List.setIfInBounds_toArray, List.set_cons_zero, List.set_cons_succ]
  refine wpAnyH_take (i := 2) (oi := _) (v := ?va2) rfl (by kernel_rfl) (by kernel_rfl) (by kernel_rfl) (fun _ _ _ h => h) (Or.inl ⟨by rfl, ?hya2⟩) (by assumption) ?resta2
  case hya2 => (intro w hSw; (try dsimp only at hSw); go_split_ands; go_simp; try (with_reducible rfl))
  try simp only [List.getElem_toArray, List.getElem_cons_zero, List.getElem_cons_succ, Act.put, List.setIfInBounds_toArray, List.set_cons_zero, List.set_cons_succ]
  refine wpAnyH_take (i := 3) (oi := _) (v := ?va3) rfl (by kernel_rfl) (by kernel_rfl) (by kernel_rfl) (fun _ _ _ h => h) (Or.inl ⟨by rfl, ?hya3⟩) (by assumption) ?resta3
  case hya3 => (intro w hSw; (try dsimp only at hSw); go_split_ands; go_simp; try (with_reducible rfl))
  try simp only [List.getElem_toArray, List.getElem_cons_zero, List.getElem_cons_succ, Act.put, List.setIfInBounds_toArray, List.set_cons_zero, List.set_cons_succ]
  refine wpAnyH_take (i := 4) (oi := _) (v := ?va4) rfl (by kernel_rfl) (by kernel_rfl) (by kernel_rfl) (fun _ _ _ h => h) (Or.inl ⟨by rfl, ?hya4⟩) (by assumption) ?resta4
  case hya4 => (intro w hSw; (try dsimp only at hSw); go_split_ands; go_simp; try (with_reducible rfl))
  try simp only [List.getElem_toArray, List.getElem_cons_zero, List.getElem_cons_succ, Act.put, List.setIfInBounds_toArray, List.set_cons_zero, List.set_cons_succ]
  refine wpAnyH_take (i := 5) (oi := _) (v := ?va5) rfl (by kernel_rfl) (by kernel_rfl) (by kernel_rfl) (fun _ _ _ h => h) (Or.inl ⟨by rfl, ?hya5⟩) (by assumption) ?resta5
  case hya5 => (intro w hSw; (try dsimp only at hSw); go_split_ands; go_simp; try (with_reducible rfl))
  try simp only [List.getElem_toArray, List.getElem_cons_zero, List.getElem_cons_succ, Act.put, List.setIfInBounds_toArray, List.set_cons_zero, List.set_cons_succ]
  refine wpAnyH_take (i := 6) (oi := _) (v := ?va6) rfl (by kernel_rfl) (by kernel_rfl) (by kernel_rfl) (fun _ _ _ h => h) (Or.inl ⟨by rfl, ?hya6⟩) (by assumption) ?resta6
  case hya6 => (intro w hSw; (try dsimp only at hSw); go_split_ands; go_simp; try (with_reducible rfl))
  try simp only [List.getElem_toArray, List.getElem_cons_zero, List.getElem_cons_succ, Act.put, List.setIfInBounds_toArray, List.set_cons_zero, List.set_cons_succ]
  refine wpAnyH_take (i := 7) (oi := _) (v := ?va7) rfl (by kernel_rfl) (by kernel_rfl) (by kernel_rfl) (fun _ _ _ h => h) (Or.inl ⟨by rfl, ?hya7⟩) (by assumption) ?resta7
  case hya7 => (intro w hSw; (try dsimp only at hSw); go_split_ands; go_simp; try (with_reducible rfl))
  try simp only [List.getElem_toArray, List.getElem_cons_zero, List.getElem_cons_succ, Act.put, List.setIfInBounds_toArray, List.set_cons_zero, List.set_cons_succ]
  refine wpAnyH_take (i := 8) (oi := _) (v := ?va8) rfl (by kernel_rfl) (by kernel_rfl) (by kernel_rfl) (fun _ _ _ h => h) (Or.inl ⟨by rfl, ?hya8⟩) (by assumption) ?resta8
  case hya8 => (intro w hSw; (try dsimp only at hSw); go_split_ands; go_simp; try (with_reducible rfl))
  try simp only [List.getElem_toArray, List.getElem_cons_zero, List.getElem_cons_succ, Act.put, List.setIfInBounds_toArray, List.set_cons_zero, List.set_cons_succ]
  refine wpAnyH_ready (rs := [9]) (by kernel_rfl) (by simp) ?_
  refine AllReadyH.cons (o := _) rfl (fun K hK => ?_) AllReadyH.nil
  go_simp
  refine (left_any _ c a len cap 0 l 0 (H.out.cur.drewN _)).mono ?_
  rintro e w2 ⟨rfl, q, rfl⟩
  go_wp2_with fail
  refine hK.out _ _ (H.out.r.cell 0) (fun hHeld => ?_)
  clear hK K
  try simp only [List.getElem_toArray, List.getElem_cons_zero, List.getElem_cons_succ, Act.put, List.setIfInBounds_toArray, List.set_cons_zero, List.set_cons_succ]
  refine wpAnyH_ready (rs := [10]) (by kernel_rfl) (by simp) ?_
  refine AllReadyH.cons (o := _) rfl (fun K hK => ?_) AllReadyH.nil
  go_simp
  refine (bytes_left _ c a len cap 0 l (H.out.cur.drewN _)).mono ?_
  rintro e w3 ⟨b, cp, rfl, hown, hl, hc, hg⟩
  have H3 := hid ((H.out.drewN _).read hc hg)
  have O3 : Hid (w3.ownsRow base 5 1 (.slice b l.length cp) l.length (u8s l)) := by
    rw [Hid, HLl.out]
    rw [List.drop_zero, Nat.sub_zero] at hown
    exact own_mono hown H.out.size
  clear hown hl hc hg
  rw [Nat.sub_zero]
  go_wp2_with fail
  refine hK.out _ _ (H3.out.r.cell 0) (fun hHeld => ?_)
  clear hK K
  try simp only [List.getElem_toArray, List.getElem_cons_zero, List.getElem_cons_succ, Act.put, List.setIfInBounds_toArray, List.set_cons_zero, List.set_cons_succ]
  refine wpAnyH_take (i := 11) (oi := _) (v := ?va11) rfl (by kernel_rfl) (by kernel_rfl) (by kernel_rfl) (fun _ _ _ h => h) (Or.inl ⟨by rfl, ?hya11⟩) (by assumption) ?resta11
  case hya11 => (intro w hSw; (try dsimp only at hSw); go_split_ands; go_simp; try (with_reducible rfl))
  try simp only [List.getElem_toArray, List.getElem_cons_zero, List.getElem_cons_succ, Act.put, List.setIfInBounds_toArray, List.set_cons_zero, List.set_cons_succ]
  refine wpAnyH_take (i := 12) (oi := _) (v := ?va12) rfl (by kernel_rfl) (by kernel_rfl) (by kernel_rfl) (fun _ _ _ h => h) (Or.inl ⟨by rfl, ?hya12⟩) (by assumption) ?resta12
  case hya12 => (intro w hSw; (try dsimp only at hSw); go_split_ands; go_simp; try (with_reducible rfl))
  try simp only [List.getElem_toArray, List.getElem_cons_zero, List.getElem_cons_succ, Act.put, List.setIfInBounds_toArray, List.set_cons_zero, List.set_cons_succ]
  have f1 := H3.out.row.frozen 18
  have n1 := (H3.out.row.cell 18).trans (Ov.at18 H3.out.own.ad)
  have H4 := hid (H3.out.setT b cp l O3.out H.out.cur.oct)
  rw [HLl.out] at H4
  refine wpAnyH_ready (rs := [13]) (by kernel_rfl) (by simp) ?_
  refine AllReadyH.cons (o := _) rfl (fun K hK => ?_) AllReadyH.nil
  go_simp
  go_wp2_with fail
  refine hK.out _ _ (H4.out.r.cell 0) (fun hHeld => ?_)
  clear hK K
  try simp only [List.getElem_toArray, List.getElem_cons_zero, List.getElem_cons_succ, Act.put, List.setIfInBounds_toArray, List.set_cons_zero, List.set_cons_succ]
  refine wpAnyH_done (by kernel_rfl) ?_ _
  go_wp2_with fail
  go_returns
  refine ⟨rfl, len, 0, _, H4.out, ?_, ?_⟩
  · rw [HP.out]
    have := HO.out
    simp only [Ov.p, Po.mk.injEq] at this
    simp only [Ov.p, Ov.setT, this]
  · rw [HE.out, Nat.sub_self]; rfl

set_option maxRecDepth 100000 in
theorem fill_short {B base : Nat} (k : Nat) (hk : k < 10) (w w0 : World) (p c g : Nat) (gv : Value) (a : Option Addr) (len cap : Nat) (l : List Int) (o : Ov) (h : RdAt base w w0 p c g gv a len cap l 0 0 o) (hop : o.p = ⟨k, [], zeros, []⟩) (hV : Vars B w0) (hB : B ≤ base) (hzk : zer k = false) (htk : txb k = false) (hsum : ¬ sumP (prt k) = len) :
    Calls Tryz.prog 166 #[.pointer (some ⟨p, 0, none⟩), .pointer (some ⟨g, 0, none⟩)] w0 fun e w' => e = .returned (.tuple #[]) ∧ Hid (FilOk base w w' p c g gv a len cap l 0 k) := by
  have H := hid h
  have HV := hid hV
  have HO := hid hop
  have c0 : w0.cell? ⟨g, 0, none⟩ = some (.int .i64 k) := by rw [(h.row.cell 0).trans o.at0, show o.k = k from congrArg Po.k hop]
  have p0 := h.r.cell 0
  simp only [List.getElem?_toArray, List.getElem?_cons_zero] at p0
  have HLl : Hid (l.length = len) := h.cur.lies.1
  clear h hV hop

  have HE : Hid (filE k l 0 = 3) := by simp [Hid, filE, hzk, htk, HLl.out, hsum]
  have HP : Hid (filP k l 0 = ⟨k, [], zeros, []⟩) := by simp [Hid, filP, hzk, htk, HLl.out, hsum]
  have hne : ((len : Int) != sumP (prt k)) = true := by rw [bne_iff_ne]; exact fun e => hsum e.symm
  clear hsum
  have z0 := (HV.out.zeros k hk)
  rw [hzk] at z0
  have t0 := (HV.out.text k hk)
  rw [htk] at t0
  have HK : Hid (o.k = k) := congrArg Po.k HO.out
  go_enter Tryz.func166, Tryz.ntmps166
  go_wp2_with fail
  refine (err_any _ c 0 H.out.cur.cell2).mono ?_
  rintro e w1 ⟨rfl, rfl⟩
  go_wp2_with fail
  refine wp_region_held_drew (S := fun w' => w'.cell? ⟨p, 0, none⟩ = some (.pointer (some ⟨c, 0, none⟩)) ∧ w'.cell? ⟨g, 0, none⟩ = some (.int .i64 k)) (by kernel_rfl) ?_ (fun hHeld => ?_)
  · exact ⟨H.out.r.cell 0, (H.out.row.cell 0).trans (by rw [o.at0, HK.out])⟩
  refine wpAnyH_take (i := 0) (oi := _) (v := ?va0) rfl (by kernel_rfl) (by kernel_rfl) (by kernel_rfl) (fun _ _ _ h => h) (Or.inl ⟨by rfl, ?hya0⟩) (by assumption) ?resta0
  case hya0 => (intro w hSw; (try dsimp only at hSw); go_split_ands; go_simp; try (with_reducible rfl))
  try simp only [List.getElem_toArray, List.getElem_cons_zero, List.getElem_cons_succ, Act.put, List.setIfInBounds_toArray, List.set_cons_zero, List.set_cons_succ]
  refine wpAnyH_take (i := 1) (oi := _) (v := ?va1) rfl (by kernel_rfl) (by kernel_rfl) (by kernel_rfl) (fun _ _ _ h => h) (Or.inl ⟨by rfl, ?hya1⟩) (by assumption) ?resta1
  case hya1 => (intro w hSw; (try dsimp only at hSw); go_split_ands; go_simp; try (with_reducible rfl))
  try simp only [List.getElem_toArray, List.getElem_cons_zero, List.getElem_cons_succ, Act.put, List.setIfInBounds_toArray, List.set_cons_zero, List.set_cons_succ]
  refine wpAnyH_take (i := 2) (oi := _) (v := ?va2) rfl (by kernel_rfl) (by kernel_rfl) (by kernel_rfl) (fun _ _ _ h => h) (Or.inl ⟨by rfl, ?hya2⟩) (by assumption) ?resta2
  case hya2 => (intro w hSw; (try dsimp only at hSw); go_split_ands; go_simp; try (with_reducible rfl))
  try simp only [List.getElem_toArray, List.getElem_cons_zero, List.getElem_cons_succ, Act.put, List.setIfInBounds_toArray, List.set_cons_zero, List.set_cons_succ]
  refine wpAnyH_take (i := 3) (oi := _) (v := ?va3) rfl (by kernel_rfl) (by kernel_rfl) (by kernel_rfl) (fun _ _ _ h => h) (Or.inl ⟨by rfl, ?hya3⟩) (by assumption) ?resta3
  case hya3 => (intro w hSw; (try dsimp only at hSw); go_split_ands; go_simp; try (with_reducible rfl))
  try simp only [List.getElem_toArray, List.getElem_cons_zero, List.getElem_cons_succ, Act.put, List.setIfInBounds_toArray, List.set_cons_zero, List.set_cons_succ]
  refine wpAnyH_take (i := 5) (oi := _) (v := ?va5) rfl (by kernel_rfl) (by kernel_rfl) (by kernel_rfl) (fun _ _ _ h => h) (Or.inl ⟨by rfl, ?hya5⟩) (by assumption) ?resta5
  case hya5 => (intro w hSw; (try dsimp only at hSw); go_split_ands; go_simp; try (with_reducible rfl))
  try simp only [List.getElem_toArray, List.getElem_cons_zero, List.getElem_cons_succ, Act.put, List.setIfInBounds_toArray, List.set_cons_zero, List.set_cons_succ]
  refine wpAnyH_take (i := 6) (oi := _) (v := ?va6) rfl (by kernel_rfl) (by kernel_rfl) (by kernel_rfl) (fun _ _ _ h => h) (Or.inl ⟨by rfl, ?hya6⟩) (by assumption) ?resta6
  case hya6 => (intro w hSw; (try dsimp only at hSw); go_split_ands; go_simp; try (with_reducible rfl))
  try simp only [List.getElem_toArray, List.getElem_cons_zero, List.getElem_cons_succ, Act.put, List.setIfInBounds_toArray, List.set_cons_zero, List.set_cons_succ]
  refine wpAnyH_take (i := 7) (oi := _) (v := ?va7) rfl (by kernel_rfl) (by kernel_rfl) (by kernel_rfl) (fun _ _ _ h => h) (Or.inl ⟨by rfl, ?hya7⟩) (by assumption) ?resta7
  case hya7 => (intro w hSw; (try dsimp only at hSw); go_split_ands; go_simp; try (with_reducible rfl))
  try simp only [List.getElem_toArray, List.getElem_cons_zero, List.getElem_cons_succ, Act.put, List.setIfInBounds_toArray, List.set_cons_zero, List.set_cons_succ]
  refine wpAnyH_take (i := 8) (oi := _) (v := ?va8) rfl (by kernel_rfl) (by kernel_rfl) (by kernel_rfl) (fun _ _ _ h => h) (Or.inl ⟨by rfl, ?hya8⟩) (by assumption) ?resta8
  case hya8 => (intro w hSw; (try dsimp only at hSw); go_split_ands; go_simp; try (with_reducible rfl))
  try simp only [List.getElem_toArray, List.getElem_cons_zero, List.getElem_cons_succ, Act.put, List.setIfInBounds_toArray, List.set_cons_zero, List.set_cons_succ]
  refine wpAnyH_ready (rs := [4]) (by kernel_rfl) (by simp) ?_
  refine AllReadyH.cons (o := _) rfl (fun K hK => ?_) AllReadyH.nil
  go_simp
  refine (left_any _ c a len cap 0 l 0 (H.out.cur.drewN _)).mono ?_
  rintro e w2 ⟨rfl, q, rfl⟩
  have HL : Hid ((len : Int) - ((0 : Nat) : Int) = len) := by rw [Hid]; omega
  rw [HL.out]
  go_wp2_with fail
  refine hK.out _ _ ⟨H.out.r.cell 0, (H.out.row.cell 0).trans (by rw [o.at0, HK.out])⟩ (fun hHeld => ?_)
  clear hK K
  try simp only [List.getElem_toArray, List.getElem_cons_zero, List.getElem_cons_succ, Act.put, List.setIfInBounds_toArray, List.set_cons_zero, List.set_cons_succ]
  refine wpAnyH_ready (rs := [9]) (by kernel_rfl) (by simp) ?_
  refine AllReadyH.cons (o := _) rfl (fun K hK => ?_) AllReadyH.nil
  go_simp
  refine (partsSize_any k hk _ (HV.out.drewN _)).mono ?_
  rintro e w3 ⟨rfl, hb⟩
  have H3 := hid ((H.out.drewN _).on hb)
  clear hb
  generalize hsm : sumP (prt k) = sm at *
  have HSm := hid hsm
  clear hsm
  go_wp2_with fail
  refine hK.out _ _ ⟨H3.out.r.cell 0, (H3.out.row.cell 0).trans (by rw [o.at0, HK.out])⟩ (fun hHeld => ?_)
  clear hK K
  try simp only [List.getElem_toArray, List.getElem_cons_zero, List.getElem_cons_succ, Act.put, List.setIfInBounds_toArray, List.set_cons_zero, List.set_cons_succ]
  refine wpAnyH_take (i := 10) (oi := _) (v := ?va10) rfl (by kernel_rfl) (by kernel_rfl) (by kernel_rfl) (fun _ _ _ h => h) (Or.inl ⟨by rfl, ?hya10⟩) (by assumption) ?resta10
  case hya10 => (intro w hSw; (try dsimp only at hSw); go_split_ands; go_simp; try (with_reducible rfl))
  try simp only [List.getElem_toArray, List.getElem_cons_zero, List.getElem_cons_succ, Act.put, List.setIfInBounds_toArray, List.set_cons_zero, List.set_cons_succ]
  refine wpAnyH_take (i := 11) (oi := _) (v := ?va11) rfl (by kernel_rfl) (by kernel_rfl) (by kernel_rfl) (fun _ _ _ h => h) (Or.inl ⟨by rfl, ?hya11⟩) (by assumption) ?resta11
  case hya11 => (intro w hSw; (try dsimp only at hSw); go_split_ands; go_simp; try (with_reducible rfl))
  try simp only [List.getElem_toArray, List.getElem_cons_zero, List.getElem_cons_succ, Act.put, List.setIfInBounds_toArray, List.set_cons_zero, List.set_cons_succ]
  refine wpAnyH_done (by kernel_rfl) ?_ _
  go_wp2_with fail
  refine (spoil_any _ c a len cap 0 l 0 3 H3.out.cur).mono ?_
  rintro e w4 ⟨rfl, hc, hg, hs⟩
  have H4 := hid (H3.out.read hc hg)
  clear hc hg hs
  go_wp2_with fail
  go_returns
  exact ⟨rfl, 0, _, o, H4.out, by rw [HP.out, HO.out], by rw [HE.out]; rfl⟩

set_option maxRecDepth 100000 in
theorem fill_parts {B base : Nat} (k : Nat) (hk : k < 10) (w w0 : World) (p c g : Nat) (gv : Value) (a : Option Addr) (len cap : Nat) (l : List Int) (o : Ov) (h : RdAt base w w0 p c g gv a len cap l 0 0 o) (hop : o.p = ⟨k, [], zeros, []⟩) (hV : Vars B w0) (hB : B ≤ base) (hzk : zer k = false) (htk : txb k = false) (hsum : sumP (prt k) = len) :
    Calls Tryz.prog 166 #[.pointer (some ⟨p, 0, none⟩), .pointer (some ⟨g, 0, none⟩)] w0 fun e w' => e = .returned (.tuple #[]) ∧ Hid (FilOk base w w' p c g gv a len cap l 0 k) := by
  have H := hid h
  have HV := hid hV
  have HO := hid hop
  have c0 : w0.cell? ⟨g, 0, none⟩ = some (.int .i64 k) := by rw [(h.row.cell 0).trans o.at0, show o.k = k from congrArg Po.k hop]
  have p0 := h.r.cell 0
  simp only [List.getElem?_toArray, List.getElem?_cons_zero] at p0
  have HLl : Hid (l.length = len) := h.cur.lies.1
  clear h hV hop

  have HE : Hid (filE k l 0 = 0) := by simp [Hid, filE, hzk, htk, HLl.out, hsum]
  have HP : Hid (filP k l 0 = ⟨k, (stps l (prt k)).2.1, (stps l (prt k)).2.2, []⟩) := by simp [Hid, filP, hzk, htk, HLl.out, hsum]
  have hne : ((len : Int) != sumP (prt k)) = false := by rw [hsum]; simp
  have HSum := hid hsum
  clear hsum
  have z0 := (HV.out.zeros k hk)
  rw [hzk] at z0
  have t0 := (HV.out.text k hk)
  rw [htk] at t0
  have HK : Hid (o.k = k) := congrArg Po.k HO.out
  go_enter Tryz.func166, Tryz.ntmps166
  go_wp2_with fail
  refine (err_any _ c 0 H.out.cur.cell2).mono ?_
  rintro e w1 ⟨rfl, rfl⟩
  go_wp2_with fail
  refine wp_region_held_drew (S := fun w' => w'.cell? ⟨p, 0, none⟩ = some (.pointer (some ⟨c, 0, none⟩)) ∧ w'.cell? ⟨g, 0, none⟩ = some (.int .i64 k)) (by kernel_rfl) ?_ (fun hHeld => ?_)
  · exact ⟨H.out.r.cell 0, (H.out.row.cell 0).trans (by rw [o.at0, HK.out])⟩
  refine wpAnyH_take (i := 0) (oi := _) (v := ?va0) rfl (by kernel_rfl) (by kernel_rfl) (by kernel_rfl) (fun _ _ _ h => h) (Or.inl ⟨by rfl, ?hya0⟩) (by assumption) ?resta0
  case hya0 => (intro w hSw; (try dsimp only at hSw); go_split_ands; go_simp; try (with_reducible rfl))
  try simp only [List.getElem_toArray, List.getElem_cons_zero, List.getElem_cons_succ, Act.put, List.setIfInBounds_toArray, List.set_cons_zero, List.set_cons_succ]
  refine wpAnyH_take (i := 1) (oi := _) (v := ?va1) rfl (by kernel_rfl) (by kernel_rfl) (by kernel_rfl) (fun _ _ _ h => h) (Or.inl ⟨by rfl, ?hya1⟩) (by assumption) ?resta1
  case hya1 => (intro w hSw; (try dsimp only at hSw); go_split_ands; go_simp; try (with_reducible rfl))
  try simp only [List.getElem_toArray, List.getElem_cons_zero, List.getElem_cons_succ, Act.put, List.setIfInBounds_toArray, List.set_cons_zero, List.set_cons_succ]
  refine wpAnyH_take (i := 2) (oi := _) (v := ?va2) rfl (by kernel_rfl) (by kernel_rfl) (by kernel_rfl) (fun _ _ _ h => h) (Or.inl ⟨by rfl, ?hya2⟩) (by assumption) ?resta2
  case hya2 => (intro w hSw; (try dsimp only at hSw); go_split_ands; go_simp; try (with_reducible rfl))
  try simp only [List.getElem_toArray, List.getElem_cons_zero, List.getElem_cons_succ, Act.put, List.setIfInBounds_toArray, List.set_cons_zero, List.set_cons_succ]
  refine wpAnyH_take (i := 3) (oi := _) (v := ?va3) rfl (by kernel_rfl) (by kernel_rfl) (by kernel_rfl) (fun _ _ _ h => h) (Or.inl ⟨by rfl, ?hya3⟩) (by assumption) ?resta3
  case hya3 => (intro w hSw; (try dsimp only at hSw); go_split_ands; go_simp; try (with_reducible rfl))
  try simp only [List.getElem_toArray, List.getElem_cons_zero, List.getElem_cons_succ, Act.put, List.setIfInBounds_toArray, List.set_cons_zero, List.set_cons_succ]
  refine wpAnyH_take (i := 5) (oi := _) (v := ?va5) rfl (by kernel_rfl) (by kernel_rfl) (by kernel_rfl) (fun _ _ _ h => h) (Or.inl ⟨by rfl, ?hya5⟩) (by assumption) ?resta5
  case hya5 => (intro w hSw; (try dsimp only at hSw); go_split_ands; go_simp; try (with_reducible rfl))
  try simp only [List.getElem_toArray, List.getElem_cons_zero, List.getElem_cons_succ, Act.put, List.setIfInBounds_toArray, List.set_cons_zero, List.set_cons_succ]
  refine wpAnyH_take (i := 6) (oi := _) (v := ?va6) rfl (by kernel_rfl) (by kernel_rfl) (by kernel_rfl) (fun _ _ _ h => h) (Or.inl ⟨by rfl, ?hya6⟩) (by assumption) ?resta6
  case hya6 => (intro w hSw; (try dsimp only at hSw); go_split_ands; go_simp; try (with_reducible rfl))
  try simp only [List.getElem_toArray, List.getElem_cons_zero, List.getElem_cons_succ, Act.put, List.setIfInBounds_toArray, List.set_cons_zero, List.set_cons_succ]
  refine wpAnyH_take (i := 7) (oi := _) (v := ?va7) rfl (by kernel_rfl) (by kernel_rfl) (by kernel_rfl) (fun _ _ _ h => h) (Or.inl ⟨by rfl, ?hya7⟩) (by assumption) ?resta7
  case hya7 => (intro w hSw; (try dsimp only at hSw); go_split_ands; go_simp; try (with_reducible rfl))
  try simp only [List.getElem_toArray, List.getElem_cons_zero, List.getElem_cons_succ, Act.put, List.setIfInBounds_toArray, List.set_cons_zero, List.set_cons_succ]
  refine wpAnyH_take (i := 8) (oi := _) (v := ?va8) rfl (by kernel_rfl) (by kernel_rfl) (by kernel_rfl) (fun _ _ _ h => h) (Or.inl ⟨by rfl, ?hya8⟩) (by assumption) ?resta8
  case hya8 => (intro w hSw; (try dsimp only at hSw); go_split_ands; go_simp; try (with_reducible rfl))
  try simp only [List.getElem_toArray, List.getElem_cons_zero, List.getElem_cons_succ, Act.put, List.setIfInBounds_toArray, List.set_cons_zero, List.set_cons_succ]
  refine wpAnyH_ready (rs := [4]) (by kernel_rfl) (by simp) ?_
  refine AllReadyH.cons (o := _) rfl (fun K hK => ?_) AllReadyH.nil
  go_simp
  refine (left_any _ c a len cap 0 l 0 (H.out.cur.drewN _)).mono ?_
  rintro e w2 ⟨rfl, q, rfl⟩
  have HL : Hid ((len : Int) - ((0 : Nat) : Int) = len) := by rw [Hid]; omega
  rw [HL.out]
  go_wp2_with fail
  refine hK.out _ _ ⟨H.out.r.cell 0, (H.out.row.cell 0).trans (by rw [o.at0, HK.out])⟩ (fun hHeld => ?_)
  clear hK K
  try simp only [List.getElem_toArray, List.getElem_cons_zero, List.getElem_cons_succ, Act.put, List.setIfInBounds_toArray, List.set_cons_zero, List.set_cons_succ]
  refine wpAnyH_ready (rs := [9]) (by kernel_rfl) (by simp) ?_
  refine AllReadyH.cons (o := _) rfl (fun K hK => ?_) AllReadyH.nil
  go_simp
  refine (partsSize_any k hk _ (HV.out.drewN _)).mono ?_
  rintro e w3 ⟨rfl, hb⟩
  have H3 := hid ((H.out.drewN _).on hb)
  clear hb
  generalize hsm : sumP (prt k) = sm at *
  have HSm := hid hsm
  clear hsm
  go_wp2_with fail
  refine hK.out _ _ ⟨H3.out.r.cell 0, (H3.out.row.cell 0).trans (by rw [o.at0, HK.out])⟩ (fun hHeld => ?_)
  clear hK K
  try simp only [List.getElem_toArray, List.getElem_cons_zero, List.getElem_cons_succ, Act.put, List.setIfInBounds_toArray, List.set_cons_zero, List.set_cons_succ]
  refine wpAnyH_take (i := 10) (oi := _) (v := ?va10) rfl (by kernel_rfl) (by kernel_rfl) (by kernel_rfl) (fun _ _ _ h => h) (Or.inl ⟨by rfl, ?hya10⟩) (by assumption) ?resta10
  case hya10 => (intro w hSw; (try dsimp only at hSw); go_split_ands; go_simp; try (with_reducible rfl))
  try simp only [List.getElem_toArray, List.getElem_cons_zero, List.getElem_cons_succ, Act.put, List.setIfInBounds_toArray, List.set_cons_zero, List.set_cons_succ]
  refine wpAnyH_take (i := 11) (oi := _) (v := ?va11) rfl (by kernel_rfl) (by kernel_rfl) (by kernel_rfl) (fun _ _ _ h => h) (Or.inl ⟨by rfl, ?hya11⟩) (by assumption) ?resta11
  case hya11 => (intro w hSw; (try dsimp only at hSw); go_split_ands; go_simp; try (with_reducible rfl))
  try simp only [List.getElem_toArray, List.getElem_cons_zero, List.getElem_cons_succ, Act.put, List.setIfInBounds_toArray, List.set_cons_zero, List.set_cons_succ]
  refine wpAnyH_done (by kernel_rfl) ?_ _
  go_wp2_with fail
  refine (takeParts_any k hk w _ p c g gv a len cap l o H3.out HO.out (HV.out.rd H.out.below H3.out.below hB H3.out.size) hB (HSm.out.trans HSum.out)).mono ?_
  rintro e w4 ⟨rfl, ht⟩
  go_wp2_with fail
  go_returns
  obtain ⟨o4, h4, hp4⟩ := ht.out
  refine ⟨rfl, _, 0, o4, h4, by rw [HP.out, hp4], ?_⟩
  have e1 := stps_at l (prt k) (prt_all k hk).1 (prt k).length (Nat.le_refl _)
  rw [List.take_of_length_le (Nat.le_refl _), HSm.out, HSum.out] at e1
  have e2 : (stps l (prt k)).1 = len := by omega
  rw [e2, HE.out, Nat.sub_self]; rfl

theorem fill_any {B base : Nat} (k : Nat) (hk : k < 10) (w w0 : World) (p c g : Nat) (gv : Value) (a : Option Addr) (len cap : Nat) (l : List Int) (o : Ov) (er : Int) (h : RdAt base w w0 p c g gv a len cap l 0 er o) (hop : o.p = ⟨k, [], zeros, []⟩) (hV : Vars B w0) (hB : B ≤ base) :
    Calls Tryz.prog 166 #[.pointer (some ⟨p, 0, none⟩), .pointer (some ⟨g, 0, none⟩)] w0 fun e w' => e = .returned (.tuple #[]) ∧ Hid (FilOk base w w' p c g gv a len cap l er k) := by
  by_cases her : er = 0
  · subst her
    cases hzk : zer k
    · cases htk : txb k
      · by_cases hs : sumP (prt k) = len
        · exact fill_parts k hk w w0 p c g gv a len cap l o h hop hV hB hzk htk hs
        · exact fill_short k hk w w0 p c g gv a len cap l o h hop hV hB hzk htk hs
      · exact fill_text k hk w w0 p c g gv a len cap l o h hop hV hB hzk htk
    · exact fill_zeros k hk w w0 p c g gv a len cap l o h hop hV hB hzk
  · exact fill_was k hk w w0 p c g gv a len cap l o er h hop hV hB her
end Go.Proofs.YtbklpelikaapoaaGreatDoor

namespace Go.Proofs.YtbklpelikaapoaaGreatDoor
open Go.ChangeShapes Go.WideShapes Go.ChangeAt Go.RowKit Go.Deep
set_option linter.unusedVariables false
set_option linter.unusedSimpArgs false

theorem ocs_snoc2 (L : List Ov) (o : Ov) : ocs (L ++ [o]) = ocs L ++ o.cs.toList := by simp [ocs]
end Go.Proofs.YtbklpelikaapoaaGreatDoor

namespace Go.Proofs.YtbklpelikaapoaaGreatDoor
open Go.ChangeShapes Go.WideShapes Go.ChangeAt Go.RowKit Go.Deep
set_option linter.unusedVariables false
set_option linter.unusedSimpArgs false

/-- The reader of Decode in memory. -/
structure NxAt (base : Nat) (w wr : World) (p c : Nat) (a : Option Addr) (len cap : Nat) (l : List Int) (at_ : Nat) (er : Int) (gv : Value) (L : List Ov) : Prop where
  r : Row wr p 243 #[.pointer (some ⟨c, 0, none⟩), gv]
  cur : CurAt wr c a len cap l at_ er
  win : wr.ownsRow base 5 1 (.slice a len cap) len (u8s l)
  got : wr.ownsRow base 140 19 gv L.length (ocs L)
  own : ∀ o ∈ L, Own2 base wr o
  below : Below base w wr
  hc : base ≤ c
  hp : base ≤ p
section
variable {base : Nat} {w wr w' : World} {p c : Nat} {a : Option Addr} {len cap : Nat} {l : List Int} {at_ : Nat} {er : Int} {gv : Value} {L : List Ov}
theorem NxAt.size (h : NxAt base w wr p c a len cap l at_ er gv L) : base ≤ wr.heap.size := Nat.le_of_lt (Nat.lt_of_le_of_lt h.hc h.cur.lt)
theorem NxAt.read (h : NxAt base w wr p c a len cap l at_ er gv L) {at2 : Nat} {er2 : Int} (hc : CurAt w' c a len cap l at2 er2) (hg : wr.grownBy w' (some c)) : NxAt base w w' p c a len cap l at2 er2 gv L :=
  ⟨h.r.kept hg (fun e => h.r.ne h.cur.row (by decide) (Option.some.inj e)), hc, h.win.kept hg (.inr (own_row h.win h.cur.row (by decide))), h.got.kept hg (.inr (own_row h.got h.cur.row (by decide))), fun o ho => (h.own o ho).row h.cur.row (by decide) (by decide) hg,
    Below.grown h.below hg h.size (fun k hk => by cases hk; exact h.hc), h.hc, h.hp⟩
theorem NxAt.on (h : NxAt base w wr p c a len cap l at_ er gv L) (hb : Below wr.heap.size wr w') : NxAt base w w' p c a len cap l at_ er gv L :=
  h.read (h.cur.below hb) ⟨hb.os, hb.tape, hb.output, hb.size, fun k hk _ => hb.block k hk⟩
theorem NxAt.drewN (h : NxAt base w wr p c a len cap l at_ er gv L) (q : Nat) : NxAt base w (wr.drewN q) p c a len cap l at_ er gv L := h.on (bdrew (Below.refl _ _) q)
/-- An option more is appended (world w'), and the list laid in. -/
theorem NxAt.app (h : NxAt base w wr p c a len cap l at_ er gv L) (hg : wr.grownBy w' gv.ownBlock) : Row w' p 243 #[.pointer (some ⟨c, 0, none⟩), gv] ∧ CurAt w' c a len cap l at_ er ∧ w'.ownsRow base 5 1 (.slice a len cap) len (u8s l) ∧ (∀ o ∈ L, Own2 base w' o) ∧ Below base w w' := by
  have hw := own_apart h.win h.got (by decide)
  refine ⟨h.r.kept hg (fun e => own_row h.got h.r (by decide) e.symm), h.cur.other (fun e => own_row h.got h.cur.row (by decide) e.symm) ?_ hg, h.win.kept hg hw, fun o ho => (h.own o ho).kept h.got (by decide) (by decide) hg, Below.grown h.below hg h.size (fun k hk => (h.got.lt k hk).1)⟩
  intro ad e
  rcases hw with hw | hw
  · rw [e] at hw; simp [Value.ownBlock] at hw
  · rw [e] at hw; exact hw
theorem NxAt.push (h : NxAt base w wr p c a len cap l at_ er gv L) (hg : wr.grownBy w' gv.ownBlock) (o : Ov) (ho : Own2 base wr o) (gv2 : Value) (hn : w'.ownsRow base 140 19 gv2 (L.length + 1) (ocs L ++ o.cs.toList)) :
    NxAt base w (w'.setCell ⟨p, 1, none⟩ gv2) p c a len cap l at_ er gv2 (L ++ [o]) := by
  obtain ⟨h1, h2, h3, h4, h5⟩ := h.app hg
  have hs := grownBy_setCell w' p 1 gv2
  have ho2 := ho.kept h.got (by decide) (by decide) hg
  have hown : ∀ x, Own2 base w' x → Own2 base (w'.setCell ⟨p, 1, none⟩ gv2) x := fun x hx => hx.row h1 (by decide) (by decide) hs
  refine ⟨h1.set 1 gv2, h2.other (fun e => h2.row.ne h1 (by decide) (Option.some.inj e)) (fun ad e => by have := own_row h3 h1 (by decide); rw [e] at this; exact this) hs, h3.kept hs (.inr (own_row h3 h1 (by decide))), ?_, ?_,
    Below.grown h5 hs (Nat.le_of_lt (Nat.lt_of_le_of_lt h.hp h1.lt)) (fun k hk => by cases hk; exact h.hp), h.hc, h.hp⟩
  · have := hn.kept hs (.inr (own_row hn h1 (by decide)))
    rw [List.length_append, ocs_snoc2]
    exact this
  · intro x hx
    rcases List.mem_append.1 hx with hx | hx
    · exact hown x (h4 x hx)
    · rw [List.mem_singleton.1 hx]; exact hown o ho2
end
/-- What is wrong behind one option more, what it is, and how many bytes it has. -/
def nxK (m : List Int) : Int := numOf (m.take 1)
def nxL (m : List Int) : Int := takeV 1 m 1 m.length 0
def nxE1 (m : List Int) : Int := rdE 1 1 (m.length - 1) 0
def nxE2 (m : List Int) : Int := rdE 1 (nxL m) (m.length - (1 + rdN 1 1 (m.length - 1) 0)) (nxE1 m)
def nxN2 (m : List Int) : Nat := rdN 1 (nxL m) (m.length - (1 + rdN 1 1 (m.length - 1) 0)) (nxE1 m)
def nxC (m : List Int) : List Int := (m.drop (1 + rdN 1 1 (m.length - 1) 0)).take (nxN2 m)
def nxP (m : List Int) : Po := if nxK m = 0 then ⟨0, [], zeros, []⟩ else filP (nxK m).toNat (nxC m) (nxE2 m)
def nxE (n : Nat) (m : List Int) : Int :=
  if n = 16 then 2 else if kndB (nxK m) = false then 6 else if nxK m = 0 then chkP (nxP m) else spE (spE (nxE2 m) (filE (nxK m).toNat (nxC m) (nxE2 m))) (chkP (nxP m))
def nxN (m : List Int) : Nat := if nxK m = 0 then 1 else 1 + rdN 1 1 (m.length - 1) 0 + nxN2 m
def NxOk (base : Nat) (w w' : World) (p c : Nat) (a : Option Addr) (len cap : Nat) (l : List Int) (at_ : Nat) (L : List Ov) : Prop :=
  ∃ at2 er2 gv2 L2, NxAt base w w' p c a len cap l at2 er2 gv2 L2 ∧ er2 = nxE L.length (l.drop at_) ∧ L2.length ≤ 16 ∧ (er2 = 0 → pos L2 = pos L ++ [nxP (l.drop at_)] ∧ at2 = at_ + nxN (l.drop at_))
end Go.Proofs.YtbklpelikaapoaaGreatDoor
