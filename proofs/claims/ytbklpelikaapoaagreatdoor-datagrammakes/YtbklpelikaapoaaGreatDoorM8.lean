/- The reader in memory; what it reads of a part. · Reading: next. · Reading: next, no kind. · Reading: next, a pad. · Reading: next, what its inner reader is. · Reading: next, an option that is no pad. -/
import Derived.Test.YtbklpelikaapoaaGreatDoorM6
import Derived.Test.YtbklpelikaapoaaGreatDoorM3
import Derived.Test.YtbklpelikaapoaaGreatDoorM7
namespace Go.Proofs.YtbklpelikaapoaaGreatDoor
open Go.ChangeShapes Go.WideShapes Go.ChangeAt Go.RowKit Go.Deep
set_option linter.unusedVariables false
set_option linter.unusedSimpArgs false

/-- Where the reader stands: the cursor and its bytes, in memory of the call's own. -/
structure DAt (W w : World) (c : Nat) (a : Option Addr) (len cap : Nat) (l : List Int) (at_ : Nat) (er : Int) : Prop where
  cur : CurAt w c a len cap l at_ er
  own : w.ownsRow W.heap.size 5 1 (.slice a len cap) len (u8s l)
  below : Below W.heap.size W w
  lo : W.heap.size ≤ c
theorem lies_own {w : World} {b : Nat} {a : Option Addr} {len cap : Nat} {l : List Int} (hl : l.length = len) (h : w.ownsRow b 5 1 (.slice a len cap) len (u8s l)) : Lies .u8 w a len cap l := by
  subst hl
  obtain ⟨a', cap', e, hL, _⟩ := owns_lies h
  injection e with e1 e2 e3
  rw [e1, e3]; exact hL
section
variable {W w w' : World} {c : Nat} {a : Option Addr} {len cap : Nat} {l : List Int} {at_ : Nat} {er : Int}
theorem DAt.crow (h : DAt W w c a len cap l at_ er) : Row w c 172 #[.slice a len cap, .int .i64 at_, .int .i64 er] := h.cur.block
theorem DAt.on (h : DAt W w c a len cap l at_ er) (hb : Below w.heap.size w w') : DAt W w' c a len cap l at_ er := ⟨h.cur.below hb, own_below h.own hb, bthen h.below hb, h.lo⟩
theorem DAt.step {at2 : Nat} {er2 : Int} (h : DAt W w c a len cap l at_ er) (hc : CurAt w' c a len cap l at2 er2) (hg : w.grownBy w' (some c)) : DAt W w' c a len cap l at2 er2 :=
  ⟨hc, h.own.kept hg (.inr (own_row h.own h.crow (by decide))), bgrown h.below hg h.lo, h.lo⟩
theorem DAt.other {g : Nat} {t : TypeId} {x : Array Value} (h : DAt W w c a len cap l at_ er) (hr : Row w g t x) (ht : 5 ≠ t) (hne : c ≠ g) (hlo : W.heap.size ≤ g) (hg : w.grownBy w' (some g)) : DAt W w' c a len cap l at_ er := by
  have ho := h.own.kept hg (.inr (own_row h.own hr ht))
  exact ⟨⟨(hg.block c h.cur.lt (fun e => hne (Option.some.inj e))).trans h.cur.block, lies_own h.cur.lies.1 ho, h.cur.oct, h.cur.le, h.cur.small⟩, ho, bgrown h.below hg hlo, h.lo⟩
end
/-- The reader, and values beside it. -/
structure PAt (W w : World) (c : Nat) (a : Option Addr) (len cap : Nat) (l : List Int) (at_ : Nat) (er : Int) (g3 : Nat) (v : List Int) : Prop where
  d : DAt W w c a len cap l at_ er
  r3 : Row w g3 103 (nArr v)
  len11 : v.length = 11
  ne : c ≠ g3
  lo : W.heap.size ≤ g3
section
variable {W w w' : World} {c : Nat} {a : Option Addr} {len cap : Nat} {l : List Int} {at_ : Nat} {er : Int} {g3 : Nat} {v : List Int}
theorem PAt.on (h : PAt W w c a len cap l at_ er g3 v) (hb : Below w.heap.size w w') : PAt W w' c a len cap l at_ er g3 v := ⟨h.d.on hb, h.r3.below hb, h.len11, h.ne, h.lo⟩
theorem PAt.step {at2 : Nat} {er2 : Int} (h : PAt W w c a len cap l at_ er g3 v) (hc : CurAt w' c a len cap l at2 er2) (hg : w.grownBy w' (some c)) : PAt W w' c a len cap l at2 er2 g3 v :=
  ⟨h.d.step hc hg, h.r3.kept hg (fun e => h.ne (Option.some.inj e).symm), h.len11, h.ne, h.lo⟩
theorem PAt.set (h : PAt W w c a len cap l at_ er g3 v) (j : Nat) (x : Int) : PAt W (w.setCell ⟨g3, j, none⟩ (.int .i64 x)) c a len cap l at_ er g3 (v.set j x) :=
  ⟨h.d.other h.r3 (by decide) h.ne h.lo (grownBy_setCell ..), by have := h.r3.set j (.int .i64 x); rwa [nArr_set] at this, by rw [List.length_set]; exact h.len11, h.ne, h.lo⟩
theorem PAt.cell (h : PAt W w c a len cap l at_ er g3 v) (j : Nat) (hj : j < 11) : w.cell? ⟨g3, j, none⟩ = some (.int .i64 (v.getD j 0)) := (h.r3.cell j).trans (nArr_at v j (by rw [h.len11]; exact hj))
end
theorem spoil_spE (w : World) (c : Nat) (a : Option Addr) (len cap at_ : Nat) (l : List Int) (er e : Int) (h : CurAt w c a len cap l at_ er) :
    Calls Tryz.prog 132 #[.pointer (some ⟨c, 0, none⟩), .int .i64 e] w fun x w' => x = .returned (.tuple #[]) ∧ CurAt w' c a len cap l at_ (spE er e) ∧ w.grownBy w' (some c) ∧ w'.heap.size = w.heap.size := by
  by_cases he : er = 0
  · subst he
    refine (spoil_now w c a len cap at_ l e h).mono ?_
    rintro x w' ⟨rfl, hc, hg, hs⟩
    exact ⟨rfl, by rw [spE, if_pos rfl]; exact hc, hg, hs⟩
  · refine (spoil_was w c er e h.cell2 he).mono ?_
    rintro x w' ⟨rfl, rfl⟩
    exact ⟨rfl, by rw [spE, if_neg he]; exact h, World.grownBy.refl _ _, rfl⟩
/-- All blocks but two stay. -/
def Oth (c g : Nat) (w w' : World) : Prop := w.heap.size ≤ w'.heap.size ∧ ∀ k, k < w.heap.size → k ≠ c → k ≠ g → w'.heap[k]? = w.heap[k]?
theorem Oth.refl (c g : Nat) (w : World) : Oth c g w w := ⟨Nat.le_refl _, fun _ _ _ _ => rfl⟩
theorem Oth.trans {c g : Nat} {w w1 w2 : World} (h : Oth c g w w1) (k : Oth c g w1 w2) : Oth c g w w2 := ⟨Nat.le_trans h.1 k.1, fun j hj h1 h2 => (k.2 j (Nat.lt_of_lt_of_le hj h.1) h1 h2).trans (h.2 j hj h1 h2)⟩
theorem Oth.below {c g : Nat} {w w' : World} (hb : Below w.heap.size w w') : Oth c g w w' := ⟨hb.size, fun k hk _ _ => hb.block k hk⟩
theorem Oth.grown {c g d : Nat} {w w' : World} (hg : w.grownBy w' (some d)) (hd : d = c ∨ d = g) : Oth c g w w' := ⟨hg.size, fun k hk h1 h2 => hg.block k hk (fun e => by have := Option.some.inj e; omega)⟩
theorem Oth.row {c g k : Nat} {w w' : World} {t : TypeId} {x : Array Value} (h : Oth c g w w') (hr : Row w k t x) (h1 : k ≠ c) (h2 : k ≠ g) : Row w' k t x := (h.2 k hr.lt h1 h2).trans hr
theorem Oth.new {c g d : Nat} {w w1 w2 : World} (h : Oth c g w w1) (hg : w1.grownBy w2 (some d)) (hd : w.heap.size ≤ d) : Oth c g w w2 := ⟨Nat.le_trans h.1 hg.size, fun k hk h1 h2 => (hg.block k (Nat.lt_of_lt_of_le hk h.1) (fun e => by have := Option.some.inj e; omega)).trans (h.2 k hk h1 h2)⟩
/-- What a part reads. -/
def ptN (p : Pa) (l : List Int) (at_ len : Nat) (er : Int) : Int := takeV p.z l at_ len er
def ptA (p : Pa) (at_ len : Nat) (er : Int) : Nat := at_ + rdN p.z 1 (len - at_) er
def ptS (p : Pa) (l : List Int) (at_ len : Nat) (er : Int) (v : List Int) : Int × List Int := rdFs p.f (ptN p l at_ len er, v)
def ptE (p : Pa) (l : List Int) (at_ len : Nat) (er : Int) (v : List Int) : Int := if (ptS p l at_ len er v).1 = 0 then rdE p.z 1 (len - at_) er else spE (rdE p.z 1 (len - at_) er) 3
theorem takeV_bd {w : World} {c : Nat} {a : Option Addr} {len cap : Nat} {l : List Int} {at_ : Nat} {er : Int} (h : CurAt w c a len cap l at_ er) (z : Nat) (hz : z = 1 ∨ z = 2) : 0 ≤ takeV z l at_ len er ∧ takeV z l at_ len er < 65536 ∧ (z = 1 → takeV z l at_ len er < 256) := by
  have ho : Oct ((l.drop at_).take (rdN z 1 (len - at_) er)) := h.oct.cut _ _
  have hb := numOf_bd _ ho _ (Nat.le_refl _)
  rw [List.take_of_length_le (Nat.le_refl _)] at hb
  have hle : ((l.drop at_).take (rdN z 1 (len - at_) er)).length ≤ z := by
    rw [List.length_take]
    have : rdN z 1 (len - at_) er ≤ z := by
      unfold rdN
      split
      · rcases hz with rfl | rfl <;> simp
      · omega
    omega
  unfold takeV
  generalize (l.drop at_).take (rdN z 1 (len - at_) er) = ml at *
  have h3 : ml.length = 0 ∨ ml.length = 1 ∨ ml.length = 2 := by omega
  rcases h3 with e | e | e
  · rw [e] at hb; refine ⟨hb.1, by omega, fun _ => by omega⟩
  · rw [e] at hb
    have : (256 : Int) ^ 1 = 256 := by decide
    refine ⟨hb.1, by omega, fun _ => by omega⟩
  · rw [e] at hb
    have : (256 : Int) ^ 2 = 65536 := by decide
    refine ⟨hb.1, by omega, fun h1 => by omega⟩
set_option maxRecDepth 100000 in
set_option maxHeartbeats 3200000 in
theorem part_any {B : Nat} (W w : World) (c : Nat) (a : Option Addr) (len cap : Nat) (l : List Int) (at_ : Nat) (er : Int) (g3 : Nat) (v : List Int) (p : Pa) (fa : Option Addr) (fn fc : Nat) (h : PAt W w c a len cap l at_ er g3 v) (hF : FLies B W fa fn fc p.f) (hB : B ≤ W.heap.size)
    (hz : p.z = 1 ∨ p.z = 2) (hok : ∀ f ∈ p.f, FOk f) (hp : ∀ j, j < p.f.length → (p.f.getD j Fl.none).p < 11 ∧ (p.f.getD j Fl.none).s < 8 ∧ (p.f.getD j Fl.none).l < 65536) (hn3 : p.f.length ≤ 3) :
    Calls Tryz.prog 145 #[.agg #[.pointer (some ⟨c, 0, none⟩)], .agg #[.int .i64 p.z, .slice fa fn fc], .pointer (some ⟨g3, 0, none⟩)] w fun x w' => x = .returned (.tuple #[]) ∧ Hid (PAt W w' c a len cap l (ptA p at_ len er) (ptE p l at_ len er v) g3 (ptS p l at_ len er v).2) ∧ Hid (Oth c g3 w w') := by
  have H := hid h
  have HF := hid hF
  have hBB := hid hB
  have HOk := hid hok
  have HP := hid hp
  have HFL := hid hF.len
  have hfn : fn ≤ 3 := by rw [← hF.len]; exact hn3
  have hbd := takeV_bd h.d.cur p.z hz
  have HBd := hid hbd
  have HN0 : Hid (ptN p l at_ len er = takeV p.z l at_ len er) := rfl
  have R1 := hid ((Row.new w 213 #[.pointer (some ⟨c, 0, none⟩)]).alloc (.cells #[.int .i64 p.z, .slice fa fn fc] 200))
  have R2 := hid (Row.new (w.alloc (.cells #[.pointer (some ⟨c, 0, none⟩)] 213)) 200 #[.int .i64 p.z, .slice fa fn fc])
  have B0 := hid (balloc (balloc (Below.refl w.heap.size w) (.cells #[.pointer (some ⟨c, 0, none⟩)] 213)) (.cells #[.int .i64 p.z, .slice fa fn fc] 200))
  have H1 := hid (h.on B0.out)
  have T1 : Hid (Oth c g3 w _) := hid (Oth.below B0.out)
  have hcl : c < w.heap.size := h.d.cur.lt
  have h3l : g3 < w.heap.size := h.r3.lt
  have hs1 : (w.alloc (.cells #[.pointer (some ⟨c, 0, none⟩)] 213)).heap.size = w.heap.size + 1 := World.size_alloc ..
  rw [hs1] at R2
  clear h hF hB hok hp hz hbd hn3
  go_enter Tryz.func145, Tryz.ntmps145
  go_upto_region 1 with fail
  generalize (w.alloc (.cells #[.pointer (some ⟨c, 0, none⟩)] 213)).alloc (.cells #[.int .i64 p.z, .slice fa fn fc] 200) = w1 at *
  generalize hg1 : w.heap.size = g1 at *
  clear hs1 hg1 B0 H
  have r0 := (R1.out.cell 0).trans rfl
  have q0 := (R2.out.cell 0).trans rfl
  go_wp2_with fail
  refine (take_any _ c a len cap at_ l er p.z H1.out.d.cur).mono ?_
  rintro e w2 ⟨rfl, hc2, hg2, hs2⟩
  have H2 := hid (H1.out.step hc2 hg2)
  have T2 := hid (T1.out.trans (Oth.grown hg2 (.inl rfl)))
  have S1 := hid (R1.out.kept hg2 (fun e => by have := Option.some.inj e; omega))
  have S2 := hid (R2.out.kept hg2 (fun e => by have := Option.some.inj e; omega))
  clear hc2 hg2 hs2 r0 q0 R1 R2 H1
  have q1 := (S2.out.cell 1).trans rfl
  rw [← HN0.out] at HBd
  generalize hn0 : ptN p l at_ len er = n0 at *
  rw [← HN0.out]
  generalize hA : at_ + rdN p.z 1 (len - at_) er = at1 at *
  generalize hE : rdE p.z 1 (len - at_) er = er1 at *
  have HA1 : Hid (ptA p at_ len er = at1) := hA
  have HE1 : Hid (ptE p l at_ len er v = if (rdFs p.f (n0, v)).1 = 0 then er1 else spE er1 3) := by rw [Hid, ptE, ptS, hn0, hE]
  have HS1 : Hid (ptS p l at_ len er v = rdFs p.f (n0, v)) := by rw [Hid, ptS, hn0]
  have HV : Hid (v.length = 11) := H2.out.len11
  clear hn0 hA hE
  go_wp2_with fail
  go_loopw [6, 17] (fun nv iv wr => ∃ q : Nat, q ≤ fn ∧ iv = .int .i64 q ∧ nv = .int .i64 (rdFs (p.f.take q) (n0, v)).1 ∧ Hid (PAt W wr c a len cap l at1 er1 g3 (rdFs (p.f.take q) (n0, v)).2) ∧ Hid (Row wr g1 213 #[.pointer (some ⟨c, 0, none⟩)]) ∧ Hid (Oth c g3 w wr)) (fun _ iv _ => fn - (intOf iv).toNat)
  case atStart => exact ⟨0, Nat.zero_le _, rfl, rfl, H2.out, S1.out, T2.out⟩
  case round =>
    obtain ⟨q, hq, rfl, rfl, HPt, HR, HT⟩ := hrel
    clear q1
    by_cases hqt : q < fn
    · have hqt' : (q : Int) < (fn : Int) := by omega
      obtain ⟨b2, off2, hfa, hb2, e0, e1, e2⟩ := (HF.out.same (cells_below HPt.out.d.below hBB.out)).cell q hqt
      have hqf : q < p.f.length := by rw [HFL.out]; exact hqt
      have hb3 := (HP.out q hqf).1
      have hb4 := (HP.out q hqf).2.1
      have hb5 := (HP.out q hqf).2.2
      have hfo := HOk.out (p.f.getD q Fl.none) (by simp [hqf])
      have HS2 := hid (rdFs_succ p.f (n0, v) q hqf)
      have hbs := rdFs_bd (p.f.take q) (fun f hf => HOk.out f (List.mem_of_mem_take hf)) (n0, v) HBd.out.1 HBd.out.2.1
      generalize p.f.getD q Fl.none = f at *
      generalize rdFs (p.f.take q) (n0, v) = s at *
      obtain ⟨n, u⟩ := s
      have eand := fval_and n f hfo hbs.1 hbs.2.1
      have hleft := fleft_bd n f hfo hbs.1 hbs.2.1
      have hval := fval_bd n f
      have hu : u.length = 11 := hbs.2.2.trans HV.out
      obtain ⟨fp, fs, fl⟩ := f
      simp only at e0 e1 e2 hb3 hb4 hb5 HS2 eand hleft hval
      have hn1 := hbs.1
      have hn2 := hbs.2.1
      simp only at hn1 hn2
      obtain ⟨hl1, hl2, enot⟩ := hleft
      have hl63 : (fl : Int) < 65536 := by omega
      have hp11' : (fp : Int) < 11 := by omega
      have hs8 : (fs : Int) < 8 := by omega
      generalize fval n ⟨fp, fs, fl⟩ = xv at *
      generalize fleft n ⟨fp, fs, fl⟩ = yv at *
      subst hfa
      clear hfo hbs hqf hb5
      have BF := hid (balloc (Below.refl wr.heap.size wr) (.cells #[.int .i64 fp, .int .i64 fs, .int .i64 fl] 202))
      have RF := hid (Row.new wr 202 #[.int .i64 fp, .int .i64 fs, .int .i64 fl])
      have H3 := hid (HPt.out.on BF.out)
      have S3 := hid (HR.out.below BF.out)
      have T3 := hid (HT.out.trans (Oth.below BF.out))
      have g5l : g3 < wr.heap.size := HPt.out.r3.lt
      go_upto_region 5 with fail
      generalize wr.alloc (.cells #[.int .i64 fp, .int .i64 fs, .int .i64 fl] 202) = w5 at *
      generalize wr.heap.size = g5 at *
      clear e0 e1 e2 BF HPt HR HT
      have d0 := (RF.out.cell 0).trans rfl
      have d1 := (RF.out.cell 1).trans rfl
      have d2 := (RF.out.cell 2).trans rfl
      have d3 := H3.out.cell fp hb3
      have f3 := H3.out.r3.frozen fp
      go_region
      have H4 := hid (H3.out.set fp xv)
      have S4 := hid (S3.out.other ⟨g3, fp, none⟩ (.int .i64 xv) (by simp; omega))
      have T4 := hid (T3.out.trans (Oth.grown (grownBy_setCell w5 g3 fp (.int .i64 xv)) (.inr rfl)))
      have RF4 := hid (RF.out.other ⟨g3, fp, none⟩ (.int .i64 xv) (by simp; omega))
      have H5 : Hid (PAt W (w5.setCell ⟨g3, fp, none⟩ (.int .i64 xv)).drew c a len cap l at1 er1 g3 (u.set fp xv)) := hid (H4.out.on (bdrew (Below.refl _ _) 1))
      have S5 : Hid (Row (w5.setCell ⟨g3, fp, none⟩ (.int .i64 xv)).drew g1 213 #[.pointer (some ⟨c, 0, none⟩)]) := S4
      have T5 : Hid (Oth c g3 w (w5.setCell ⟨g3, fp, none⟩ (.int .i64 xv)).drew) := hid (T4.out.trans (Oth.below (bdrew (Below.refl _ _) 1)))
      have RF5 : Hid (Row (w5.setCell ⟨g3, fp, none⟩ (.int .i64 xv)).drew g5 202 #[.int .i64 fp, .int .i64 fs, .int .i64 fl]) := RF4
      generalize (w5.setCell ⟨g3, fp, none⟩ (.int .i64 xv)).drew = w6 at *
      clear d0 d1 d2 d3 f3 H3 S3 T3 RF H4 S4 T4 RF4
      have d1 := (RF5.out.cell 1).trans rfl
      have d2 := (RF5.out.cell 2).trans rfl
      go_wp2_with fail
      go_roundw
      case rel => exact ⟨q + 1, by omega, by go_num, by rw [HS2.out], by rw [Hid, HS2.out]; exact H5.out, S5.out, T5.out⟩
      case measure => simp [intOf]; omega
    · obtain rfl : q = fn := by omega
      have hbs := rdFs_bd p.f HOk.out (n0, v) HBd.out.1 HBd.out.2.1
      rw [List.take_of_length_le (by rw [HFL.out]; exact Nat.le_refl _)] at HPt ⊢
      generalize rdFs p.f (n0, v) = s at *
      obtain ⟨n, u⟩ := s
      simp only at hbs HE1 HPt
      have r0 := (HR.out.cell 0).trans rfl
      have hn1 := hbs.1
      have hn2 := hbs.2.1
      by_cases h0 : n = 0
      · have e0 : (n != 0) = false := by simp [h0]
        rw [if_pos h0] at HE1
        clear h0 hbs
        go_wp2_with fail
        go_returns
        refine ⟨rfl, ?_, HT⟩
        rw [HA1.out, HE1.out, HS1.out]; exact HPt
      · have e0 : (n != 0) = true := by rw [bne_iff_ne]; exact h0
        rw [if_neg h0] at HE1
        clear h0 hbs
        go_wp2_with fail
        refine (spoil_spE _ c a len cap at1 l er1 3 HPt.out.d.cur).mono ?_
        rintro e w6 ⟨rfl, hc6, hg6, _⟩
        have H6 := hid (HPt.out.step hc6 hg6)
        have T6 := hid (HT.out.trans (Oth.grown hg6 (.inl rfl)))
        clear hc6 hg6
        go_wp2_with fail
        go_returns
        refine ⟨rfl, ?_, T6⟩
        rw [HA1.out, HE1.out, HS1.out]; exact H6
end Go.Proofs.YtbklpelikaapoaaGreatDoor

namespace Go.Proofs.YtbklpelikaapoaaGreatDoor
open Go.ChangeShapes Go.WideShapes Go.ChangeAt Go.RowKit Go.Deep
set_option linter.unusedVariables false
set_option linter.unusedSimpArgs false

theorem take_1 (w : World) (c : Nat) (a : Option Addr) (len cap at_ : Nat) (l : List Int) (h : CurAt w c a len cap l at_ 0) (hn : at_ < len) :
    Calls Tryz.prog 103 #[.pointer (some ⟨c, 0, none⟩), .int .i64 1] w fun e w' => e = .returned (.int .i64 (nxK (l.drop at_))) ∧
      CurAt w' c a len cap l (at_ + 1) 0 ∧ w.grownBy w' (some c) ∧ w'.heap.size = w.heap.size := take_n w c a len cap at_ l 1 h (by decide) (by omega)
set_option maxRecDepth 100000 in
set_option maxHeartbeats 1600000 in
theorem next_full {B base : Nat} (w w0 : World) (p c : Nat) (a : Option Addr) (len cap : Nat) (l : List Int) (at_ : Nat) (gv : Value) (L : List Ov) (h : NxAt base w w0 p c a len cap l at_ 0 gv L) (hV : Vars B w0) (hB : B ≤ base) (hat : at_ < len) (hL : L.length ≤ 16) (h16 : L.length = 16) :
    Calls Tryz.prog 163 #[.pointer (some ⟨p, 0, none⟩)] w0 fun e w' => e = .returned (.tuple #[]) ∧ Hid (NxOk base w w' p c a len cap l at_ L) := by
  obtain ⟨ga, gc, rfl⟩ := owns_len h.got
  have H := hid h
  have HV := hid hV
  have p0 := h.r.cell 0
  have p1 := h.r.cell 1
  simp only [List.getElem?_toArray, List.getElem?_cons_zero, List.getElem?_cons_succ] at p0 p1
  have hlen := h.cur.lies.1
  have HE : Hid (nxE L.length (l.drop at_) = 2) := by simp [Hid, nxE, h16]
  rw [h16] at p1
  have H16 := hid h16
  clear h hV h16
  go_enter Tryz.func163, Tryz.ntmps163
  go_wp2_with fail
  refine (spoil_any _ c a len cap at_ l 0 2 H.out.cur).mono ?_
  rintro e w1 ⟨rfl, hc, hg, hs⟩
  have H1 := hid (H.out.read hc hg)
  clear hc hg hs
  go_wp2_with fail
  go_returns
  exact ⟨rfl, _, _, _, L, H1.out, by rw [HE.out]; rfl, hL, fun e => by cases e⟩
end Go.Proofs.YtbklpelikaapoaaGreatDoor

namespace Go.Proofs.YtbklpelikaapoaaGreatDoor
open Go.ChangeShapes Go.WideShapes Go.ChangeAt Go.RowKit Go.Deep
set_option linter.unusedVariables false
set_option linter.unusedSimpArgs false

set_option maxRecDepth 100000 in
set_option maxHeartbeats 400000 in
theorem next_kind {B base : Nat} (w w0 : World) (p c : Nat) (a : Option Addr) (len cap : Nat) (l : List Int) (at_ : Nat) (gv : Value) (L : List Ov) (h : NxAt base w w0 p c a len cap l at_ 0 gv L) (hV : Vars B w0) (hB : B ≤ base) (hat : at_ < len) (hL : L.length ≤ 16) (h16 : ¬ L.length = 16) (hk : kndB (nxK (l.drop at_)) = false) :
    Calls Tryz.prog 163 #[.pointer (some ⟨p, 0, none⟩)] w0 fun e w' => e = .returned (.tuple #[]) ∧ Hid (NxOk base w w' p c a len cap l at_ L) := by
  obtain ⟨ga, gc, rfl⟩ := owns_len h.got
  have H := hid h
  have HV := hid hV
  have p0 := h.r.cell 0
  have p1 := h.r.cell 1
  simp only [List.getElem?_toArray, List.getElem?_cons_zero, List.getElem?_cons_succ] at p0 p1
  have hlen := h.cur.lies.1
  have HE : Hid (nxE L.length (l.drop at_) = 6) := by simp [Hid, nxE, h16, hk]
  generalize hn : L.length = n at *
  have HN := hid hn
  have hn16 : ((n : Int) == 16) = false := by rw [beq_eq_false_iff_ne]; omega
  clear h hV hn
  go_enter Tryz.func163, Tryz.ntmps163
  go_wp2_with fail
  refine (take_1 _ c a len cap at_ l H.out.cur hat).mono ?_
  rintro e w1 ⟨rfl, hc, hg, hs⟩
  have H1 := hid (H.out.read hc hg)
  have HV1 := hid (HV.out.rd H.out.below H1.out.below hB H1.out.size)
  generalize hx : nxK (l.drop at_) = x at *
  have HX := hid hx
  clear hc hg hs hx
  have hz := zov
  have O2 := hid (layOo_new w1 140 ⟨x, Txt.none, zeros, Txt.none⟩)
  have B2 := hid (layOo_below w1 140 ⟨x, Txt.none, zeros, Txt.none⟩)
  go_simp
  rename_i hKK
  refine hKK _ _ ?_
  refine bdO1 o43 _ rfl rfl x rfl ?_
  simp only [Act.put, List.setIfInBounds_toArray, List.set_cons_zero, List.set_cons_succ]
  clear hKK
  have HXp : Hid (Ov.p ⟨x, Txt.none, zeros, Txt.none⟩ = ⟨x, [], zeros, []⟩) := rfl
  have HXk : Hid ((⟨x, Txt.none, zeros, Txt.none⟩ : Ov).k = x) := rfl
  have HXa : Hid (Adr (⟨x, Txt.none, zeros, Txt.none⟩ : Ov).ad) := adr_zeros
  have HXo : Hid (∀ b w, Own2 b w (⟨x, Txt.none, zeros, Txt.none⟩ : Ov)) := fun b w => ⟨World.ownsRow_nil _ _ _ _, rfl, adr_zeros, World.ownsRow_nil _ _ _ _, rfl, fun x hx => by cases hx⟩
  generalize hX : (⟨x, Txt.none, zeros, Txt.none⟩ : Ov) = X at *
  clear hX
  have q0 := (O2.out.cell 0).trans (Ov.at0 _)
  rw [HXk.out] at q0
  go_wp2_with ((refine stOo o43 _ _ rfl rfl w1.heap.size X HXa.out rfl rfl 140 Ov.zero adr_zeros (Row.new w1 140 _) ?_))

  have H2 := hid (H1.out.on B2.out)
  have q1 := H2.out.r.cell 0
  simp only [List.getElem?_toArray, List.getElem?_cons_zero] at q1
  generalize (w1.alloc (.cells Ov.zero.cs 140)).setRow w1.heap.size X.cs = w2 at *
  generalize w1.heap.size = g at *
  refine (isKind_any x _).mono ?_
  rintro e w3 ⟨rfl, rfl⟩
  rw [hk]
  go_wp2_with fail
  refine (spoil_any _ c a len cap (at_ + 1) l 0 6 H2.out.cur).mono ?_
  rintro e w4 ⟨rfl, hc, hg, hs⟩
  have H4 := hid (H2.out.read hc hg)
  clear hc hg hs
  go_wp2_with fail
  go_returns
  exact ⟨rfl, _, _, _, L, H4.out, by rw [HN.out, HE.out]; rfl, by rw [HN.out]; exact hL, fun e => by cases e⟩
end Go.Proofs.YtbklpelikaapoaaGreatDoor

namespace Go.Proofs.YtbklpelikaapoaaGreatDoor
open Go.ChangeShapes Go.WideShapes Go.ChangeAt Go.RowKit Go.Deep
set_option linter.unusedVariables false
set_option linter.unusedSimpArgs false

set_option maxRecDepth 100000 in
set_option maxHeartbeats 1600000 in
theorem next_pad {B base : Nat} (w w0 : World) (p c : Nat) (a : Option Addr) (len cap : Nat) (l : List Int) (at_ : Nat) (gv : Value) (L : List Ov) (h : NxAt base w w0 p c a len cap l at_ 0 gv L) (hV : Vars B w0) (hB : B ≤ base) (hat : at_ < len) (hL : L.length ≤ 16) (h16 : ¬ L.length = 16) (hk : nxK (l.drop at_) = 0) :
    Calls Tryz.prog 163 #[.pointer (some ⟨p, 0, none⟩)] w0 fun e w' => e = .returned (.tuple #[]) ∧ Hid (NxOk base w w' p c a len cap l at_ L) := by
  obtain ⟨ga, gc, rfl⟩ := owns_len h.got
  have H := hid h
  have HV := hid hV
  have p0 := h.r.cell 0
  have p1 := h.r.cell 1
  simp only [List.getElem?_toArray, List.getElem?_cons_zero, List.getElem?_cons_succ] at p0 p1
  have hlen := h.cur.lies.1
  have HE : Hid (nxE L.length (l.drop at_) = chkP ⟨0, [], zeros, []⟩) := by rw [Hid, nxE, if_neg h16, if_neg (by rw [hk]; decide), if_pos hk, nxP, if_pos hk]
  have HK0 := hid hk
  clear hk
  generalize hn : L.length = n at *
  have HN := hid hn
  have hn16 : ((n : Int) == 16) = false := by rw [beq_eq_false_iff_ne]; omega
  clear h hV hn
  go_enter Tryz.func163, Tryz.ntmps163
  go_wp2_with fail
  refine (take_1 _ c a len cap at_ l H.out.cur hat).mono ?_
  rintro e w1 ⟨rfl, hc, hg, hs⟩
  have H1 := hid (H.out.read hc hg)
  have HV1 := hid (HV.out.rd H.out.below H1.out.below hB H1.out.size)
  generalize hx : nxK (l.drop at_) = x at *
  have HX := hid hx
  clear hc hg hs hx
  have hz := zov
  have O2 := hid (layOo_new w1 140 ⟨x, Txt.none, zeros, Txt.none⟩)
  have B2 := hid (layOo_below w1 140 ⟨x, Txt.none, zeros, Txt.none⟩)
  go_simp
  rename_i hKK
  refine hKK _ _ ?_
  refine bdO1 o43 _ rfl rfl x rfl ?_
  simp only [Act.put, List.setIfInBounds_toArray, List.set_cons_zero, List.set_cons_succ]
  clear hKK
  have HXp : Hid (Ov.p ⟨x, Txt.none, zeros, Txt.none⟩ = ⟨x, [], zeros, []⟩) := rfl
  have HXk : Hid ((⟨x, Txt.none, zeros, Txt.none⟩ : Ov).k = x) := rfl
  have HXa : Hid (Adr (⟨x, Txt.none, zeros, Txt.none⟩ : Ov).ad) := adr_zeros
  have HXo : Hid (∀ b w, Own2 b w (⟨x, Txt.none, zeros, Txt.none⟩ : Ov)) := fun b w => ⟨World.ownsRow_nil _ _ _ _, rfl, adr_zeros, World.ownsRow_nil _ _ _ _, rfl, fun x hx => by cases hx⟩
  generalize hX : (⟨x, Txt.none, zeros, Txt.none⟩ : Ov) = X at *
  clear hX
  have q0 := (O2.out.cell 0).trans (Ov.at0 _)
  rw [HXk.out] at q0
  go_wp2_with ((refine stOo o43 _ _ rfl rfl w1.heap.size X HXa.out rfl rfl 140 Ov.zero adr_zeros (Row.new w1 140 _) ?_))

  have H2 := hid (H1.out.on B2.out)
  have HV2 := hid (HV1.out.below B2.out)
  have q1 := H2.out.r.cell 0
  simp only [List.getElem?_toArray, List.getElem?_cons_zero] at q1
  generalize (w1.alloc (.cells Ov.zero.cs 140)).setRow w1.heap.size X.cs = wz at *
  have HGn : Hid ((Value.slice ga n gc).ownBlock ≠ some w1.heap.size) := fun e => by have := (H1.out.got.lt _ e).2; omega
  generalize w1.heap.size = g at *
  refine (isKind_any x _).mono ?_
  rintro e w3 ⟨rfl, rfl⟩
  obtain rfl : x = 0 := HK0.out
  rw [show kndB 0 = true from rfl]
  go_wp2_with fail
  have N0 := H2
  have O0 := O2
  have V0 := HV2
  have W0 := hid (HXo.out base w3)
  have HGne : Hid ((Value.slice ga n gc).ownBlock ≠ some g) := HGn
  generalize hw3 : w3 = wz at *
  clear H2 O2 HV2 H1 HV1 B2 q1 q0
  generalize hat2 : at_ + 1 = at2 at *
  generalize her2 : (0 : Int) = er2 at N0
  refine wp_region_held_drew (S := fun w' => w'.cell? ⟨p, 0, none⟩ = some (.pointer (some ⟨c, 0, none⟩)) ∧ Hid (Row w' g 140 X.cs)) (by kernel_rfl) ?_ (fun hHeld => ?_)
  · exact ⟨N0.out.r.cell 0, O0.out⟩
  refine wpAnyH_take (i := 0) (oi := _) (v := ?va0) rfl (by kernel_rfl) (by kernel_rfl) (by kernel_rfl) (fun _ _ _ h => h) (Or.inl ⟨by rfl, ?hya0⟩) (by assumption) ?resta0
  case hya0 => (intro w hSw; (try dsimp only at hSw); go_split_ands; go_simp; try (with_reducible rfl))
  try simp only [List.getElem_toArray, List.getElem_cons_zero, List.getElem_cons_succ, Act.put, List.setIfInBounds_toArray, List.set_cons_zero, List.set_cons_succ]
  refine wpAnyH_take (i := 1) (oi := _) (v := ?va1) rfl (by kernel_rfl) (by kernel_rfl) (by kernel_rfl) (fun _ _ _ h => h) (Or.inl ⟨by rfl, ?hya1⟩) (by assumption) ?resta1
  case hya1 => (intro w hSw; (try dsimp only at hSw); go_split_ands; go_simp; try (with_reducible rfl))
  try simp only [List.getElem_toArray, List.getElem_cons_zero, List.getElem_cons_succ, Act.put, List.setIfInBounds_toArray, List.set_cons_zero, List.set_cons_succ]
  refine wpAnyH_take (i := 2) (oi := _) (v := ?va2) rfl (by kernel_rfl) (by kernel_rfl) (by kernel_rfl) (fun _ _ _ h => h) (Or.inl ⟨by rfl, ?hya2⟩) (by assumption) ?resta2
  case hya2 => (intro w hSw; (try dsimp only at hSw); go_split_ands; go_simp; try (with_reducible rfl))
  try simp only [List.getElem_toArray, List.getElem_cons_zero, List.getElem_cons_succ, Act.put, List.setIfInBounds_toArray, List.set_cons_zero, List.set_cons_succ]
  refine wpAnyH_take (i := 3) (oi := _) (v := ?va3) rfl (by kernel_rfl) (by kernel_rfl) (by kernel_rfl) (fun _ _ _ h => h) (Or.inl ⟨by rfl, ?hya3⟩) (by assumption) ?resta3
  case hya3 => (intro w hSw; (try dsimp only at hSw); go_split_ands; go_simp; try (with_reducible rfl))
  try simp only [List.getElem_toArray, List.getElem_cons_zero, List.getElem_cons_succ, Act.put, List.setIfInBounds_toArray, List.set_cons_zero, List.set_cons_succ]
  refine wpAnyH_take (i := 4) (oi := _) (v := .agg X.cs) rfl (by kernel_rfl) (by kernel_rfl) (by kernel_rfl) (fun _ _ _ h => h) (yldOo o43 (by rfl) _ rfl g 0 rfl X HXa.out (fun w h => (h.2).out.part)) (by assumption) ?_
  try simp only [List.getElem_toArray, List.getElem_cons_zero, List.getElem_cons_succ, Act.put, List.setIfInBounds_toArray, List.set_cons_zero, List.set_cons_succ]
  refine wpAnyH_ready (rs := [5]) (by kernel_rfl) (by simp) ?_
  refine AllReadyH.cons (o := _) rfl (fun K hK => ?_) AllReadyH.nil
  go_simp
  refine (optCheck_any X _ (W0.out.ok.drewN 1) (V0.out.drewN 1)).mono ?_
  rintro e w6 ⟨rfl, hb6⟩
  have bb := bthen (bdrew (Below.refl wz.heap.size wz) 1) hb6
  have N6 := hid (N0.out.on bb)
  have O6 := hid (O0.out.below bb)
  have W6 := hid (W0.out.below bb)
  have HCk : Hid (chkP X.p = chkP X.p) := rfl
  clear hb6 bb N0 O0 W0
  generalize hck : chkP X.p = ck at *
  have HCK := hid hck
  clear hck HCk
  go_wp2_with fail
  refine hK.out _ _ ⟨N6.out.r.cell 0, O6.out⟩ (fun hHeld => ?_)
  clear hK K
  try simp only [List.getElem_toArray, List.getElem_cons_zero, List.getElem_cons_succ, Act.put, List.setIfInBounds_toArray, List.set_cons_zero, List.set_cons_succ]
  refine wpAnyH_ready (rs := [6]) (by kernel_rfl) (by simp) ?_
  refine AllReadyH.cons (o := _) rfl (fun K hK => ?_) AllReadyH.nil
  go_simp
  refine (spoil_any _ c a len cap at2 l er2 ck N6.out.cur).mono ?_
  rintro e w7 ⟨rfl, hc, hg, hs⟩
  have N7 := hid (N6.out.read hc hg)
  have O7 := hid (O6.out.kept hg (fun e => O6.out.ne N6.out.cur.row (by decide) (Option.some.inj e)))
  have W7 := hid (W6.out.row N6.out.cur.row (by decide) (by decide) hg)
  clear hc hg hs N6 O6 W6
  go_wp2_with fail
  refine hK.out _ _ ⟨N7.out.r.cell 0, O7.out⟩ (fun hHeld => ?_)
  clear hK K
  try simp only [List.getElem_toArray, List.getElem_cons_zero, List.getElem_cons_succ, Act.put, List.setIfInBounds_toArray, List.set_cons_zero, List.set_cons_succ]
  refine wpAnyH_done (by kernel_rfl) ?_ _
  go_wp2_with fail

  refine wp_region_held_drew (S := fun w' => w'.cell? ⟨p, 0, none⟩ = some (.pointer (some ⟨c, 0, none⟩)) ∧ Hid (Row w' g 140 X.cs)) (by kernel_rfl) ?_ (fun hHeld => ?_)
  · exact ⟨N7.out.r.cell 0, O7.out⟩
  have S8 : Hid (Row w7.drew g 140 X.cs) := hid (O7.out.drewN 1)
  have N8a : Hid (NxAt base w w7.drew p c a len cap l at2 (spE er2 ck) (.slice ga n gc) L) := hid (N7.out.drewN 1)
  have W8a : Hid (Own2 base w7.drew X) := hid (W7.out.below (bdrew (Below.refl _ _) 1))
  clear N7 O7 W7
  generalize w7.drew = wd at *
  have O8a := S8
  refine wpAnyH_take (i := 0) (oi := _) (v := ?vb0) rfl (by kernel_rfl) (by kernel_rfl) (by kernel_rfl) (fun _ _ _ h => h) (Or.inl ⟨by rfl, ?hyb0⟩) (by assumption) ?restb0
  case hyb0 => (intro w hSw; (try dsimp only at hSw); go_split_ands; go_simp; try (with_reducible rfl))
  try simp only [List.getElem_toArray, List.getElem_cons_zero, List.getElem_cons_succ, Act.put, List.setIfInBounds_toArray, List.set_cons_zero, List.set_cons_succ]
  refine wpAnyH_take (i := 1) (oi := _) (v := ?vb1) rfl (by kernel_rfl) (by kernel_rfl) (by kernel_rfl) (fun _ _ _ h => h) (Or.inl ⟨by rfl, ?hyb1⟩) (by assumption) ?restb1
  case hyb1 => (intro w hSw; (try dsimp only at hSw); go_split_ands; go_simp; try (with_reducible rfl))
  try simp only [List.getElem_toArray, List.getElem_cons_zero, List.getElem_cons_succ, Act.put, List.setIfInBounds_toArray, List.set_cons_zero, List.set_cons_succ]
  refine wpAnyH_take (i := 2) (oi := _) (v := ?vb2) rfl (by kernel_rfl) (by kernel_rfl) (by kernel_rfl) (fun _ _ _ h => h) (Or.inl ⟨by rfl, ?hyb2⟩) (by assumption) ?restb2
  case hyb2 => (intro w hSw; (try dsimp only at hSw); go_split_ands; go_simp; try (with_reducible rfl))
  try simp only [List.getElem_toArray, List.getElem_cons_zero, List.getElem_cons_succ, Act.put, List.setIfInBounds_toArray, List.set_cons_zero, List.set_cons_succ]
  refine wpAnyH_take (i := 3) (oi := _) (v := ?vb3) rfl (by kernel_rfl) (by kernel_rfl) (by kernel_rfl) (fun _ _ _ h => h) (Or.inl ⟨by rfl, ?hyb3⟩) (by assumption) ?restb3
  case hyb3 => (intro w hSw; (try dsimp only at hSw); go_split_ands; go_simp; try (with_reducible rfl))
  try simp only [List.getElem_toArray, List.getElem_cons_zero, List.getElem_cons_succ, Act.put, List.setIfInBounds_toArray, List.set_cons_zero, List.set_cons_succ]
  refine wpAnyH_take (i := 5) (oi := _) (v := .agg X.cs) rfl (by kernel_rfl) (by kernel_rfl) (by kernel_rfl) (fun _ _ _ h => h) (yldOo o43 (by rfl) _ rfl g 0 rfl X HXa.out (fun w h => (h.2).out.part)) (by assumption) ?_
  try simp only [List.getElem_toArray, List.getElem_cons_zero, List.getElem_cons_succ, Act.put, List.setIfInBounds_toArray, List.set_cons_zero, List.set_cons_succ]
  refine wpAnyH_ready (rs := [4, 6]) (by kernel_rfl) (by simp) ?_
  refine AllReadyH.cons (o := _) rfl (fun K hK => ?_) (AllReadyH.cons (o := _) rfl (fun K hK => ?_) AllReadyH.nil)
  · have cn : wd.cell? ⟨p, 1, none⟩ = some (.slice ga n gc) := (N8a.out.r.cell 1)
    go_simp
    go_wp2_with fail
    refine hK.out _ _ ⟨N8a.out.r.cell 0, S8.out⟩ (fun hHeld => ?_)
    clear hK K
    try simp only [List.getElem_toArray, List.getElem_cons_zero, List.getElem_cons_succ, Act.put, List.setIfInBounds_toArray, List.set_cons_zero, List.set_cons_succ]
    clear cn
    refine wpAnyH_ready (rs := [6]) (by kernel_rfl) (by simp) ?_
    refine AllReadyH.cons (o := _) rfl (fun K hK => ?_) AllReadyH.nil
    have BA := hid (balloc (Below.refl _ _) (.cells X.cs 140) : Below wd.heap.size wd (wd.alloc (.cells X.cs 140)))
    have N8 := hid (N8a.out.on BA.out)
    have O8 := hid (O8a.out.below BA.out)
    have W8 := hid (W8a.out.below BA.out)
    have RX : Hid (Row (wd.alloc (.cells X.cs 140)) wd.heap.size 140 X.cs) := hid (Row.new wd 140 X.cs)
    clear BA
    refine step_bsO s23 rfl _ rfl X HXa.out rfl ?_
    have S8 := O8
    refine hK.out _ _ ⟨N8.out.r.cell 0, S8.out⟩ (fun hHeld => ?_)
    clear hK K
    try simp only [List.getElem_toArray, List.getElem_cons_zero, List.getElem_cons_succ, Act.put, List.setIfInBounds_toArray, List.set_cons_zero, List.set_cons_succ]
    refine wpAnyH_ready (rs := [7]) (by kernel_rfl) (by simp) ?_
    refine AllReadyH.cons (o := _) rfl (fun K hK => ?_) AllReadyH.nil
    refine step_pushO s23 rfl _ _ rfl base n wd.heap.size (.slice ga n gc) (ocs L) rfl (by have := N8.out.got; rwa [HN.out] at this) X HXa.out rfl (by exact RX.out) (by exact N8.out.size) (by omega) ?_
    intro v4 w9 hown4 hg4
    obtain ⟨na, nc, rfl⟩ := owns_len hown4
    have N10 := hid (NxAt.push N8.out hg4 X W8.out (.slice na (n + 1) nc) (by rw [HN.out]; exact hown4))
    obtain ⟨g1, _, _, _, _⟩ := N8.out.app hg4
    have P9 := hid g1
    have O9 := hid (O8.out.kept hg4 (fun e => HGne.out e.symm))
    clear hown4 hg4 g1 N8 O8 W8 RX S8
    refine hK.out _ _ ⟨P9.out.cell 0, O9.out⟩ (fun hHeld => ?_)
    clear hK K
    try simp only [List.getElem_toArray, List.getElem_cons_zero, List.getElem_cons_succ, Act.put, List.setIfInBounds_toArray, List.set_cons_zero, List.set_cons_succ]
    have f1 := P9.out.frozen 1
    have cn : w9.cell? ⟨p, 1, none⟩ = some (.slice ga n gc) := P9.out.cell 1
    refine wpAnyH_take (i := 8) (oi := _) (v := ?vc8) rfl (by kernel_rfl) (by kernel_rfl) (by kernel_rfl) (fun _ _ _ h => h) (Or.inl ⟨by rfl, ?hyc8⟩) (by assumption) ?restc8
    case hyc8 => (intro w hSw; (try dsimp only at hSw); go_split_ands; go_simp; try (with_reducible rfl))
    try simp only [List.getElem_toArray, List.getElem_cons_zero, List.getElem_cons_succ, Act.put, List.setIfInBounds_toArray, List.set_cons_zero, List.set_cons_succ]
    refine wpAnyH_take (i := 9) (oi := _) (v := ?vc9) rfl (by kernel_rfl) (by kernel_rfl) (by kernel_rfl) (fun _ _ _ h => h) (Or.inl ⟨by rfl, ?hyc9⟩) (by assumption) ?restc9
    case hyc9 => (intro w hSw; (try dsimp only at hSw); go_split_ands; go_simp; try (with_reducible rfl))
    try simp only [List.getElem_toArray, List.getElem_cons_zero, List.getElem_cons_succ, Act.put, List.setIfInBounds_toArray, List.set_cons_zero, List.set_cons_succ]
    refine wpAnyH_ready (rs := [10]) (by kernel_rfl) (by simp) ?_
    refine AllReadyH.cons (o := _) rfl (fun K hK => ?_) AllReadyH.nil
    go_simp
    go_wp2_with fail
    refine hK.out _ _ ⟨(P9.out.set 1 _).cell 0, O9.out.other _ _ (O9.out.ne P9.out (by decide))⟩ (fun hHeld => ?_)
    clear hK K
    try simp only [List.getElem_toArray, List.getElem_cons_zero, List.getElem_cons_succ, Act.put, List.setIfInBounds_toArray, List.set_cons_zero, List.set_cons_succ]
    refine wpAnyH_done (by kernel_rfl) ?_ _
    go_wp2_with fail
    go_returns
    refine ⟨rfl, at2, _, _, L ++ [X], N10.out, ?_, ?_, ?_⟩
    · rw [HN.out, HE.out, ← HCK.out, HXp.out, ← her2]; rfl
    · rw [List.length_append, HN.out]; simp; omega
    · intro _
      refine ⟨?_, ?_⟩
      · rw [pos, List.map_append, nxP, if_pos HX.out, ← HXp.out]; rfl
      · rw [nxN, if_pos HX.out, hat2]

  · have BA := hid (balloc (Below.refl _ _) (.cells X.cs 140) : Below wd.heap.size wd (wd.alloc (.cells X.cs 140)))
    have N8 := hid (N8a.out.on BA.out)
    have O8 := hid (O8a.out.below BA.out)
    have W8 := hid (W8a.out.below BA.out)
    have RX : Hid (Row (wd.alloc (.cells X.cs 140)) wd.heap.size 140 X.cs) := hid (Row.new wd 140 X.cs)
    clear BA
    refine step_bsO s23 rfl _ rfl X HXa.out rfl ?_
    have S8 := O8
    refine hK.out _ _ ⟨N8.out.r.cell 0, S8.out⟩ (fun hHeld => ?_)
    clear hK K
    try simp only [List.getElem_toArray, List.getElem_cons_zero, List.getElem_cons_succ, Act.put, List.setIfInBounds_toArray, List.set_cons_zero, List.set_cons_succ]
    refine wpAnyH_ready (rs := [4]) (by kernel_rfl) (by simp) ?_
    refine AllReadyH.cons (o := _) rfl (fun K hK => ?_) AllReadyH.nil
    have cn : (wd.alloc (.cells X.cs 140)).cell? ⟨p, 1, none⟩ = some (.slice ga n gc) := (N8.out.r.cell 1)
    go_simp
    go_wp2_with fail
    refine hK.out _ _ ⟨N8.out.r.cell 0, S8.out⟩ (fun hHeld => ?_)
    clear hK K
    try simp only [List.getElem_toArray, List.getElem_cons_zero, List.getElem_cons_succ, Act.put, List.setIfInBounds_toArray, List.set_cons_zero, List.set_cons_succ]
    clear cn
    refine wpAnyH_ready (rs := [7]) (by kernel_rfl) (by simp) ?_
    refine AllReadyH.cons (o := _) rfl (fun K hK => ?_) AllReadyH.nil
    refine step_pushO s23 rfl _ _ rfl base n wd.heap.size (.slice ga n gc) (ocs L) rfl (by have := N8.out.got; rwa [HN.out] at this) X HXa.out rfl (by exact RX.out) (by exact N8.out.size) (by omega) ?_
    intro v4 w9 hown4 hg4
    obtain ⟨na, nc, rfl⟩ := owns_len hown4
    have N10 := hid (NxAt.push N8.out hg4 X W8.out (.slice na (n + 1) nc) (by rw [HN.out]; exact hown4))
    obtain ⟨g1, _, _, _, _⟩ := N8.out.app hg4
    have P9 := hid g1
    have O9 := hid (O8.out.kept hg4 (fun e => HGne.out e.symm))
    clear hown4 hg4 g1 N8 O8 W8 RX S8
    refine hK.out _ _ ⟨P9.out.cell 0, O9.out⟩ (fun hHeld => ?_)
    clear hK K
    try simp only [List.getElem_toArray, List.getElem_cons_zero, List.getElem_cons_succ, Act.put, List.setIfInBounds_toArray, List.set_cons_zero, List.set_cons_succ]
    have f1 := P9.out.frozen 1
    have cn : w9.cell? ⟨p, 1, none⟩ = some (.slice ga n gc) := P9.out.cell 1
    refine wpAnyH_take (i := 8) (oi := _) (v := ?vd8) rfl (by kernel_rfl) (by kernel_rfl) (by kernel_rfl) (fun _ _ _ h => h) (Or.inl ⟨by rfl, ?hyd8⟩) (by assumption) ?restd8
    case hyd8 => (intro w hSw; (try dsimp only at hSw); go_split_ands; go_simp; try (with_reducible rfl))
    try simp only [List.getElem_toArray, List.getElem_cons_zero, List.getElem_cons_succ, Act.put, List.setIfInBounds_toArray, List.set_cons_zero, List.set_cons_succ]
    refine wpAnyH_take (i := 9) (oi := _) (v := ?vd9) rfl (by kernel_rfl) (by kernel_rfl) (by kernel_rfl) (fun _ _ _ h => h) (Or.inl ⟨by rfl, ?hyd9⟩) (by assumption) ?restd9
    case hyd9 => (intro w hSw; (try dsimp only at hSw); go_split_ands; go_simp; try (with_reducible rfl))
    try simp only [List.getElem_toArray, List.getElem_cons_zero, List.getElem_cons_succ, Act.put, List.setIfInBounds_toArray, List.set_cons_zero, List.set_cons_succ]
    refine wpAnyH_ready (rs := [10]) (by kernel_rfl) (by simp) ?_
    refine AllReadyH.cons (o := _) rfl (fun K hK => ?_) AllReadyH.nil
    go_simp
    go_wp2_with fail
    refine hK.out _ _ ⟨(P9.out.set 1 _).cell 0, O9.out.other _ _ (O9.out.ne P9.out (by decide))⟩ (fun hHeld => ?_)
    clear hK K
    try simp only [List.getElem_toArray, List.getElem_cons_zero, List.getElem_cons_succ, Act.put, List.setIfInBounds_toArray, List.set_cons_zero, List.set_cons_succ]
    refine wpAnyH_done (by kernel_rfl) ?_ _
    go_wp2_with fail
    go_returns
    refine ⟨rfl, at2, _, _, L ++ [X], N10.out, ?_, ?_, ?_⟩
    · rw [HN.out, HE.out, ← HCK.out, HXp.out, ← her2]; rfl
    · rw [List.length_append, HN.out]; simp; omega
    · intro _
      refine ⟨?_, ?_⟩
      · rw [pos, List.map_append, nxP, if_pos HX.out, ← HXp.out]; rfl
      · rw [nxN, if_pos HX.out, hat2]


end Go.Proofs.YtbklpelikaapoaaGreatDoor

namespace Go.Proofs.YtbklpelikaapoaaGreatDoor
open Go.ChangeShapes Go.WideShapes Go.ChangeAt Go.RowKit Go.Deep
set_option linter.unusedVariables false
set_option linter.unusedSimpArgs false

def nxN' (m : List Int) : Nat := 1 + rdN 1 1 (m.length - 1) 0 + nxN2 m
def nxR (m : List Int) : Nat := rdN 1 1 (m.length - 1) 0
theorem take_2 (w : World) (c : Nat) (a : Option Addr) (len cap at_ : Nat) (l : List Int) (h : CurAt w c a len cap l (at_ + 1) 0) :
    Calls Tryz.prog 103 #[.pointer (some ⟨c, 0, none⟩), .int .i64 1] w fun e w' => e = .returned (.int .i64 (nxL (l.drop at_))) ∧
      CurAt w' c a len cap l (at_ + 1 + nxR (l.drop at_)) (nxE1 (l.drop at_)) ∧ w.grownBy w' (some c) ∧ w'.heap.size = w.heap.size := by
  have hl := h.lies.1
  have e1 : len - (at_ + 1) = (l.drop at_).length - 1 := by rw [List.length_drop, hl]; omega
  have := take_any w c a len cap (at_ + 1) l 0 1 h
  have e2 : takeV 1 l (at_ + 1) len 0 = nxL (l.drop at_) := by
    rw [nxL, takeV, takeV, e1, List.drop_drop]
  rw [e2, e1] at this
  exact this
theorem within_2 (w : World) (c : Nat) (a : Option Addr) (len cap at_ : Nat) (l : List Int) (h : CurAt w c a len cap l (at_ + 1 + nxR (l.drop at_)) (nxE1 (l.drop at_))) :
    Calls Tryz.prog 165 #[.pointer (some ⟨c, 0, none⟩), .int .i64 (nxL (l.drop at_))] w fun e w' => ∃ c2 a2 cap2, e = .returned (.pointer (some ⟨c2, 0, none⟩)) ∧
      CurAt w' c2 a2 (nxN2 (l.drop at_)) cap2 (nxC (l.drop at_)) 0 (nxE2 (l.drop at_)) ∧
      CurAt w' c a len cap l (at_ + nxN' (l.drop at_)) (nxE2 (l.drop at_)) ∧ w.grownBy w' (some c) ∧ w.heap.size ≤ c2 ∧ w'.ownsRow w.heap.size 5 1 (.slice a2 (nxN2 (l.drop at_)) cap2) (nxN2 (l.drop at_)) (u8s (nxC (l.drop at_))) := by
  have hl := h.lies.1
  have e1 : len - (at_ + 1 + nxR (l.drop at_)) = (l.drop at_).length - (1 + rdN 1 1 ((l.drop at_).length - 1) 0) := by rw [← nxR, List.length_drop, hl]; omega
  have e2 : (l.drop (at_ + 1 + nxR (l.drop at_))) = (l.drop at_).drop (1 + rdN 1 1 ((l.drop at_).length - 1) 0) := by rw [← nxR, List.drop_drop, Nat.add_assoc]
  have := within_own w c a len cap _ l _ (nxL (l.drop at_)) h
  rw [e1, e2] at this
  have e3 : at_ + nxN' (l.drop at_) = at_ + 1 + nxR (l.drop at_) + nxN2 (l.drop at_) := by unfold nxN' nxR; omega
  rw [e3]
  exact this
/-- The outer reader, while the inner one is made. -/
structure SixA (w1 wi : World) (p c g : Nat) (a : Option Addr) (len cap : Nat) (l : List Int) (at_ : Nat) (er : Int) (gv : Value) (X : Ov) : Prop where
  r : Row wi p 243 #[.pointer (some ⟨c, 0, none⟩), gv]
  cur : CurAt wi c a len cap l at_ er
  gr : w1.grownBy wi (some c)
  o : Row wi g 140 X.cs
  la : ∀ ad, a = some ad → ad.block < w1.heap.size
structure SixB (g : Nat) (wi : World) (c2 : Nat) (a2 : Option Addr) (n2 cap2 : Nat) (lc : List Int) (e2 : Int) : Prop where
  cur : CurAt wi c2 a2 n2 cap2 lc 0 e2
  win : wi.ownsRow g 5 1 (.slice a2 n2 cap2) n2 (u8s lc)
  hc : g ≤ c2
section
variable {w1 wi w' : World} {p c g : Nat} {a : Option Addr} {len cap : Nat} {l : List Int} {at_ : Nat} {er : Int} {gv : Value} {X : Ov} {c2 : Nat} {a2 : Option Addr} {n2 cap2 : Nat} {lc : List Int} {e2 : Int}
theorem SixA.read (h : SixA w1 wi p c g a len cap l at_ er gv X) {at2 : Nat} {er2 : Int} (hc : CurAt w' c a len cap l at2 er2) (hg : wi.grownBy w' (some c)) : SixA w1 w' p c g a len cap l at2 er2 gv X :=
  ⟨h.r.kept hg (fun e => h.r.ne h.cur.row (by decide) (Option.some.inj e)), hc, h.gr.trans hg, h.o.kept hg (fun e => h.o.ne h.cur.row (by decide) (Option.some.inj e)), h.la⟩
theorem SixA.on (h : SixA w1 wi p c g a len cap l at_ er gv X) (hb : Below wi.heap.size wi w') : SixA w1 w' p c g a len cap l at_ er gv X :=
  h.read (h.cur.below hb) ⟨hb.os, hb.tape, hb.output, hb.size, fun k hk _ => hb.block k hk⟩
theorem SixA.drewN (h : SixA w1 wi p c g a len cap l at_ er gv X) (q : Nat) : SixA w1 (wi.drewN q) p c g a len cap l at_ er gv X := h.on (bdrew (Below.refl _ _) q)
/-- A row of the reader's type is laid down anew. -/
theorem SixA.set (h : SixA w1 wi p c g a len cap l at_ er gv X) {p2 : Nat} {cs : Array Value} (ds : Array Value) (hr : Row wi p2 243 cs) (hp : w1.heap.size ≤ p2) (hne : p ≠ p2) : SixA w1 (wi.setRow p2 ds) p c g a len cap l at_ er gv X :=
  ⟨h.r.rowOther _ _ hne, h.cur.other (fun e => h.cur.row.ne hr (by decide) (Option.some.inj e)) (fun ad e e2 => by have := h.la ad e; have := Option.some.inj e2; omega) (grownBy_setRow ..), grown_then h.gr (below_setRow' (Below.refl _ _) hp _), h.o.rowOther _ _ (h.o.ne hr (by decide)), h.la⟩
theorem SixB.on (h : SixB g wi c2 a2 n2 cap2 lc e2) (hb : Below wi.heap.size wi w') : SixB g w' c2 a2 n2 cap2 lc e2 := ⟨h.cur.below hb, own_below h.win hb, h.hc⟩
theorem SixB.set (h : SixB g wi c2 a2 n2 cap2 lc e2) {p2 : Nat} {cs : Array Value} (ds : Array Value) (hr : Row wi p2 243 cs) : SixB g (wi.setRow p2 ds) c2 a2 n2 cap2 lc e2 :=
  ⟨h.cur.other (fun e => h.cur.row.ne hr (by decide) (Option.some.inj e)) (fun ad e => by have := own_row h.win hr (by decide); rw [e] at this; exact this) (grownBy_setRow ..), h.win.kept (grownBy_setRow ..) (.inr (own_row h.win hr (by decide))), h.hc⟩
/-- The readers behind the option's length. -/
def Six (w1 wx : World) (p c g p2 : Nat) (a : Option Addr) (len cap : Nat) (l : List Int) (at_ : Nat) (gv : Value) (X : Ov) (n2 : Nat) (lc : List Int) (e2 : Int) : Prop :=
  ∃ c2 a2 cap2, SixA w1 wx p c g a len cap l at_ e2 gv X ∧ SixB g wx c2 a2 n2 cap2 lc e2 ∧ Row wx p2 243 #[.pointer (some ⟨c2, 0, none⟩), .slice none 0 0] ∧ w1.heap.size ≤ p2
/-- What fill leaves, for the outer reader. -/
theorem six_nx {base : Nat} {w : World} {at0 : Nat} {er0 : Int} {L : List Ov} (h : NxAt base w w1 p c a len cap l at0 er0 gv L) (hA : SixA w1 wi p c g a len cap l at_ er gv X) (hb : Below w1.heap.size wi w') : NxAt base w w' p c a len cap l at_ er gv L :=
  h.read (CurAt.own h.cur hA.cur hA.gr hb) (grown_then hA.gr hb)
end
end Go.Proofs.YtbklpelikaapoaaGreatDoor

namespace Go.Proofs.YtbklpelikaapoaaGreatDoor
open Go.ChangeShapes Go.WideShapes Go.ChangeAt Go.RowKit Go.Deep
set_option linter.unusedVariables false
set_option linter.unusedSimpArgs false

set_option maxRecDepth 100000 in
set_option maxHeartbeats 1600000 in
theorem next_other {B base : Nat} (w w0 : World) (p c : Nat) (a : Option Addr) (len cap : Nat) (l : List Int) (at_ : Nat) (gv : Value) (L : List Ov) (h : NxAt base w w0 p c a len cap l at_ 0 gv L) (hV : Vars B w0) (hB : B ≤ base) (hat : at_ < len) (hL : L.length ≤ 16) (h16 : ¬ L.length = 16) (k : Nat) (hk10 : k < 10) (hk0 : k ≠ 0) (hk : nxK (l.drop at_) = k) :
    Calls Tryz.prog 163 #[.pointer (some ⟨p, 0, none⟩)] w0 fun e w' => e = .returned (.tuple #[]) ∧ Hid (NxOk base w w' p c a len cap l at_ L) := by
  obtain ⟨ga, gc, rfl⟩ := owns_len h.got
  have H := hid h
  have HV := hid hV
  have p0 := h.r.cell 0
  have p1 := h.r.cell 1
  simp only [List.getElem?_toArray, List.getElem?_cons_zero, List.getElem?_cons_succ] at p0 p1
  have hlen := h.cur.lies.1
  have HE : Hid (nxE L.length (l.drop at_) = spE (spE (nxE2 (l.drop at_)) (filE k (nxC (l.drop at_)) (nxE2 (l.drop at_)))) (chkP (filP k (nxC (l.drop at_)) (nxE2 (l.drop at_))))) := by
    have h1 : kndB (k : Int) = true := by simp [kndB]; omega
    have h2 : ¬ ((k : Int) = 0) := by omega
    rw [Hid, nxE, nxP, if_neg h16, hk, h1, if_neg (by decide), if_neg h2, if_neg h2, Int.toNat_natCast]
  have HPn : Hid (nxP (l.drop at_) = filP k (nxC (l.drop at_)) (nxE2 (l.drop at_))) := by rw [Hid, nxP, hk, if_neg (by omega), Int.toNat_natCast]
  have HNn : Hid (nxN (l.drop at_) = nxN' (l.drop at_)) := by rw [Hid, nxN, hk, if_neg (by omega), nxN']
  have HK0 := hid hk
  clear hk
  generalize hn : L.length = n at *
  have HN := hid hn
  have hn16 : ((n : Int) == 16) = false := by rw [beq_eq_false_iff_ne]; omega
  clear h hV hn
  go_enter Tryz.func163, Tryz.ntmps163
  go_wp2_with fail
  refine (take_1 _ c a len cap at_ l H.out.cur hat).mono ?_
  rintro e w1 ⟨rfl, hc, hg, hs⟩
  have H1 := hid (H.out.read hc hg)
  have HV1 := hid (HV.out.rd H.out.below H1.out.below hB H1.out.size)
  generalize hx : nxK (l.drop at_) = x at *
  have HX := hid hx
  clear hc hg hs hx
  have hz := zov
  have O2 := hid (layOo_new w1 140 ⟨x, Txt.none, zeros, Txt.none⟩)
  have B2 := hid (layOo_below w1 140 ⟨x, Txt.none, zeros, Txt.none⟩)
  go_simp
  rename_i hKK
  refine hKK _ _ ?_
  refine bdO1 o43 _ rfl rfl x rfl ?_
  simp only [Act.put, List.setIfInBounds_toArray, List.set_cons_zero, List.set_cons_succ]
  clear hKK
  have HXp : Hid (Ov.p ⟨x, Txt.none, zeros, Txt.none⟩ = ⟨x, [], zeros, []⟩) := rfl
  have HXk : Hid ((⟨x, Txt.none, zeros, Txt.none⟩ : Ov).k = x) := rfl
  have HXa : Hid (Adr (⟨x, Txt.none, zeros, Txt.none⟩ : Ov).ad) := adr_zeros
  have HXo : Hid (∀ b w, Own2 b w (⟨x, Txt.none, zeros, Txt.none⟩ : Ov)) := fun b w => ⟨World.ownsRow_nil _ _ _ _, rfl, adr_zeros, World.ownsRow_nil _ _ _ _, rfl, fun x hx => by cases hx⟩
  generalize hX : (⟨x, Txt.none, zeros, Txt.none⟩ : Ov) = X at *
  clear hX
  have q0 := (O2.out.cell 0).trans (Ov.at0 _)
  rw [HXk.out] at q0
  go_wp2_with ((refine stOo o43 _ _ rfl rfl w1.heap.size X HXa.out rfl rfl 140 Ov.zero adr_zeros (Row.new w1 140 _) ?_))

  have A00 : Hid (SixA w1 ((w1.alloc (.cells Ov.zero.cs 140)).setRow w1.heap.size X.cs) p c w1.heap.size a len cap l (at_ + 1) 0 (.slice ga n gc) X) :=
    ⟨H1.out.r.below B2.out, H1.out.cur.below B2.out, ⟨B2.out.os, B2.out.tape, B2.out.output, B2.out.size, fun k hk _ => B2.out.block k hk⟩, O2.out, fun ad e => (H1.out.win.lt ad.block (by rw [e]; rfl)).2⟩
  have q1 := A00.out.r.cell 0
  simp only [List.getElem?_toArray, List.getElem?_cons_zero] at q1
  generalize (w1.alloc (.cells Ov.zero.cs 140)).setRow w1.heap.size X.cs = wz at *
  have HGn : Hid ((Value.slice ga n gc).ownBlock ≠ some w1.heap.size) := fun e => by have := (H1.out.got.lt _ e).2; omega
  have HGs : Hid (w1.heap.size = w1.heap.size) := rfl
  have HBg : Hid (base ≤ w1.heap.size) := H1.out.size
  have hg0 : w1.heap.size = w1.heap.size := rfl
  generalize hgg : w1.heap.size = g at hg0 A00 q0 HGn HBg O2 ⊢
  clear hg0
  refine (isKind_any x _).mono ?_
  rintro e w3 ⟨rfl, rfl⟩
  obtain rfl : x = k := HK0.out
  have hkk : kndB (k : Int) = true := by simp [kndB]; omega
  have hk0' : ((k : Int) != 0) = true := by simp; omega
  rw [hkk]
  go_wp2_with fail
  clear O2 B2 q1 q0 H HV
  go_cut [3] from 33 to 44 (fun v wx => ∃ p2, v = .pointer (some ⟨p2, 0, none⟩) ∧ Six w1 wx p c g p2 a len cap l (at_ + nxN' (l.drop at_)) (.slice ga n gc) X (nxN2 (l.drop at_)) (nxC (l.drop at_)) (nxE2 (l.drop at_)))
  case first =>
    generalize hw3 : w3 = wz at *
    clear hw3 HE HPn HNn
    refine wp_region_held_drew (S := fun w' => w'.cell? ⟨p, 0, none⟩ = some (.pointer (some ⟨c, 0, none⟩))) (by kernel_rfl) ?_ (fun hHeld => ?_)
    · exact A00.out.r.cell 0
    have A0 : Hid (SixA w1 wz.drew p c g a len cap l (at_ + 1) 0 (.slice ga n gc) X) := A00.out.drewN 1
    clear A00
    generalize wz.drew = wd at *
    refine wpAnyH_take (i := 0) (oi := _) (v := ?va0) rfl (by kernel_rfl) (by kernel_rfl) (by kernel_rfl) (fun _ _ _ h => h) (Or.inl ⟨by rfl, ?hya0⟩) (by assumption) ?resta0
    case hya0 => (intro w hSw; (try dsimp only at hSw); go_split_ands; go_simp; try (with_reducible rfl))
    try simp only [List.getElem_toArray, List.getElem_cons_zero, List.getElem_cons_succ, Act.put, List.setIfInBounds_toArray, List.set_cons_zero, List.set_cons_succ]
    refine wpAnyH_take (i := 1) (oi := _) (v := ?va1) rfl (by kernel_rfl) (by kernel_rfl) (by kernel_rfl) (fun _ _ _ h => h) (Or.inl ⟨by rfl, ?hya1⟩) (by assumption) ?resta1
    case hya1 => (intro w hSw; (try dsimp only at hSw); go_split_ands; go_simp; try (with_reducible rfl))
    try simp only [List.getElem_toArray, List.getElem_cons_zero, List.getElem_cons_succ, Act.put, List.setIfInBounds_toArray, List.set_cons_zero, List.set_cons_succ]
    refine wpAnyH_take (i := 2) (oi := _) (v := ?va2) rfl (by kernel_rfl) (by kernel_rfl) (by kernel_rfl) (fun _ _ _ h => h) (Or.inl ⟨by rfl, ?hya2⟩) (by assumption) ?resta2
    case hya2 => (intro w hSw; (try dsimp only at hSw); go_split_ands; go_simp; try (with_reducible rfl))
    try simp only [List.getElem_toArray, List.getElem_cons_zero, List.getElem_cons_succ, Act.put, List.setIfInBounds_toArray, List.set_cons_zero, List.set_cons_succ]
    refine wpAnyH_take (i := 3) (oi := _) (v := ?va3) rfl (by kernel_rfl) (by kernel_rfl) (by kernel_rfl) (fun _ _ _ h => h) (Or.inl ⟨by rfl, ?hya3⟩) (by assumption) ?resta3
    case hya3 => (intro w hSw; (try dsimp only at hSw); go_split_ands; go_simp; try (with_reducible rfl))
    try simp only [List.getElem_toArray, List.getElem_cons_zero, List.getElem_cons_succ, Act.put, List.setIfInBounds_toArray, List.set_cons_zero, List.set_cons_succ]
    refine wpAnyH_take (i := 4) (oi := _) (v := ?va4) rfl (by kernel_rfl) (by kernel_rfl) (by kernel_rfl) (fun _ _ _ h => h) (Or.inl ⟨by rfl, ?hya4⟩) (by assumption) ?resta4
    case hya4 => (intro w hSw; (try dsimp only at hSw); go_split_ands; go_simp; try (with_reducible rfl))
    try simp only [List.getElem_toArray, List.getElem_cons_zero, List.getElem_cons_succ, Act.put, List.setIfInBounds_toArray, List.set_cons_zero, List.set_cons_succ]
    refine wpAnyH_take (i := 5) (oi := _) (v := ?va5) rfl (by kernel_rfl) (by kernel_rfl) (by kernel_rfl) (fun _ _ _ h => h) (Or.inl ⟨by rfl, ?hya5⟩) (by assumption) ?resta5
    case hya5 => (intro w hSw; (try dsimp only at hSw); go_split_ands; go_simp; try (with_reducible rfl))
    try simp only [List.getElem_toArray, List.getElem_cons_zero, List.getElem_cons_succ, Act.put, List.setIfInBounds_toArray, List.set_cons_zero, List.set_cons_succ]
    refine wpAnyH_take (i := 6) (oi := _) (v := ?va6) rfl (by kernel_rfl) (by kernel_rfl) (by kernel_rfl) (fun _ _ _ h => h) (Or.inl ⟨by rfl, ?hya6⟩) (by assumption) ?resta6
    case hya6 => (intro w hSw; (try dsimp only at hSw); go_split_ands; go_simp; try (with_reducible rfl))
    try simp only [List.getElem_toArray, List.getElem_cons_zero, List.getElem_cons_succ, Act.put, List.setIfInBounds_toArray, List.set_cons_zero, List.set_cons_succ]
    refine wpAnyH_take (i := 7) (oi := _) (v := ?va7) rfl (by kernel_rfl) (by kernel_rfl) (by kernel_rfl) (fun _ _ _ h => h) (Or.inl ⟨by rfl, ?hya7⟩) (by assumption) ?resta7
    case hya7 => (intro w hSw; (try dsimp only at hSw); go_split_ands; go_simp; try (with_reducible rfl))
    try simp only [List.getElem_toArray, List.getElem_cons_zero, List.getElem_cons_succ, Act.put, List.setIfInBounds_toArray, List.set_cons_zero, List.set_cons_succ]
    refine wpAnyH_ready (rs := [8, 11]) (by kernel_rfl) (by simp) ?_
    refine AllReadyH.cons (o := _) rfl (fun K hK => ?_) (AllReadyH.cons (o := _) rfl (fun K hK => ?_) AllReadyH.nil)
    · go_simp
      refine (take_2 _ c a len cap at_ l (A0.out.cur)).mono ?_
      rintro e w2 ⟨rfl, hc, hg, hs⟩
      have A2 := hid (A0.out.read hc hg)
      skip
      clear hc hg hs A0
      go_wp2_with fail
      refine hK.out _ _ (A2.out.r.cell 0) (fun hHeld => ?_)
      clear hK K
      try simp only [List.getElem_toArray, List.getElem_cons_zero, List.getElem_cons_succ, Act.put, List.setIfInBounds_toArray, List.set_cons_zero, List.set_cons_succ]
      have A0 := A2
      clear A2
      refine wpAnyH_ready (rs := [9, 11]) (by kernel_rfl) (by simp) ?_
      refine AllReadyH.cons (o := _) rfl (fun K hK => ?_) (AllReadyH.cons (o := _) rfl (fun K hK => ?_) AllReadyH.nil)
      · go_simp
        refine (within_2 _ c a len cap at_ l (A0.out.cur)).mono ?_
        rintro e w4 ⟨c2, a2, cap2, rfl, hc2, hc, hg, hcc, hw2⟩
        have B4 : Hid (SixB g w4 c2 a2 (nxN2 (l.drop at_)) cap2 (nxC (l.drop at_)) (nxE2 (l.drop at_))) := ⟨hc2, own_mono hw2 (by have := A0.out.gr.size; omega), by have := A0.out.gr.size; omega⟩
        skip
        have A4 := hid (A0.out.read hc hg)
        clear hc2 hc hg hcc hw2 A0
        go_wp2_with fail
        refine hK.out _ _ (A4.out.r.cell 0) (fun hHeld => ?_)
        clear hK K
        try simp only [List.getElem_toArray, List.getElem_cons_zero, List.getElem_cons_succ, Act.put, List.setIfInBounds_toArray, List.set_cons_zero, List.set_cons_succ]
        have A0 := A4
        clear A4
        refine wpAnyH_take (i := 10) (oi := _) (v := ?vb10) rfl (by kernel_rfl) (by kernel_rfl) (by kernel_rfl) (fun _ _ _ h => h) (Or.inl ⟨by rfl, ?hyb10⟩) (by assumption) ?restb10
        case hyb10 => (intro w hSw; (try dsimp only at hSw); go_split_ands; go_simp; try (with_reducible rfl))
        try simp only [List.getElem_toArray, List.getElem_cons_zero, List.getElem_cons_succ, Act.put, List.setIfInBounds_toArray, List.set_cons_zero, List.set_cons_succ]
        refine wpAnyH_ready (rs := [11]) (by kernel_rfl) (by simp) ?_
        refine AllReadyH.cons (o := _) rfl (fun K hK => ?_) AllReadyH.nil
        go_simp
        have BA := hid (balloc (Below.refl _ _) (.cells #[.pointer none, .slice none 0 0] 243) : Below w4.heap.size w4 (w4.alloc (.cells #[.pointer none, .slice none 0 0] 243)))
        have A5 := hid (A0.out.on BA.out)
        have B5 := hid (B4.out.on BA.out)
        clear B4
        have B4 := B5
        clear B5
        have R5 := hid (Row.new w4 243 #[.pointer none, .slice none 0 0])
        have HP2 : w1.heap.size ≤ w4.heap.size := A0.out.gr.size
        have HPn : p ≠ w4.heap.size := by have := A0.out.r.lt; omega
        clear BA A0
        go_wp2_with fail
        refine hK.out _ _ (A5.out.r.cell 0) (fun hHeld => ?_)
        clear hK K
        try simp only [List.getElem_toArray, List.getElem_cons_zero, List.getElem_cons_succ, Act.put, List.setIfInBounds_toArray, List.set_cons_zero, List.set_cons_succ]
        generalize hp2 : w4.heap.size = p2 at *
        generalize w4.alloc (.cells #[.pointer none, .slice none 0 0] 243) = w5 at *
        have A0 := A5
        clear A5 hp2
        refine wpAnyH_ready (rs := [12]) (by kernel_rfl) (by simp) ?_
        refine AllReadyH.cons (o := _) rfl (fun K hK => ?_) AllReadyH.nil
        refine step_st rfl 243 _ _ rfl p2 #[.pointer (some ⟨c2, 0, none⟩), .slice none 0 0] rfl rfl 243 #[.pointer none, .slice none 0 0] R5.out (by kernel_rfl) rfl (by simp [Value.oneCell']) ?_
        have A6 := hid (A0.out.set #[.pointer (some ⟨c2, 0, none⟩), .slice none 0 0] R5.out HP2 HPn)
        have B6 := hid (B4.out.set #[.pointer (some ⟨c2, 0, none⟩), .slice none 0 0] R5.out)
        have R6 := hid (R5.out.setRow #[.pointer (some ⟨c2, 0, none⟩), .slice none 0 0])
        clear A0 B4 R5
        refine hK.out _ _ (A6.out.r.cell 0) (fun hHeld => ?_)
        clear hK K
        try simp only [List.getElem_toArray, List.getElem_cons_zero, List.getElem_cons_succ, Act.put, List.setIfInBounds_toArray, List.set_cons_zero, List.set_cons_succ]
        refine wpAnyH_done (by kernel_rfl) ?_ _
        go_wp2_with fail
        go_meet
        case rel => exact ⟨p2, rfl, _, _, _, A6.out, B6.out, R6.out, HP2⟩
      · go_simp
        have BA := hid (balloc (Below.refl _ _) (.cells #[.pointer none, .slice none 0 0] 243) : Below w2.heap.size w2 (w2.alloc (.cells #[.pointer none, .slice none 0 0] 243)))
        have A5 := hid (A0.out.on BA.out)
        skip
        have R5 := hid (Row.new w2 243 #[.pointer none, .slice none 0 0])
        have HP2 : w1.heap.size ≤ w2.heap.size := A0.out.gr.size
        have HPn : p ≠ w2.heap.size := by have := A0.out.r.lt; omega
        clear BA A0
        go_wp2_with fail
        refine hK.out _ _ (A5.out.r.cell 0) (fun hHeld => ?_)
        clear hK K
        try simp only [List.getElem_toArray, List.getElem_cons_zero, List.getElem_cons_succ, Act.put, List.setIfInBounds_toArray, List.set_cons_zero, List.set_cons_succ]
        generalize hp2 : w2.heap.size = p2 at *
        generalize w2.alloc (.cells #[.pointer none, .slice none 0 0] 243) = w5 at *
        have A0 := A5
        clear A5 hp2
        refine wpAnyH_ready (rs := [9]) (by kernel_rfl) (by simp) ?_
        refine AllReadyH.cons (o := _) rfl (fun K hK => ?_) AllReadyH.nil
        go_simp
        refine (within_2 _ c a len cap at_ l (A0.out.cur)).mono ?_
        rintro e w4 ⟨c2, a2, cap2, rfl, hc2, hc, hg, hcc, hw2⟩
        have B4 : Hid (SixB g w4 c2 a2 (nxN2 (l.drop at_)) cap2 (nxC (l.drop at_)) (nxE2 (l.drop at_))) := ⟨hc2, own_mono hw2 (by have := A0.out.gr.size; omega), by have := A0.out.gr.size; omega⟩
        have R5b := hid (R5.out.kept hg (fun e => R5.out.ne A0.out.cur.row (by decide) (Option.some.inj e)))
        clear R5
        have R5 := R5b
        clear R5b
        have A4 := hid (A0.out.read hc hg)
        clear hc2 hc hg hcc hw2 A0
        go_wp2_with fail
        refine hK.out _ _ (A4.out.r.cell 0) (fun hHeld => ?_)
        clear hK K
        try simp only [List.getElem_toArray, List.getElem_cons_zero, List.getElem_cons_succ, Act.put, List.setIfInBounds_toArray, List.set_cons_zero, List.set_cons_succ]
        have A0 := A4
        clear A4
        refine wpAnyH_take (i := 10) (oi := _) (v := ?vc10) rfl (by kernel_rfl) (by kernel_rfl) (by kernel_rfl) (fun _ _ _ h => h) (Or.inl ⟨by rfl, ?hyc10⟩) (by assumption) ?restc10
        case hyc10 => (intro w hSw; (try dsimp only at hSw); go_split_ands; go_simp; try (with_reducible rfl))
        try simp only [List.getElem_toArray, List.getElem_cons_zero, List.getElem_cons_succ, Act.put, List.setIfInBounds_toArray, List.set_cons_zero, List.set_cons_succ]
        refine wpAnyH_ready (rs := [12]) (by kernel_rfl) (by simp) ?_
        refine AllReadyH.cons (o := _) rfl (fun K hK => ?_) AllReadyH.nil
        refine step_st rfl 243 _ _ rfl p2 #[.pointer (some ⟨c2, 0, none⟩), .slice none 0 0] rfl rfl 243 #[.pointer none, .slice none 0 0] R5.out (by kernel_rfl) rfl (by simp [Value.oneCell']) ?_
        have A6 := hid (A0.out.set #[.pointer (some ⟨c2, 0, none⟩), .slice none 0 0] R5.out HP2 HPn)
        have B6 := hid (B4.out.set #[.pointer (some ⟨c2, 0, none⟩), .slice none 0 0] R5.out)
        have R6 := hid (R5.out.setRow #[.pointer (some ⟨c2, 0, none⟩), .slice none 0 0])
        clear A0 B4 R5
        refine hK.out _ _ (A6.out.r.cell 0) (fun hHeld => ?_)
        clear hK K
        try simp only [List.getElem_toArray, List.getElem_cons_zero, List.getElem_cons_succ, Act.put, List.setIfInBounds_toArray, List.set_cons_zero, List.set_cons_succ]
        refine wpAnyH_done (by kernel_rfl) ?_ _
        go_wp2_with fail
        go_meet
        case rel => exact ⟨p2, rfl, _, _, _, A6.out, B6.out, R6.out, HP2⟩
    · go_simp
      have BA := hid (balloc (Below.refl _ _) (.cells #[.pointer none, .slice none 0 0] 243) : Below wd.heap.size wd (wd.alloc (.cells #[.pointer none, .slice none 0 0] 243)))
      have A5 := hid (A0.out.on BA.out)
      skip
      have R5 := hid (Row.new wd 243 #[.pointer none, .slice none 0 0])
      have HP2 : w1.heap.size ≤ wd.heap.size := A0.out.gr.size
      have HPn : p ≠ wd.heap.size := by have := A0.out.r.lt; omega
      clear BA A0
      go_wp2_with fail
      refine hK.out _ _ (A5.out.r.cell 0) (fun hHeld => ?_)
      clear hK K
      try simp only [List.getElem_toArray, List.getElem_cons_zero, List.getElem_cons_succ, Act.put, List.setIfInBounds_toArray, List.set_cons_zero, List.set_cons_succ]
      generalize hp2 : wd.heap.size = p2 at *
      generalize wd.alloc (.cells #[.pointer none, .slice none 0 0] 243) = w5 at *
      have A0 := A5
      clear A5 hp2
      refine wpAnyH_ready (rs := [8]) (by kernel_rfl) (by simp) ?_
      refine AllReadyH.cons (o := _) rfl (fun K hK => ?_) AllReadyH.nil
      go_simp
      refine (take_2 _ c a len cap at_ l (A0.out.cur)).mono ?_
      rintro e w2 ⟨rfl, hc, hg, hs⟩
      have A2 := hid (A0.out.read hc hg)
      have R5b := hid (R5.out.kept hg (fun e => R5.out.ne A0.out.cur.row (by decide) (Option.some.inj e)))
      clear R5
      have R5 := R5b
      clear R5b
      clear hc hg hs A0
      go_wp2_with fail
      refine hK.out _ _ (A2.out.r.cell 0) (fun hHeld => ?_)
      clear hK K
      try simp only [List.getElem_toArray, List.getElem_cons_zero, List.getElem_cons_succ, Act.put, List.setIfInBounds_toArray, List.set_cons_zero, List.set_cons_succ]
      have A0 := A2
      clear A2
      refine wpAnyH_ready (rs := [9]) (by kernel_rfl) (by simp) ?_
      refine AllReadyH.cons (o := _) rfl (fun K hK => ?_) AllReadyH.nil
      go_simp
      refine (within_2 _ c a len cap at_ l (A0.out.cur)).mono ?_
      rintro e w4 ⟨c2, a2, cap2, rfl, hc2, hc, hg, hcc, hw2⟩
      have B4 : Hid (SixB g w4 c2 a2 (nxN2 (l.drop at_)) cap2 (nxC (l.drop at_)) (nxE2 (l.drop at_))) := ⟨hc2, own_mono hw2 (by have := A0.out.gr.size; omega), by have := A0.out.gr.size; omega⟩
      have R5b := hid (R5.out.kept hg (fun e => R5.out.ne A0.out.cur.row (by decide) (Option.some.inj e)))
      clear R5
      have R5 := R5b
      clear R5b
      have A4 := hid (A0.out.read hc hg)
      clear hc2 hc hg hcc hw2 A0
      go_wp2_with fail
      refine hK.out _ _ (A4.out.r.cell 0) (fun hHeld => ?_)
      clear hK K
      try simp only [List.getElem_toArray, List.getElem_cons_zero, List.getElem_cons_succ, Act.put, List.setIfInBounds_toArray, List.set_cons_zero, List.set_cons_succ]
      have A0 := A4
      clear A4
      refine wpAnyH_take (i := 10) (oi := _) (v := ?vd10) rfl (by kernel_rfl) (by kernel_rfl) (by kernel_rfl) (fun _ _ _ h => h) (Or.inl ⟨by rfl, ?hyd10⟩) (by assumption) ?restd10
      case hyd10 => (intro w hSw; (try dsimp only at hSw); go_split_ands; go_simp; try (with_reducible rfl))
      try simp only [List.getElem_toArray, List.getElem_cons_zero, List.getElem_cons_succ, Act.put, List.setIfInBounds_toArray, List.set_cons_zero, List.set_cons_succ]
      refine wpAnyH_ready (rs := [12]) (by kernel_rfl) (by simp) ?_
      refine AllReadyH.cons (o := _) rfl (fun K hK => ?_) AllReadyH.nil
      refine step_st rfl 243 _ _ rfl p2 #[.pointer (some ⟨c2, 0, none⟩), .slice none 0 0] rfl rfl 243 #[.pointer none, .slice none 0 0] R5.out (by kernel_rfl) rfl (by simp [Value.oneCell']) ?_
      have A6 := hid (A0.out.set #[.pointer (some ⟨c2, 0, none⟩), .slice none 0 0] R5.out HP2 HPn)
      have B6 := hid (B4.out.set #[.pointer (some ⟨c2, 0, none⟩), .slice none 0 0] R5.out)
      have R6 := hid (R5.out.setRow #[.pointer (some ⟨c2, 0, none⟩), .slice none 0 0])
      clear A0 B4 R5
      refine hK.out _ _ (A6.out.r.cell 0) (fun hHeld => ?_)
      clear hK K
      try simp only [List.getElem_toArray, List.getElem_cons_zero, List.getElem_cons_succ, Act.put, List.setIfInBounds_toArray, List.set_cons_zero, List.set_cons_succ]
      refine wpAnyH_done (by kernel_rfl) ?_ _
      go_wp2_with fail
      go_meet
      case rel => exact ⟨p2, rfl, _, _, _, A6.out, B6.out, R6.out, HP2⟩

  case rest =>
    obtain ⟨p2, rfl, c2, a2, cap2, hA, hB6, hR, hp2⟩ := hcut
    have A6 := hid hA
    have B6 := hid hB6
    have R6 := hid hR
    clear hA hB6 hR
    have VX := hid (HV1.out.grown A6.out.gr (Nat.le_trans hB H1.out.hc))
    generalize hn2 : nxN2 (l.drop at_) = n2 at *
    generalize hlc : nxC (l.drop at_) = lc at *
    generalize he2 : nxE2 (l.drop at_) = e2 at *
    generalize hat2 : at_ + nxN' (l.drop at_) = at2 at *
    have HA2 := hid hat2
    clear hn2 hlc he2 hat2
    go_wp2_with fail
    refine (fill_any (B := B) (base := g) k hk10 wc wc p2 c2 g (.slice none 0 0) a2 n2 cap2 lc X e2 ⟨R6.out, B6.out.cur, B6.out.win, A6.out.o, HXo.out _ _, Below.refl _ _, B6.out.hc, Nat.le_refl _⟩ HXp.out VX.out (Nat.le_trans hB HBg.out)).mono ?_
    rintro e wf ⟨rfl, hf⟩
    obtain ⟨at3, er3, Xq, hfr, hfp, hfc⟩ := hf.out
    have F6 := hid hfr
    have HXqp := hid hfp
    have HCl := hid hfc
    have HXqa := hid hfr.own.ad
    have N6 := hid (six_nx H1.out A6.out (w' := wf) (by rw [hgg]; exact hfr.below))
    have V6 := hid (VX.out.rd (Below.refl g wc) hfr.below (Nat.le_trans hB HBg.out) hfr.size)
    clear hfr hfp hfc hf VX A6 B6 R6 H1 HV1 HXo HXp HXa HXk
    generalize hfe : filE k lc e2 = fe at *
    clear hfe
    go_wp2_with fail
    refine wp_region_held_drew (S := fun w' => w'.cell? ⟨p, 0, none⟩ = some (.pointer (some ⟨c, 0, none⟩)) ∧ w'.cell? ⟨p2, 0, none⟩ = some (.pointer (some ⟨c2, 0, none⟩))) (by kernel_rfl) ?_ (fun hHeld => ?_)
    · exact ⟨N6.out.r.cell 0, F6.out.r.cell 0⟩
    refine wpAnyH_take (i := 0) (oi := _) (v := ?ve0) rfl (by kernel_rfl) (by kernel_rfl) (by kernel_rfl) (fun _ _ _ h => h) (Or.inl ⟨by rfl, ?hye0⟩) (by assumption) ?reste0
    case hye0 => (intro w hSw; (try dsimp only at hSw); go_split_ands; go_simp; try (with_reducible rfl))
    try simp only [List.getElem_toArray, List.getElem_cons_zero, List.getElem_cons_succ, Act.put, List.setIfInBounds_toArray, List.set_cons_zero, List.set_cons_succ]
    refine wpAnyH_take (i := 1) (oi := _) (v := ?ve1) rfl (by kernel_rfl) (by kernel_rfl) (by kernel_rfl) (fun _ _ _ h => h) (Or.inl ⟨by rfl, ?hye1⟩) (by assumption) ?reste1
    case hye1 => (intro w hSw; (try dsimp only at hSw); go_split_ands; go_simp; try (with_reducible rfl))
    try simp only [List.getElem_toArray, List.getElem_cons_zero, List.getElem_cons_succ, Act.put, List.setIfInBounds_toArray, List.set_cons_zero, List.set_cons_succ]
    refine wpAnyH_take (i := 2) (oi := _) (v := ?ve2) rfl (by kernel_rfl) (by kernel_rfl) (by kernel_rfl) (fun _ _ _ h => h) (Or.inl ⟨by rfl, ?hye2⟩) (by assumption) ?reste2
    case hye2 => (intro w hSw; (try dsimp only at hSw); go_split_ands; go_simp; try (with_reducible rfl))
    try simp only [List.getElem_toArray, List.getElem_cons_zero, List.getElem_cons_succ, Act.put, List.setIfInBounds_toArray, List.set_cons_zero, List.set_cons_succ]
    refine wpAnyH_take (i := 3) (oi := _) (v := ?ve3) rfl (by kernel_rfl) (by kernel_rfl) (by kernel_rfl) (fun _ _ _ h => h) (Or.inl ⟨by rfl, ?hye3⟩) (by assumption) ?reste3
    case hye3 => (intro w hSw; (try dsimp only at hSw); go_split_ands; go_simp; try (with_reducible rfl))
    try simp only [List.getElem_toArray, List.getElem_cons_zero, List.getElem_cons_succ, Act.put, List.setIfInBounds_toArray, List.set_cons_zero, List.set_cons_succ]
    refine wpAnyH_take (i := 4) (oi := _) (v := ?ve4) rfl (by kernel_rfl) (by kernel_rfl) (by kernel_rfl) (fun _ _ _ h => h) (Or.inl ⟨by rfl, ?hye4⟩) (by assumption) ?reste4
    case hye4 => (intro w hSw; (try dsimp only at hSw); go_split_ands; go_simp; try (with_reducible rfl))
    try simp only [List.getElem_toArray, List.getElem_cons_zero, List.getElem_cons_succ, Act.put, List.setIfInBounds_toArray, List.set_cons_zero, List.set_cons_succ]
    refine wpAnyH_take (i := 5) (oi := _) (v := ?ve5) rfl (by kernel_rfl) (by kernel_rfl) (by kernel_rfl) (fun _ _ _ h => h) (Or.inl ⟨by rfl, ?hye5⟩) (by assumption) ?reste5
    case hye5 => (intro w hSw; (try dsimp only at hSw); go_split_ands; go_simp; try (with_reducible rfl))
    try simp only [List.getElem_toArray, List.getElem_cons_zero, List.getElem_cons_succ, Act.put, List.setIfInBounds_toArray, List.set_cons_zero, List.set_cons_succ]
    refine wpAnyH_ready (rs := [6]) (by kernel_rfl) (by simp) ?_
    refine AllReadyH.cons (o := _) rfl (fun K hK => ?_) AllReadyH.nil
    go_simp
    refine (close_any _ c2 a2 n2 cap2 at3 lc er3 (F6.out.cur.drewN _)).mono ?_
    rintro e w7 ⟨rfl, q, rfl⟩
    rw [HCl.out]
    go_wp2_with fail
    refine hK.out _ _ ⟨N6.out.r.cell 0, F6.out.r.cell 0⟩ (fun hHeld => ?_)
    clear hK K
    try simp only [List.getElem_toArray, List.getElem_cons_zero, List.getElem_cons_succ, Act.put, List.setIfInBounds_toArray, List.set_cons_zero, List.set_cons_succ]
    refine wpAnyH_ready (rs := [7]) (by kernel_rfl) (by simp) ?_
    refine AllReadyH.cons (o := _) rfl (fun K hK => ?_) AllReadyH.nil
    go_simp
    refine (spoil_any _ c a len cap at2 l e2 fe (N6.out.cur.drewN _)).mono ?_
    rintro e w8 ⟨rfl, hc, hg, hs⟩
    have hg2 := (grownBy_drewN wf _ (some c)).trans hg
    have N0 := hid (N6.out.read hc hg2)
    have hcf := N6.out.cur.row
    have O0 := hid (F6.out.row.kept hg2 (fun e => F6.out.row.ne hcf (by decide) (Option.some.inj e)))
    have W0 := hid ((F6.out.own.mono HBg.out).row hcf (by decide) (by decide) hg2)
    have V0 := hid (V6.out.rd N6.out.below N0.out.below hB N0.out.size)
    have PP := hid (F6.out.r.kept hg2 (fun e => F6.out.r.ne hcf (by decide) (Option.some.inj e)))
    clear hc hg hs hg2 hcf
    go_wp2_with fail
    refine hK.out _ _ ⟨N0.out.r.cell 0, PP.out.cell 0⟩ (fun hHeld => ?_)
    clear hK K
    try simp only [List.getElem_toArray, List.getElem_cons_zero, List.getElem_cons_succ, Act.put, List.setIfInBounds_toArray, List.set_cons_zero, List.set_cons_succ]
    refine wpAnyH_done (by kernel_rfl) ?_ _
    go_wp2_with fail
    clear PP N6 F6 V6

    have HGne := HGn
    generalize her2 : spE e2 fe = er2 at N0 HE
    generalize w8 = wz at *
    refine wp_region_held_drew (S := fun w' => w'.cell? ⟨p, 0, none⟩ = some (.pointer (some ⟨c, 0, none⟩)) ∧ Hid (Row w' g 140 Xq.cs)) (by kernel_rfl) ?_ (fun hHeld => ?_)
    · exact ⟨N0.out.r.cell 0, O0.out⟩
    refine wpAnyH_take (i := 0) (oi := _) (v := ?vg0) rfl (by kernel_rfl) (by kernel_rfl) (by kernel_rfl) (fun _ _ _ h => h) (Or.inl ⟨by rfl, ?hyg0⟩) (by assumption) ?restg0
    case hyg0 => (intro w hSw; (try dsimp only at hSw); go_split_ands; go_simp; try (with_reducible rfl))
    try simp only [List.getElem_toArray, List.getElem_cons_zero, List.getElem_cons_succ, Act.put, List.setIfInBounds_toArray, List.set_cons_zero, List.set_cons_succ]
    refine wpAnyH_take (i := 1) (oi := _) (v := ?vg1) rfl (by kernel_rfl) (by kernel_rfl) (by kernel_rfl) (fun _ _ _ h => h) (Or.inl ⟨by rfl, ?hyg1⟩) (by assumption) ?restg1
    case hyg1 => (intro w hSw; (try dsimp only at hSw); go_split_ands; go_simp; try (with_reducible rfl))
    try simp only [List.getElem_toArray, List.getElem_cons_zero, List.getElem_cons_succ, Act.put, List.setIfInBounds_toArray, List.set_cons_zero, List.set_cons_succ]
    refine wpAnyH_take (i := 2) (oi := _) (v := ?vg2) rfl (by kernel_rfl) (by kernel_rfl) (by kernel_rfl) (fun _ _ _ h => h) (Or.inl ⟨by rfl, ?hyg2⟩) (by assumption) ?restg2
    case hyg2 => (intro w hSw; (try dsimp only at hSw); go_split_ands; go_simp; try (with_reducible rfl))
    try simp only [List.getElem_toArray, List.getElem_cons_zero, List.getElem_cons_succ, Act.put, List.setIfInBounds_toArray, List.set_cons_zero, List.set_cons_succ]
    refine wpAnyH_take (i := 3) (oi := _) (v := ?vg3) rfl (by kernel_rfl) (by kernel_rfl) (by kernel_rfl) (fun _ _ _ h => h) (Or.inl ⟨by rfl, ?hyg3⟩) (by assumption) ?restg3
    case hyg3 => (intro w hSw; (try dsimp only at hSw); go_split_ands; go_simp; try (with_reducible rfl))
    try simp only [List.getElem_toArray, List.getElem_cons_zero, List.getElem_cons_succ, Act.put, List.setIfInBounds_toArray, List.set_cons_zero, List.set_cons_succ]
    refine wpAnyH_take (i := 4) (oi := _) (v := .agg Xq.cs) rfl (by kernel_rfl) (by kernel_rfl) (by kernel_rfl) (fun _ _ _ h => h) (yldOo o43 (by rfl) _ rfl g 0 rfl Xq HXqa.out (fun w h => (h.2).out.part)) (by assumption) ?_
    try simp only [List.getElem_toArray, List.getElem_cons_zero, List.getElem_cons_succ, Act.put, List.setIfInBounds_toArray, List.set_cons_zero, List.set_cons_succ]
    refine wpAnyH_ready (rs := [5]) (by kernel_rfl) (by simp) ?_
    refine AllReadyH.cons (o := _) rfl (fun K hK => ?_) AllReadyH.nil
    go_simp
    refine (optCheck_any Xq _ (W0.out.ok.drewN 1) (V0.out.drewN 1)).mono ?_
    rintro e w6 ⟨rfl, hb6⟩
    have bb := bthen (bdrew (Below.refl wz.heap.size wz) 1) hb6
    have N6 := hid (N0.out.on bb)
    have O6 := hid (O0.out.below bb)
    have W6 := hid (W0.out.below bb)
    have HCk : Hid (chkP Xq.p = chkP Xq.p) := rfl
    clear hb6 bb N0 O0 W0
    generalize hck : chkP Xq.p = ck at *
    have HCK := hid hck
    clear hck HCk
    go_wp2_with fail
    refine hK.out _ _ ⟨N6.out.r.cell 0, O6.out⟩ (fun hHeld => ?_)
    clear hK K
    try simp only [List.getElem_toArray, List.getElem_cons_zero, List.getElem_cons_succ, Act.put, List.setIfInBounds_toArray, List.set_cons_zero, List.set_cons_succ]
    refine wpAnyH_ready (rs := [6]) (by kernel_rfl) (by simp) ?_
    refine AllReadyH.cons (o := _) rfl (fun K hK => ?_) AllReadyH.nil
    go_simp
    refine (spoil_any _ c a len cap at2 l er2 ck N6.out.cur).mono ?_
    rintro e w7 ⟨rfl, hc, hg, hs⟩
    have N7 := hid (N6.out.read hc hg)
    have O7 := hid (O6.out.kept hg (fun e => O6.out.ne N6.out.cur.row (by decide) (Option.some.inj e)))
    have W7 := hid (W6.out.row N6.out.cur.row (by decide) (by decide) hg)
    clear hc hg hs N6 O6 W6
    go_wp2_with fail
    refine hK.out _ _ ⟨N7.out.r.cell 0, O7.out⟩ (fun hHeld => ?_)
    clear hK K
    try simp only [List.getElem_toArray, List.getElem_cons_zero, List.getElem_cons_succ, Act.put, List.setIfInBounds_toArray, List.set_cons_zero, List.set_cons_succ]
    refine wpAnyH_done (by kernel_rfl) ?_ _
    go_wp2_with fail

    refine wp_region_held_drew (S := fun w' => w'.cell? ⟨p, 0, none⟩ = some (.pointer (some ⟨c, 0, none⟩)) ∧ Hid (Row w' g 140 Xq.cs)) (by kernel_rfl) ?_ (fun hHeld => ?_)
    · exact ⟨N7.out.r.cell 0, O7.out⟩
    have S8 : Hid (Row w7.drew g 140 Xq.cs) := hid (O7.out.drewN 1)
    have N8a : Hid (NxAt base w w7.drew p c a len cap l at2 (spE er2 ck) (.slice ga n gc) L) := hid (N7.out.drewN 1)
    have W8a : Hid (Own2 base w7.drew Xq) := hid (W7.out.below (bdrew (Below.refl _ _) 1))
    clear N7 O7 W7
    generalize w7.drew = wd at *
    have O8a := S8
    refine wpAnyH_take (i := 0) (oi := _) (v := ?vh0) rfl (by kernel_rfl) (by kernel_rfl) (by kernel_rfl) (fun _ _ _ h => h) (Or.inl ⟨by rfl, ?hyh0⟩) (by assumption) ?resth0
    case hyh0 => (intro w hSw; (try dsimp only at hSw); go_split_ands; go_simp; try (with_reducible rfl))
    try simp only [List.getElem_toArray, List.getElem_cons_zero, List.getElem_cons_succ, Act.put, List.setIfInBounds_toArray, List.set_cons_zero, List.set_cons_succ]
    refine wpAnyH_take (i := 1) (oi := _) (v := ?vh1) rfl (by kernel_rfl) (by kernel_rfl) (by kernel_rfl) (fun _ _ _ h => h) (Or.inl ⟨by rfl, ?hyh1⟩) (by assumption) ?resth1
    case hyh1 => (intro w hSw; (try dsimp only at hSw); go_split_ands; go_simp; try (with_reducible rfl))
    try simp only [List.getElem_toArray, List.getElem_cons_zero, List.getElem_cons_succ, Act.put, List.setIfInBounds_toArray, List.set_cons_zero, List.set_cons_succ]
    refine wpAnyH_take (i := 2) (oi := _) (v := ?vh2) rfl (by kernel_rfl) (by kernel_rfl) (by kernel_rfl) (fun _ _ _ h => h) (Or.inl ⟨by rfl, ?hyh2⟩) (by assumption) ?resth2
    case hyh2 => (intro w hSw; (try dsimp only at hSw); go_split_ands; go_simp; try (with_reducible rfl))
    try simp only [List.getElem_toArray, List.getElem_cons_zero, List.getElem_cons_succ, Act.put, List.setIfInBounds_toArray, List.set_cons_zero, List.set_cons_succ]
    refine wpAnyH_take (i := 3) (oi := _) (v := ?vh3) rfl (by kernel_rfl) (by kernel_rfl) (by kernel_rfl) (fun _ _ _ h => h) (Or.inl ⟨by rfl, ?hyh3⟩) (by assumption) ?resth3
    case hyh3 => (intro w hSw; (try dsimp only at hSw); go_split_ands; go_simp; try (with_reducible rfl))
    try simp only [List.getElem_toArray, List.getElem_cons_zero, List.getElem_cons_succ, Act.put, List.setIfInBounds_toArray, List.set_cons_zero, List.set_cons_succ]
    refine wpAnyH_take (i := 5) (oi := _) (v := .agg Xq.cs) rfl (by kernel_rfl) (by kernel_rfl) (by kernel_rfl) (fun _ _ _ h => h) (yldOo o43 (by rfl) _ rfl g 0 rfl Xq HXqa.out (fun w h => (h.2).out.part)) (by assumption) ?_
    try simp only [List.getElem_toArray, List.getElem_cons_zero, List.getElem_cons_succ, Act.put, List.setIfInBounds_toArray, List.set_cons_zero, List.set_cons_succ]
    refine wpAnyH_ready (rs := [4, 6]) (by kernel_rfl) (by simp) ?_
    refine AllReadyH.cons (o := _) rfl (fun K hK => ?_) (AllReadyH.cons (o := _) rfl (fun K hK => ?_) AllReadyH.nil)
    · have cn : wd.cell? ⟨p, 1, none⟩ = some (.slice ga n gc) := (N8a.out.r.cell 1)
      go_simp
      go_wp2_with fail
      refine hK.out _ _ ⟨N8a.out.r.cell 0, S8.out⟩ (fun hHeld => ?_)
      clear hK K
      try simp only [List.getElem_toArray, List.getElem_cons_zero, List.getElem_cons_succ, Act.put, List.setIfInBounds_toArray, List.set_cons_zero, List.set_cons_succ]
      clear cn
      refine wpAnyH_ready (rs := [6]) (by kernel_rfl) (by simp) ?_
      refine AllReadyH.cons (o := _) rfl (fun K hK => ?_) AllReadyH.nil
      have BA := hid (balloc (Below.refl _ _) (.cells Xq.cs 140) : Below wd.heap.size wd (wd.alloc (.cells Xq.cs 140)))
      have N8 := hid (N8a.out.on BA.out)
      have O8 := hid (O8a.out.below BA.out)
      have W8 := hid (W8a.out.below BA.out)
      have RXq : Hid (Row (wd.alloc (.cells Xq.cs 140)) wd.heap.size 140 Xq.cs) := hid (Row.new wd 140 Xq.cs)
      clear BA
      refine step_bsO s23 rfl _ rfl Xq HXqa.out rfl ?_
      have S8 := O8
      refine hK.out _ _ ⟨N8.out.r.cell 0, S8.out⟩ (fun hHeld => ?_)
      clear hK K
      try simp only [List.getElem_toArray, List.getElem_cons_zero, List.getElem_cons_succ, Act.put, List.setIfInBounds_toArray, List.set_cons_zero, List.set_cons_succ]
      refine wpAnyH_ready (rs := [7]) (by kernel_rfl) (by simp) ?_
      refine AllReadyH.cons (o := _) rfl (fun K hK => ?_) AllReadyH.nil
      refine step_pushO s23 rfl _ _ rfl base n wd.heap.size (.slice ga n gc) (ocs L) rfl (by have := N8.out.got; rwa [HN.out] at this) Xq HXqa.out rfl (by exact RXq.out) (by exact N8.out.size) (by omega) ?_
      intro v4 w9 hown4 hg4
      obtain ⟨na, nc, rfl⟩ := owns_len hown4
      have N10 := hid (NxAt.push N8.out hg4 Xq W8.out (.slice na (n + 1) nc) (by rw [HN.out]; exact hown4))
      obtain ⟨g1, _, _, _, _⟩ := N8.out.app hg4
      have P9 := hid g1
      have O9 := hid (O8.out.kept hg4 (fun e => HGne.out e.symm))
      clear hown4 hg4 g1 N8 O8 W8 RXq S8
      refine hK.out _ _ ⟨P9.out.cell 0, O9.out⟩ (fun hHeld => ?_)
      clear hK K
      try simp only [List.getElem_toArray, List.getElem_cons_zero, List.getElem_cons_succ, Act.put, List.setIfInBounds_toArray, List.set_cons_zero, List.set_cons_succ]
      have f1 := P9.out.frozen 1
      have cn : w9.cell? ⟨p, 1, none⟩ = some (.slice ga n gc) := P9.out.cell 1
      refine wpAnyH_take (i := 8) (oi := _) (v := ?vi8) rfl (by kernel_rfl) (by kernel_rfl) (by kernel_rfl) (fun _ _ _ h => h) (Or.inl ⟨by rfl, ?hyi8⟩) (by assumption) ?resti8
      case hyi8 => (intro w hSw; (try dsimp only at hSw); go_split_ands; go_simp; try (with_reducible rfl))
      try simp only [List.getElem_toArray, List.getElem_cons_zero, List.getElem_cons_succ, Act.put, List.setIfInBounds_toArray, List.set_cons_zero, List.set_cons_succ]
      refine wpAnyH_take (i := 9) (oi := _) (v := ?vi9) rfl (by kernel_rfl) (by kernel_rfl) (by kernel_rfl) (fun _ _ _ h => h) (Or.inl ⟨by rfl, ?hyi9⟩) (by assumption) ?resti9
      case hyi9 => (intro w hSw; (try dsimp only at hSw); go_split_ands; go_simp; try (with_reducible rfl))
      try simp only [List.getElem_toArray, List.getElem_cons_zero, List.getElem_cons_succ, Act.put, List.setIfInBounds_toArray, List.set_cons_zero, List.set_cons_succ]
      refine wpAnyH_ready (rs := [10]) (by kernel_rfl) (by simp) ?_
      refine AllReadyH.cons (o := _) rfl (fun K hK => ?_) AllReadyH.nil
      go_simp
      go_wp2_with fail
      refine hK.out _ _ ⟨(P9.out.set 1 _).cell 0, O9.out.other _ _ (O9.out.ne P9.out (by decide))⟩ (fun hHeld => ?_)
      clear hK K
      try simp only [List.getElem_toArray, List.getElem_cons_zero, List.getElem_cons_succ, Act.put, List.setIfInBounds_toArray, List.set_cons_zero, List.set_cons_succ]
      refine wpAnyH_done (by kernel_rfl) ?_ _
      go_wp2_with fail
      go_returns
      refine ⟨rfl, at2, _, _, L ++ [Xq], N10.out, ?_, ?_, ?_⟩
      · rw [HN.out, HE.out, ← HCK.out, HXqp.out]
      · rw [List.length_append, HN.out]; simp; omega
      · intro _
        refine ⟨?_, ?_⟩
        · rw [pos, List.map_append, HPn.out, ← HXqp.out]; rfl
        · rw [HNn.out, HA2.out]

    · have BA := hid (balloc (Below.refl _ _) (.cells Xq.cs 140) : Below wd.heap.size wd (wd.alloc (.cells Xq.cs 140)))
      have N8 := hid (N8a.out.on BA.out)
      have O8 := hid (O8a.out.below BA.out)
      have W8 := hid (W8a.out.below BA.out)
      have RXq : Hid (Row (wd.alloc (.cells Xq.cs 140)) wd.heap.size 140 Xq.cs) := hid (Row.new wd 140 Xq.cs)
      clear BA
      refine step_bsO s23 rfl _ rfl Xq HXqa.out rfl ?_
      have S8 := O8
      refine hK.out _ _ ⟨N8.out.r.cell 0, S8.out⟩ (fun hHeld => ?_)
      clear hK K
      try simp only [List.getElem_toArray, List.getElem_cons_zero, List.getElem_cons_succ, Act.put, List.setIfInBounds_toArray, List.set_cons_zero, List.set_cons_succ]
      refine wpAnyH_ready (rs := [4]) (by kernel_rfl) (by simp) ?_
      refine AllReadyH.cons (o := _) rfl (fun K hK => ?_) AllReadyH.nil
      have cn : (wd.alloc (.cells Xq.cs 140)).cell? ⟨p, 1, none⟩ = some (.slice ga n gc) := (N8.out.r.cell 1)
      go_simp
      go_wp2_with fail
      refine hK.out _ _ ⟨N8.out.r.cell 0, S8.out⟩ (fun hHeld => ?_)
      clear hK K
      try simp only [List.getElem_toArray, List.getElem_cons_zero, List.getElem_cons_succ, Act.put, List.setIfInBounds_toArray, List.set_cons_zero, List.set_cons_succ]
      clear cn
      refine wpAnyH_ready (rs := [7]) (by kernel_rfl) (by simp) ?_
      refine AllReadyH.cons (o := _) rfl (fun K hK => ?_) AllReadyH.nil
      refine step_pushO s23 rfl _ _ rfl base n wd.heap.size (.slice ga n gc) (ocs L) rfl (by have := N8.out.got; rwa [HN.out] at this) Xq HXqa.out rfl (by exact RXq.out) (by exact N8.out.size) (by omega) ?_
      intro v4 w9 hown4 hg4
      obtain ⟨na, nc, rfl⟩ := owns_len hown4
      have N10 := hid (NxAt.push N8.out hg4 Xq W8.out (.slice na (n + 1) nc) (by rw [HN.out]; exact hown4))
      obtain ⟨g1, _, _, _, _⟩ := N8.out.app hg4
      have P9 := hid g1
      have O9 := hid (O8.out.kept hg4 (fun e => HGne.out e.symm))
      clear hown4 hg4 g1 N8 O8 W8 RXq S8
      refine hK.out _ _ ⟨P9.out.cell 0, O9.out⟩ (fun hHeld => ?_)
      clear hK K
      try simp only [List.getElem_toArray, List.getElem_cons_zero, List.getElem_cons_succ, Act.put, List.setIfInBounds_toArray, List.set_cons_zero, List.set_cons_succ]
      have f1 := P9.out.frozen 1
      have cn : w9.cell? ⟨p, 1, none⟩ = some (.slice ga n gc) := P9.out.cell 1
      refine wpAnyH_take (i := 8) (oi := _) (v := ?vj8) rfl (by kernel_rfl) (by kernel_rfl) (by kernel_rfl) (fun _ _ _ h => h) (Or.inl ⟨by rfl, ?hyj8⟩) (by assumption) ?restj8
      case hyj8 => (intro w hSw; (try dsimp only at hSw); go_split_ands; go_simp; try (with_reducible rfl))
      try simp only [List.getElem_toArray, List.getElem_cons_zero, List.getElem_cons_succ, Act.put, List.setIfInBounds_toArray, List.set_cons_zero, List.set_cons_succ]
      refine wpAnyH_take (i := 9) (oi := _) (v := ?vj9) rfl (by kernel_rfl) (by kernel_rfl) (by kernel_rfl) (fun _ _ _ h => h) (Or.inl ⟨by rfl, ?hyj9⟩) (by assumption) ?restj9
      case hyj9 => (intro w hSw; (try dsimp only at hSw); go_split_ands; go_simp; try (with_reducible rfl))
      try simp only [List.getElem_toArray, List.getElem_cons_zero, List.getElem_cons_succ, Act.put, List.setIfInBounds_toArray, List.set_cons_zero, List.set_cons_succ]
      refine wpAnyH_ready (rs := [10]) (by kernel_rfl) (by simp) ?_
      refine AllReadyH.cons (o := _) rfl (fun K hK => ?_) AllReadyH.nil
      go_simp
      go_wp2_with fail
      refine hK.out _ _ ⟨(P9.out.set 1 _).cell 0, O9.out.other _ _ (O9.out.ne P9.out (by decide))⟩ (fun hHeld => ?_)
      clear hK K
      try simp only [List.getElem_toArray, List.getElem_cons_zero, List.getElem_cons_succ, Act.put, List.setIfInBounds_toArray, List.set_cons_zero, List.set_cons_succ]
      refine wpAnyH_done (by kernel_rfl) ?_ _
      go_wp2_with fail
      go_returns
      refine ⟨rfl, at2, _, _, L ++ [Xq], N10.out, ?_, ?_, ?_⟩
      · rw [HN.out, HE.out, ← HCK.out, HXqp.out]
      · rw [List.length_append, HN.out]; simp; omega
      · intro _
        refine ⟨?_, ?_⟩
        · rw [pos, List.map_append, HPn.out, ← HXqp.out]; rfl
        · rw [HNn.out, HA2.out]


end Go.Proofs.YtbklpelikaapoaaGreatDoor
