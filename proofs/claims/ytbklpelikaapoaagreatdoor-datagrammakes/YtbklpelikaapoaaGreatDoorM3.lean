/- The bytes of an option that is right: written, Size. · The bytes of options: Encode. · Control messages, plainly: codes, parts, fields; what is wrong with a message, and its bytes. · Slices of options of the call's own: how they are made and put behind, in regions that draw their order too. · Options of some kinds: slices.Index, Contains, IndexFunc, oneOf; slices.Clone, copied. · An option with lists of its own: slices.Clone, copied. · Control messages in memory. · The table of codes in memory; isCode, Word, May, flag. · The values of a message: the array, valuesOf. -/
import Derived.Test.YtbklpelikaapoaaGreatDoorM2
import Derived.Great.BuildSlice
namespace Go.Proofs.YtbklpelikaapoaaGreatDoor
open Go.ChangeShapes Go.WideShapes Go.ChangeAt Go.RowKit Go.Deep
set_option linter.unusedVariables false
set_option linter.unusedSimpArgs false

/-- What is known of an option that is right. -/
theorem chk0 {o : Po} (h : chkP o = 0) : kndB o.k = true ∧ frmB o.k.toNat o = true ∧ widB (nmb (prt o.k.toNat)) o.n = true ∧ o.t.length ≤ 64 := by
  unfold chkP at h
  split at h
  · omega
  · rename_i h1
    split at h
    · omega
    · rename_i h2
      split at h
      · omega
      · rename_i h3
        split at h
        · omega
        · rename_i h4
          exact ⟨by simpa using h1, by simpa using h2, by simpa using h3, by omega⟩
theorem knd_nat {n : Int} (h : kndB n = true) : ∃ k : Nat, n = k ∧ k < 10 := by
  have : 0 ≤ n ∧ n < 10 := by simpa [kndB] using h
  exact ⟨n.toNat, by omega, by omega⟩
theorem pads_num {n : List Int} (hl : n.length = 1) (h : widB (nmb (prt 1)) n = true) : ∃ m : Nat, n = [(m : Int)] ∧ m ≤ 255 := by
  match n, hl with
  | [x], _ =>
    have : 0 ≤ x ∧ x ≤ 255 := by
      have h0 : nmb (prt 1) = [(1, 255)] := by decide
      rw [h0] at h
      simpa [widB, inB, List.range_succ] using h
    exact ⟨x.toNat, by simp; omega, by omega⟩
theorem conP_le {o : Po} {k : Nat} (hk : k < 10) (hok : o.k = k) (h : chkP o = 0) (ha : o.ad.length = 16) : (conP k o).length ≤ 255 := by
  obtain ⟨h1, h2, h3, h4⟩ := chk0 h
  rw [hok, Int.toNat_natCast] at h2 h3
  unfold conP
  split
  · rename_i hz
    have : k = 1 := by simpa [zer] using hz
    subst this
    obtain ⟨m, hm, hm2⟩ := pads_num (frm_len h2) h3
    rw [hm]; simp; omega
  · have := part_len hk (prt k).length (Nat.le_refl _) o.n o.ad ha
    rw [List.take_length] at this
    rw [List.length_append]; omega
/-- The bytes of an option. -/
def encP (o : Po) : List Int := if o.k = 0 then [0] else o.k :: ((conP o.k.toNat o).length : Int) :: conP o.k.toNat o
theorem optContent_any {B : Nat} (o : Ov) (k : Nat) (hk : k < 10) (hok : o.k = k) (w : World) (ho : o.ok w) (hV : Vars B w) (hc : chkP o.p = 0) :
    Calls Tryz.prog 156 #[.agg o.cs] w fun e w' => ∃ v, e = .returned v ∧ w'.ownsRow w.heap.size 5 1 v (conP k o.p).length (u8s (conP k o.p)) ∧ Below w.heap.size w w' := by
  obtain ⟨h1, h2, h3, h4⟩ := chk0 hc
  have hk' : o.p.k.toNat = k := by rw [show o.p.k = o.k from rfl, hok]; rfl
  rw [hk'] at h2 h3
  have hln : o.n.n = (nmb (prt k)).length := by rw [← ho.n.1]; exact frm_len h2
  cases hz : zer k
  · have e : conP k o.p = partsB (prt k) o.n.l o.ad ++ o.t.l := by rw [conP, hz]; rfl
    rw [e]
    exact content_parts o k hk hok hz w ho hV hln h3 (by rw [← ho.t.1]; exact h4)
  · have : k = 1 := by simpa [zer] using hz
    subst this
    obtain ⟨m, hm, hm2⟩ := pads_num (frm_len h2) h3
    have hm' : o.n.l = [(m : Int)] := hm
    have e : conP 1 o.p = List.replicate m 0 := by rw [conP, hz, if_pos rfl, hm]; simp
    rw [e, List.length_replicate]
    exact content_zeros o hok w ho hV m hm' hm2
/-- A literal is a row of the call's own. -/
theorem owns_lit {base : Nat} {e : TypeId} {size : Nat} (w : World) (cur : Array Value) (n : Nat) (hb : base ≤ w.heap.size) (hm : n ≤ maxLen) (hs : cur.size = n * size) :
    (w.alloc (.cells cur e)).ownsRow base e size (.slice (some ⟨w.heap.size, 0, none⟩) n n) n cur.toList :=
  ⟨by simpa using hs, .inr ⟨w.heap.size, n, cur, rfl, hb, heap_alloc_new w _, Nat.le_refl _, hm, hs, List.take_of_length_le (by simp [hs])⟩⟩
set_option maxHeartbeats 800000 in
theorem optWritten_any {B : Nat} (o : Ov) (w : World) (ho : o.ok w) (hV : Vars B w) (hc : chkP o.p = 0) :
    Calls Tryz.prog 140 #[.agg o.cs] w fun e w' => ∃ v, e = .returned v ∧ w'.ownsRow w.heap.size 5 1 v (encP o.p).length (u8s (encP o.p)) ∧ Below w.heap.size w w' := by
  have HR0 := hid (Row.new w 140 o.cs)
  have B0 := hid (balloc (Below.refl w.heap.size w) (.cells o.cs 140))
  have V0 := hid (hV.below B0.out)
  have O0 := hid (ho.below B0.out)
  have HA := hid ho.ad
  have HC := hid hc
  obtain ⟨k, hok, hk⟩ := knd_nat (chk0 hc).1
  have hok : o.k = k := hok
  clear hV ho hc
  by_cases hk0 : k = 0
  · have HE : Hid (encP o.p = [0]) := by rw [Hid, encP, if_pos (by rw [show o.p.k = o.k from rfl, hok, hk0]; rfl)]
    subst hk0
    go_enter Tryz.func140, Tryz.ntmps140
    go_upto_region 1 with fail
    generalize hw1 : w.alloc (.cells o.cs 140) = w1 at *
    have c0 := (HR0.out.cell 0).trans o.at0
    rw [hok] at c0
    have c0 : w1.cell? ⟨w.heap.size, 0, none⟩ = some (.int .i64 0) := c0
    have OW := hid (owns_lit (e := 5) (size := 1) (base := w.heap.size) w1 #[.int .u8 0] 1 B0.out.size (by decide) (by simp))
    have B1 := hid (balloc B0.out (.cells #[.int .u8 0] 5))
    clear hw1
    go_wp2_with fail
    go_ret
    refine ⟨_, rfl, ?_, B1.out⟩
    rw [HE.out]
    exact OW.out
  · have HE : Hid (encP o.p = (k : Int) :: ((conP k o.p).length : Int) :: conP k o.p) := by rw [Hid, encP, if_neg (by rw [show o.p.k = o.k from rfl, hok]; omega), show o.p.k = o.k from rfl, hok]; rfl
    have hle := conP_le hk (o := o.p) hok HC.out HA.out.1
    have hk0' : ((k : Int) == 0) = false := by simp; omega
    generalize hcn : (conP k o.p).length = cl at *
    have HCN := hid hcn
    have HF : Hid (fitsB 1 [(k : Int), (cl : Int)] = true) := by rw [Hid]; simp [fitsB, sizeB, okB, top]; omega
    have HBY : Hid (bytesOf 1 [(k : Int), (cl : Int)] = [(k : Int), (cl : Int)]) := by rw [Hid]; simp [bytesOf, digs]; omega
    have HK := hid hok
    go_enter Tryz.func140, Tryz.ntmps140
    go_upto_region 1 with fail
    generalize hw1 : w.alloc (.cells o.cs 140) = w1 at *
    have c0 := (HR0.out.cell 0).trans o.at0
    rw [HK.out] at c0
    clear hw1 hok hk0 hcn
    go_wp2_with (refine ldOo o43 _ rfl rfl w.heap.size 0 rfl o HA.out HR0.out.part ?_)
    refine (optContent_any o k hk HK.out _ O0.out V0.out HC.out).mono ?_
    rintro e w2 ⟨v2, rfl, hown2, hb2⟩
    obtain ⟨a2, cap2, rfl, hl2, _⟩ := owns_lies hown2
    rw [HCN.out] at hl2 ⊢
    have R2 := hid (HR0.out.below hb2)
    have B2 := hid (bthen B0.out hb2)
    have L2 := hid hl2
    have e0 := (R2.out.cell 0).trans o.at0
    rw [HK.out] at e0
    clear hb2 hown2 hl2 c0 B0 HR0 V0 O0
    have L3 := hid (lies_new .i64 w2 #[.int .i64 k, .int .i64 cl] 3 [(k : Int), (cl : Int)] rfl (by simp))
    have B3 := hid (balloc (Below.refl w2.heap.size w2) (.cells #[.int .i64 k, .int .i64 cl] 3))
    go_wp2_with fail
    generalize hw3 : w2.alloc (.cells #[.int .i64 k, .int .i64 cl] 3) = w3 at *
    clear hw3
    refine (put_ok none _ 0 0 2 2 1 [] [(k : Int), (cl : Int)] _ (Lies.nil _ _) L3.out HF.out (by decide)).mono ?_
    rintro e w4 ⟨v4, rfl, hown4, hb4⟩
    rw [HBY.out, List.nil_append] at hown4
    have O4 := hid hown4
    have B4 := hid (bthen B3.out hb4)
    have L4 := hid (L2.out.below B4.out)
    have B5 := hid (bthen B2.out B4.out)
    have B6 := hid hb4
    clear hown4 hb4
    go_wp2_with (at_builtin; refine wpList_appB rfl _ _ rfl rfl rfl O4.out L4.out ?c1 ?c2 ?_)
    case c1 => exact B6.out.size
    case c2 => simp; omega
    intro v5 w5 ho5 hb5
    have B7 := hid (B5.out.trans (hb5.mono (Nat.le_trans B2.out.size B3.out.size)))
    have O5 := hid ho5
    clear ho5 hb5
    go_wp2_with fail
    go_ret
    refine ⟨_, rfl, ?_, B7.out⟩
    rw [HE.out]
    refine own_mono (b' := w.heap.size) (b := w3.heap.size) ?_ (Nat.le_trans B2.out.size B3.out.size)
    refine ownsRow_u8 O5.out ?_ rfl
    simp [HCN.out]; omega
theorem encP_le {o : Po} (hc : chkP o = 0) (ha : o.ad.length = 16) : (encP o).length ≤ 257 := by
  obtain ⟨k, hok, hk⟩ := knd_nat (chk0 hc).1
  have := conP_le hk hok hc ha
  unfold encP
  rw [hok, Int.toNat_natCast]
  split
  · simp
  · simp; omega
end Go.Proofs.YtbklpelikaapoaaGreatDoor

namespace Go.Proofs.YtbklpelikaapoaaGreatDoor
open Go.ChangeShapes Go.WideShapes Go.ChangeAt Go.RowKit Go.Deep
set_option linter.unusedVariables false
set_option linter.unusedSimpArgs false

theorem layOo_new (w : World) (t : TypeId) (o : Ov) : Row ((w.alloc (.cells Ov.zero.cs t)).setRow w.heap.size o.cs) w.heap.size t o.cs := (Row.new w t _).setRow _
theorem layOo_below (w : World) (t : TypeId) (o : Ov) : Below w.heap.size w ((w.alloc (.cells Ov.zero.cs t)).setRow w.heap.size o.cs) := below_setRow' (balloc (Below.refl w.heap.size w) _) (Nat.le_refl _) _

theorem ret_tup {v : Value} {b c : Int} (h : b = c) : Ending.returned (.tuple #[v, .int .i64 b]) = .returned (.tuple #[v, .int .i64 c]) := by rw [h]
/-- The first error. -/
def bad : List Po → Int
  | [] => 0
  | o :: L => if chkP o = 0 then bad L else chkP o
/-- The bytes of all. -/
def encs (L : List Po) : List Int := L.flatMap encP
/-- What is wrong with options. -/
def encE (L : List Po) : Int := if 16 < L.length then 2 else if bad L ≠ 0 then bad L else if 1280 < (encs L).length then 2 else 0
def encsL (L : List Po) : List Int := if encE L = 0 then encs L else []
def Po.none : Po := ⟨0, [], [], []⟩
theorem bad_app (L M : List Po) (h : bad L = 0) : bad (L ++ M) = bad M := by
  induction L with
  | nil => rfl
  | cons o L ih =>
    rw [bad] at h
    split at h
    · rename_i hc
      rw [List.cons_append, bad, if_pos hc]; exact ih h
    · rename_i hc; exact absurd h hc
theorem bad_at (L : List Po) (j : Nat) (hj : j < L.length) (h : bad (L.take j) = 0) : (chkP (L.getD j Po.none) = 0 → bad (L.take (j + 1)) = 0) ∧ (chkP (L.getD j Po.none) ≠ 0 → bad L = chkP (L.getD j Po.none)) := by
  have e : L.getD j Po.none = L[j] := by simp [hj]
  rw [e]
  constructor
  · intro hc
    rw [List.take_succ_eq_append_getElem hj, bad_app _ _ h, bad, if_pos hc]; rfl
  · intro hc
    have : L = L.take j ++ (L[j] :: L.drop (j + 1)) := by rw [← List.drop_eq_getElem_cons hj, List.take_append_drop]
    have e2 : bad L = bad (L.take j ++ (L[j] :: L.drop (j + 1))) := congrArg bad this
    rw [e2, bad_app _ _ h, bad, if_neg hc]
theorem encs_succ (L : List Po) (j : Nat) (hj : j < L.length) : encs (L.take (j + 1)) = encs (L.take j) ++ encP (L.getD j Po.none) := by
  rw [encs, encs, List.take_succ_eq_append_getElem hj, List.flatMap_append]; simp [hj]
/-- Options in memory, as options. -/
def pos (L : List Ov) : List Po := L.map Ov.p
theorem pos_len (L : List Ov) : (pos L).length = L.length := by simp [pos]
theorem pos_at (L : List Ov) (j : Nat) (hj : j < L.length) : (pos L).getD j Po.none = (L.getD j Ov.zero).p := by simp [pos, hj]

set_option maxHeartbeats 1600000 in
theorem optEncode_any {B : Nat} (a : Option Addr) (n cap : Nat) (L : List Ov) (w : World) (hL : Opts w a n cap L) (hV : Vars B w) (hn : n ≤ 1000) :
    Calls Tryz.prog 126 #[.slice a n cap] w fun e w' => ∃ v, e = .returned (.tuple #[v, .int .i64 (encE (pos L))]) ∧ w'.ownsRow w.heap.size 5 1 v (encsL (pos L)).length (u8s (encsL (pos L))) ∧ Below w.heap.size w w' := by
  have hz := zov
  have HPL : Hid ((pos L).length = n) := by rw [Hid, pos_len]; exact hL.len
  by_cases h16 : 16 < n
  · have hE : encE (pos L) = 2 := by rw [encE, if_pos (by rw [HPL.out]; exact h16)]
    have hLL : encsL (pos L) = [] := by rw [encsL, hE]; rfl
    rw [hE, hLL]
    have h16' : (16 : Int) < (n : Int) := by omega
    clear hL hV hz
    go_enter Tryz.func126, Tryz.ntmps126
    go_wp2_with fail
    go_ret2
    exact ⟨_, rfl, World.ownsRow_nil _ _ _ _, Below.refl _ _⟩
  · have h16' : ¬ (16 : Int) < (n : Int) := by omega
    have HE : Hid (encE (pos L) = if bad (pos L) ≠ 0 then bad (pos L) else if 1280 < (encs (pos L)).length then 2 else 0) := by rw [Hid, encE, if_neg (by rw [HPL.out]; exact h16)]
    have HLL : Hid (encsL (pos L) = if encE (pos L) = 0 then encs (pos L) else []) := rfl
    have HL := hid hL
    have HV := hid hV
    have hlen := hL.len
    have HLen := hid hlen
    clear hL hV hlen
    go_enter Tryz.func126, Tryz.ntmps126
    go_wp2_with fail
    go_loopw [4, 13] (fun v i wr => ∃ j : Nat, j ≤ n ∧ i = .int .i64 j ∧ Hid (bad ((pos L).take j) = 0) ∧ Hid ((encs ((pos L).take j)).length ≤ 257 * j) ∧ Hid (wr.ownsRow w.heap.size 5 1 v (encs ((pos L).take j)).length (u8s (encs ((pos L).take j)))) ∧ Hid (Below w.heap.size w wr)) (fun _ i _ => n - (intOf i).toNat)
    case atStart => exact ⟨0, Nat.zero_le _, rfl, rfl, Nat.zero_le _, World.ownsRow_nil _ _ _ _, Below.refl _ _⟩
    case round =>
      obtain ⟨j, hj, rfl, hbad, hln, hown, hb⟩ := hrel
      by_cases hlt : j < n
      · have hL1 := HL.out.below hb.out
        obtain ⟨b, off, rfl, hp⟩ := hL1.cell j hlt
        have hjl : j < L.length := by rw [HLen.out]; exact hlt
        have hok := hL1.at j hlt
        have hba := bad_at (pos L) j (by rw [pos_len]; exact hjl) hbad.out
        have hes := encs_succ (pos L) j (by rw [pos_len]; exact hjl)
        rw [pos_at L j hjl] at hba hes
        generalize hoo : L.getD j Ov.zero = o at *
        have PP := hid hp
        have OK := hid hok
        have HBA := hid hba
        have HES := hid hes
        have HA := hid hok.ad
        have V1 := hid (HV.out.below hb.out)
        clear hL1 hp hok hba hes hoo hjl
        have R2 := hid (layOo_new wr 140 o)
        have B2 := hid (layOo_below wr 140 o)
        go_wp2_with (first | (refine ldOo o43 _ rfl rfl _ _ rfl o HA.out PP.out ?_) | (refine ldOo o43 _ rfl rfl _ _ rfl o HA.out (layOo_new wr 140 o).part ?_) | (refine stOo o43 _ _ rfl rfl wr.heap.size o HA.out rfl rfl 140 Ov.zero adr_zeros (Row.new wr 140 _) ?_))
        generalize hw2 : (wr.alloc (.cells Ov.zero.cs 140)).setRow wr.heap.size o.cs = w2 at *
        have O2 := hid (own_below hown.out B2.out)
        have OK2 := hid (OK.out.below B2.out)
        have V2 := hid (V1.out.below B2.out)
        have B3 := hid (bthen hb.out B2.out)
        generalize hgs : wr.heap.size = g at *
        clear hw2 hgs PP OK V1 B2
        refine (optCheck_any o _ OK2.out V2.out).mono ?_
        rintro e w3 ⟨rfl, hb3⟩
        have R3 := hid (R2.out.below hb3)
        have O3 := hid (own_below O2.out hb3)
        have OK3 := hid (OK2.out.below hb3)
        have V3 := hid (V2.out.below hb3)
        have B4 := hid (bthen B3.out hb3)
        clear hb3 R2 O2 OK2 V2 B3
        by_cases hc : chkP o.p = 0
        · have HC := hid hc
          rw [hc]
          clear hc
          have hel := encP_le HC.out HA.out.1
          go_wp2_with (refine ldOo o43 _ rfl rfl g 0 rfl o HA.out R3.out.part ?_)
          refine (optWritten_any o _ OK3.out V3.out HC.out).mono ?_
          rintro e w4 ⟨v4, rfl, hown4, hb4⟩
          obtain ⟨a4, c4, rfl, hl4, _⟩ := owns_lies hown4
          have L4 := hid hl4
          have O4 := hid (own_below O3.out hb4)
          have B5 := hid (bthen B4.out hb4)
          clear hb4 hown4 hl4
          generalize hel2 : (encP o.p).length = el at *
          have HEL := hid hel2
          clear hel2
          go_wp2_with (at_builtin; refine wpList_appB rfl _ _ rfl rfl rfl O4.out L4.out ?c1 ?c2 ?_)
          case c1 => exact B5.out.size
          case c2 => have := hln.out; omega
          intro v5 w5 ho5 hb5
          have O5 := hid ho5
          have B6 := hid (B5.out.trans hb5)
          clear ho5 hb5
          go_wp2_with fail
          go_roundw
          case rel =>
            refine ⟨j + 1, by omega, by go_num, HBA.out.1 HC.out, ?_, ?_, B6.out⟩
            · rw [Hid, HES.out, List.length_append, HEL.out]; have := hln.out; omega
            · rw [Hid, HES.out, List.length_append, HEL.out]; exact O5.out
          case measure => simp [intOf]; omega
        · have HC := hid hc
          have hc' : (chkP o.p != 0) = true := by simpa using hc
          clear hc
          have HB := hid (HBA.out.2 HC.out)
          generalize chkP o.p = c at *
          go_wp2_with fail
          go_ret2
          have e1 : encE (pos L) = c := by rw [HE.out, HB.out, if_pos HC.out]
          refine ⟨_, ret_tup e1.symm, ?_, B4.out⟩
          rw [HLL.out, e1, if_neg HC.out]
          exact World.ownsRow_nil _ _ _ _
      · obtain rfl : j = n := by omega
        rw [List.take_of_length_le (by rw [HPL.out]; exact Nat.le_refl _)] at hbad hln hown
        obtain ⟨va, vc, hv⟩ := owns_len hown.out
        subst hv
        have hln2 := hln.out
        have hE2 : Hid (encE (pos L) = if 1280 < (encs (pos L)).length then 2 else 0) := by rw [Hid, HE.out, hbad.out]; rfl
        have HEN : Hid ((encs (pos L)).length = (encs (pos L)).length) := rfl
        generalize hen : (encs (pos L)).length = en at *
        by_cases hlong : 1280 < en
        · have hlong' : (1280 : Int) < (en : Int) := by omega
          go_wp2_with fail
          go_ret2
          have e1 : encE (pos L) = 2 := by rw [hE2.out, if_pos hlong]
          refine ⟨_, ret_tup e1.symm, ?_, hb.out⟩
          rw [HLL.out, e1]
          exact World.ownsRow_nil _ _ _ _
        · have hlong' : ¬ (1280 : Int) < (en : Int) := by omega
          go_wp2_with fail
          go_ret2
          have e1 : encE (pos L) = 0 := by rw [hE2.out, if_neg hlong]
          refine ⟨_, ret_tup e1.symm, ?_, hb.out⟩
          rw [HLL.out, e1, if_pos rfl, hen]
          exact hown.out
end Go.Proofs.YtbklpelikaapoaaGreatDoor

namespace Go.Proofs.YtbklpelikaapoaaGreatDoor
set_option linter.unusedVariables false
set_option linter.unusedSimpArgs false

/-- A field: its place, shift, greatest value. -/
structure Fl where
  p : Nat
  s : Nat
  l : Nat
/-- A part: its size, and its fields. -/
structure Pa where
  z : Nat
  f : List Fl
def Fl.none : Fl := ⟨0, 0, 0⟩
def Pa.none : Pa := ⟨0, []⟩
def cpas : List (List Pa) := [[⟨2, []⟩],
  [⟨1, [⟨0, 0, 255⟩]⟩, ⟨1, [⟨1, 0, 255⟩]⟩, ⟨2, [⟨2, 0, 65535⟩]⟩, ⟨1, [⟨3, 7, 1⟩, ⟨4, 3, 7⟩, ⟨5, 0, 7⟩]⟩, ⟨1, [⟨6, 0, 255⟩]⟩, ⟨2, []⟩],
  [⟨1, [⟨0, 0, 255⟩]⟩, ⟨1, [⟨7, 7, 1⟩, ⟨10, 6, 1⟩]⟩, ⟨1, []⟩, ⟨1, [⟨8, 0, 255⟩]⟩],
  [⟨1, [⟨0, 0, 255⟩]⟩, ⟨1, [⟨10, 7, 1⟩]⟩, ⟨1, [⟨8, 0, 255⟩]⟩, ⟨1, [⟨9, 0, 255⟩]⟩]]
/-- A code's parts. -/
def cpa (k : Nat) : List Pa := cpas.getD k []
def crt (k : Nat) : Bool := k == 1
def ckis : List (List Int) := [[0, 1, 7], [0, 1, 2, 3, 4, 8], [0, 1, 5, 6, 9], [0, 1]]
/-- A code's kinds. -/
def cki (k : Nat) : List Int := ckis.getD k []
def cwds : List ByteArray := [⟨#[100, 105, 115]⟩, ⟨#[100, 105, 111]⟩, ⟨#[100, 97, 111]⟩, ⟨#[97, 99, 107]⟩]
/-- A code's word. -/
def cwd (k : Nat) : ByteArray := cwds.getD k ByteArray.empty
/-- A message. -/
structure Pm where
  c : Int
  i : Int
  v : Int
  r : Int
  mo : Int
  pf : Int
  d : Int
  sq : Int
  st : Int
  g : Bool
  a : Bool
  ro : List Int
  o : List Po
def bitI (b : Bool) : Int := if b = true then 1 else 0
def thr (ro : List Int) : Int := bitI (!(ro == zeros))
/-- Its values. -/
def Pm.vs (m : Pm) : List Int := [m.i, m.v, m.r, bitI m.g, m.mo, m.pf, m.d, bitI m.a, m.sq, m.st, thr m.ro]
def Pm.zero : Pm := ⟨0, 0, 0, 0, 0, 0, 0, 0, 0, false, false, zeros, []⟩
def codB (c : Int) : Bool := decide (0 ≤ c ∧ c < 4)
theorem cod_nat {c : Int} (h : codB c = true) : ∃ k : Nat, c = k ∧ k < 4 := by
  have h' : 0 ≤ c ∧ c < 4 := by simpa [codB] using h
  exact ⟨c.toNat, by omega, by omega⟩
def zer11 : List Int := List.replicate 11 0
/-- Values behind the fields struck out. -/
def clrF (fs : List Fl) (v : List Int) : List Int := fs.foldl (fun v f => v.set f.p 0) v
def clrP (ps : List Pa) (v : List Int) : List Int := ps.foldl (fun v p => clrF p.f v) v
def frmV (k : Nat) (v : List Int) : Bool := (if crt k = true then (clrP (cpa k) v).set 10 0 else clrP (cpa k) v) == zer11
/-- Is a field's value one that may be? -/
def inF (v : List Int) (f : Fl) : Bool := decide (0 ≤ v.getD f.p 0) && decide (v.getD f.p 0 ≤ (f.l : Int))
def inP (v : List Int) (p : Pa) : Bool := p.f.all (inF v)
def witV (k : Nat) (v : List Int) : Bool := (cpa k).all (inP v) && (!crt k || v.getD 10 0 == 1)
def mayB (c k : Int) : Bool := codB c && decide (k ∈ cki c.toNat)
def allM (c : Int) (o : List Po) : Bool := o.all (fun p => mayB c p.k)
/-- What is wrong with a message ahead of its options. -/
def chk0M (m : Pm) : Int := if codB m.c = true then (if frmV m.c.toNat m.vs = true then (if witV m.c.toNat m.vs = true then (if allM m.c m.o = true then 0 else 6) else 1) else 3) else 6
def chkM (m : Pm) : Int := if chk0M m = 0 then encE m.o else chk0M m
/-- A part's number. -/
def ctOr (v : List Int) (fs : List Fl) : Int := fs.foldl (fun n f => n + v.getD f.p 0 * 2 ^ f.s) 0
def hdP (v : List Int) (p : Pa) : List Int := bytesOf p.z [ctOr v p.f]
def hdV (v : List Int) (ps : List Pa) : List Int := ps.flatMap (hdP v)
/-- The bytes ahead of the options. -/
def hdM (m : Pm) : List Int := hdV m.vs (cpa m.c.toNat) ++ (if m.vs.getD 10 0 = 1 then m.ro else [])
/-- What is wrong with a message's bytes; the bytes. -/
def eE (m : Pm) : Int := if chkM m ≠ 0 then chkM m else if 1280 < (hdM m).length + (encsL m.o).length then 2 else 0
def eL (m : Pm) : List Int := if eE m = 0 then hdM m ++ encsL m.o else []
theorem bitI_0 (b : Bool) : (bitI b = 0) = (b = false) := by cases b <;> simp [bitI]
theorem thr_0 (ro : List Int) : (thr ro = 0) = (ro = zeros) := by unfold thr; rw [bitI_0]; simp
theorem thr_1 (ro : List Int) : (thr ro = 1) = (ro ≠ zeros) := by unfold thr bitI; by_cases h : ro = zeros <;> simp [h]
end Go.Proofs.YtbklpelikaapoaaGreatDoor

namespace Go.Proofs.YtbklpelikaapoaaGreatDoor
open Go.ChangeShapes Go.WideShapes Go.ChangeAt Go.RowKit Go.Deep
set_option linter.unusedVariables false
set_option linter.unusedSimpArgs false

theorem fillO' (k : Int) (na : Option Addr) (nl nc : Nat) (l : List Int) (a0 a1 a2 a3 a4 a5 a6 a7 a8 a9 a10 a11 a12 a13 a14 a15 : Int) (ta : Option Addr) (tl tc : Nat) (m : List Int) :
    Instr.fill (fun i => some (i * 19, 19)) ((Array.range (1 * 19)).map ((Value.agg Ov.zero.cs).cells[· % (Value.agg Ov.zero.cs).cells.size]!)) [(0, .agg (Ov.cs ⟨k, ⟨na, nl, nc, l⟩, [a0, a1, a2, a3, a4, a5, a6, a7, a8, a9, a10, a11, a12, a13, a14, a15], ⟨ta, tl, tc, m⟩⟩))] = some (Ov.cs ⟨k, ⟨na, nl, nc, l⟩, [a0, a1, a2, a3, a4, a5, a6, a7, a8, a9, a10, a11, a12, a13, a14, a15], ⟨ta, tl, tc, m⟩⟩) := by kernel_rfl
theorem fillO (o : Ov) (h : o.ad.length = 16) : Instr.fill (fun i => some (i * 19, 19)) ((Array.range (1 * 19)).map ((Value.agg Ov.zero.cs).cells[· % (Value.agg Ov.zero.cs).cells.size]!)) [(0, .agg o.cs)] = some o.cs := by
  obtain ⟨k, ⟨na, nl, nc, l⟩, ad, ⟨ta, tl, tc, m⟩⟩ := o
  simp only at h
  match ad, h with
  | [a0, a1, a2, a3, a4, a5, a6, a7, a8, a9, a10, a11, a12, a13, a14, a15], _ => exact fillO' k na nl nc l a0 a1 a2 a3 a4 a5 a6 a7 a8 a9 a10 a11 a12 a13 a14 a15 ta tl tc m
/-- A type of slices of options. -/
structure ST (ts t : TypeId) : Prop where
  und : Tryz.prog.underlying ts = some (.slice t)
  ot : OTo t
theorem s23 : ST 36 140 := ⟨Tryz.underlying36, o43⟩
theorem cells_zero : (Value.agg Ov.zero.cs).cells.size = 19 := by rw [Value.cells]; rfl
theorem step_bsO {ops : Array Oper} {o : Oper} {a : Act} {w : World} {K : Act → World → Prop} {Q : Exit → Act → World → Prop} {E : Prop} {ts t : TypeId} (hT : ST ts t) (hg : o.guard = none) (y : Operand) (ho : o.op = .buildSlice ts 1 #[(0, y)])
    (v : Ov) (hl : Adr v.ad) (hy : a.eval y = .agg v.cs) (h : K (a.put o.dst (.slice (some ⟨w.heap.size, 0, none⟩) 1 1)) (w.alloc (.cells v.cs t))) :
    if Region.wanted o (yielded ops a.tmps) = true then Oper.wp Tryz.prog o a w K Q else E := by
  rw [if_pos (by simp [Region.wanted, hg])]
  obtain ⟨ie, hi, hz, hs, hb⟩ := info_parts hT.ot.zero
  refine wp_buildSlice ts t 1 _ ho v.cs ie _ hT.und hi hz (by rw [hs]; decide) (by rw [hs]; decide) ?_ h
  rw [hs]
  simp only [List.map_toArray, List.map_cons, List.map_nil, hy]
  exact fillO v hl.1
theorem news_row {w : World} {g : Nat} {t : TypeId} {cs : Array Value} (h : Row w g t cs) : ∀ j u, cs.toList[j]? = some u → w.cell? ((⟨g, 0, none⟩ : Addr).add j) = some u := by
  intro j u hj
  rw [Addr.add_lit, Nat.zero_add, h.cell]
  simpa using hj
theorem one_list (v : Ov) : ∀ u ∈ v.cs.toList, u.oneCell' = true := by
  intro u hu
  have := v.one
  rw [Array.all_eq_true_iff_forall_mem] at this
  exact this u (by simpa using hu)
/-- An option more. -/
theorem step_pushO {ops : Array Oper} {o : Oper} {a : Act} {w : World} {K : Act → World → Prop} {Q : Exit → Act → World → Prop} {E : Prop} {ts t : TypeId} (hT : ST ts t) (hg : o.guard = none) (s y : Operand)
    (ho : o.op = .call { callee := .builtin .append, args := #[s, y], argTypes := #[ts, ts] }) (base m g : Nat) (v : Value) (xs : List Value) (hs : a.eval s = v) (hown : w.ownsRow base t 19 v m xs)
    (x : Ov) (hl : Adr x.ad) (hx : a.eval y = .slice (some ⟨g, 0, none⟩) 1 1) (hr : Row w g t x.cs) (hb : base ≤ w.heap.size) (hm : m ≤ 200000)
    (h : ∀ v' w', w'.ownsRow base t 19 v' (m + 1) (xs ++ x.cs.toList) → w.grownBy w' v.ownBlock → K (a.put o.dst v') w') :
    if Region.wanted o (yielded ops a.tmps) = true then Oper.wp Tryz.prog o a w K Q else E := by
  rw [if_pos (by simp [Region.wanted, hg])]
  obtain ⟨ie, hi, hz, hz1, hz2⟩ := info_parts hT.ot.zero
  refine wp_append_own w s y ts ho base t ie _ 19 72 hT.und hi hz hz1 hz2 cells_zero (by decide) v m xs hs hown ⟨g, 0, none⟩ 1 1 x.cs.toList hx (by rw [Array.length_toList, Ov.size hl]) (news_row hr) (one_list x) (by unfold maxLen; omega) (by omega) hb ?_
  intro v' w' h2 h3 _
  exact h v' w' h2 h3
/-- Numbers that lie somewhere, behind a row of the call's own, in a region that draws its order. -/
theorem step_appI {ops : Array Oper} {o : Oper} {a : Act} {w : World} {K : Act → World → Prop} {Q : Exit → Act → World → Prop} {E : Prop} {base n m cap : Nat} {v : Value} {xs l : List Int} {ao : Option Addr} (hg : o.guard = none) (s x : Operand)
    (ho : o.op = .call { callee := .builtin .append, args := #[s, x], argTypes := #[114, 114] }) (hs : a.eval s = v) (hx : a.eval x = .slice ao m cap)
    (hown : w.ownsRow base 3 1 v n (i64s xs)) (hl : Lies .i64 w ao m cap l) (hb : base ≤ w.heap.size) (hm : n + m ≤ 200000)
    (h : ∀ v' w', w'.ownsRow base 3 1 v' (n + m) (i64s (xs ++ l)) → w.grownBy w' v.ownBlock → K (a.put o.dst v') w') :
    if Region.wanted o (yielded ops a.tmps) = true then Oper.wp Tryz.prog o a w K Q else E := by
  rw [if_pos (by simp [Region.wanted, hg])]
  obtain ⟨ie, hi, hz, hz1, hz2⟩ := info_parts info3
  cases ao with
  | some ad =>
    refine wp_append_own w s x 114 ho base 3 ie _ 1 8 Tryz.underlying114 hi hz hz1 hz2 rfl (by decide) v n _ hs hown ad m cap (l.map (Value.int .i64)) hx (by rw [List.length_map, hl.1]; omega) (hl.cells ad rfl) (ints_oneCell8 l .i64) (by unfold maxLen; omega) (by omega) hb ?_
    intro v' w' h2 h3 _
    exact h v' w' (by rw [i64s, List.map_append]; exact h2) h3
  | none =>
    obtain ⟨rfl, rfl⟩ := hl.isNil rfl
    have hn : l = [] := List.eq_nil_of_length_eq_zero hl.1
    subst hn
    have hrun := run_append_owned_none (P := Tryz.prog) (w := w) base 114 o.type 3 ie 1 Tryz.underlying114 hi v n _ hown
    unfold Oper.wp
    simp [execOp, ho, resolve, invoke, builtin, hs, hx, hrun, Result.andThen]
    exact h v w (by simpa using hown) (World.grownBy.refl _ _)
theorem yields_ldo {P : Program} {ops : Array Oper} {S : World → Prop} {op : Oper} {a : Act} (hw : Region.wanted op (yielded ops a.tmps) = true) (ty : TypeId) (x : Operand) (ho : op.op = .load ty x)
    (g off : Nat) (hx : a.eval x = .pointer (some ⟨g, off, none⟩)) (cs : Array Value) (d : TypeDesc) (hS : ∀ w, S w → Part w g off cs)
    (hu : P.underlying ty = some d) (hd : (match d with | .struct _ | .array _ _ => true | _ => false) = true) (hi : (P.info? ty).map (·.size) = some cs.size) : YieldsIf P ops S op (.agg cs) a :=
  .inl ⟨hw, fun w hw' => by
    unfold execOp
    simp only [ho, hx, Instr.loadAt, Instr.sureAddr, Sem.run_bind, Sem.run_pure, Result.andThen_ok, run_loadVar_part w g off ty cs d (hS w hw') hu hd hi]⟩
theorem yld36 {ops : Array Oper} {S : World → Prop} {op : Oper} {a : Act} (hw : Region.wanted op (yielded ops a.tmps) = true) (x : Operand) (ho : op.op = .load 22 x)
    (g off : Nat) (hx : a.eval x = .pointer (some ⟨g, off, none⟩)) (l : List Int) (hl : Adr l) (hS : ∀ w, S w → Part w g off (arr l)) : YieldsIf Tryz.prog ops S op (.agg (arr l)) a :=
  yields_ldo hw 22 x ho g off hx (arr l) _ hS Tryz.underlying22 rfl (by rw [arr_size, hl.1]; exact size36)
theorem yld41 {ops : Array Oper} {S : World → Prop} {op : Oper} {a : Act} (hw : Region.wanted op (yielded ops a.tmps) = true) (x : Operand) (ho : op.op = .load 33 x)
    (g off : Nat) (hx : a.eval x = .pointer (some ⟨g, off, none⟩)) (l : List Int) (hl : Adr l) (hS : ∀ w, S w → Part w g off (arr l)) : YieldsIf Tryz.prog ops S op (.agg (arr l)) a :=
  yields_ldo hw 33 x ho g off hx (arr l) _ hS Tryz.underlying33 rfl (by rw [arr_size, hl.1]; exact size41)
theorem yldOo {ops : Array Oper} {S : World → Prop} {op : Oper} {a : Act} {t : TypeId} (ht : OTo t) (hw : Region.wanted op (yielded ops a.tmps) = true) (x : Operand) (ho : op.op = .load t x)
    (g off : Nat) (hx : a.eval x = .pointer (some ⟨g, off, none⟩)) (v : Ov) (hl : Adr v.ad) (hS : ∀ w, S w → Part w g off v.cs) : YieldsIf Tryz.prog ops S op (.agg v.cs) a := by
  obtain ⟨fs, h1⟩ := ht.desc
  exact yields_ldo hw t x ho g off hx v.cs _ hS h1 rfl (by rw [Ov.size hl]; exact ht.info)
theorem ybdO {ops : Array Oper} {S : World → Prop} {op : Oper} {a : Act} {t : TypeId} (ht : OTo t) (hw : Region.wanted op (yielded ops a.tmps) = true) (x0 x1 x2 x3 : Operand) (ho : op.op = .build t #[(0, x0), (1, x1), (2, x2), (3, x3)])
    (h : Ov) (hl : Adr h.ad) (h0 : a.eval x0 = .int .i64 h.k) (h1 : a.eval x1 = h.n.v) (h2 : a.eval x2 = .agg (arr h.ad)) (h3 : a.eval x3 = h.t.v) : YieldsIf Tryz.prog ops S op (.agg h.cs) a :=
  .inl ⟨hw, fun w _ => by
    have hf : Tryz.prog.built t ((#[(0, x0), (1, x1), (2, x2), (3, x3)] : Array (Nat × Operand)).map fun (i, x) => (i, a.eval x)).toList = some h.cs := by
      simp only [List.map_toArray, List.map_cons, List.map_nil, h0, h1, h2, h3]; exact ht.full h hl.1
    unfold execOp
    simp only [ho, Sem.run_bind, run_build w t _ h.cs hf, Result.andThen_ok]
    rfl⟩
end Go.Proofs.YtbklpelikaapoaaGreatDoor

namespace Go.Proofs.YtbklpelikaapoaaGreatDoor
open Go.ChangeShapes Go.WideShapes Go.ChangeAt Go.RowKit Go.Deep
set_option linter.unusedVariables false
set_option linter.unusedSimpArgs false

theorem not_mem_take {l : List Int} {x : Int} {k : Nat} (hk : k < l.length) (h : ¬ x ∈ l.take k) (hne : ¬ x = l.getD k 0) : ¬ x ∈ l.take (k + 1) := by
  rw [List.take_succ_eq_append_getElem hk, List.mem_append]
  intro h'
  rcases h' with h' | h'
  · exact h h'
  · simp at h'; exact hne (by simp [hk, h'])
theorem index_any (a : Option Addr) (n cap : Nat) (l : List Int) (x : Int) (w : World) (h : Lies .i64 w a n cap l) :
    Calls Tryz.prog 164 #[.slice a n cap, .int .i64 x] w fun e w' => (∃ r : Int, e = .returned (.int .i64 r) ∧ decide (0 ≤ r) = decide (x ∈ l)) ∧ w' = w := by
  obtain ⟨hl, hlc, hcm, _, hc⟩ := h
  unfold maxLen at hcm
  have HC : Hid _ := hc
  have HL : Hid (l.length = n) := hl
  clear hc hl
  go_enter Tryz.func164, Tryz.ntmps164
  go_wp2
  go_loop [8] (fun i => ∃ k : Nat, k ≤ n ∧ i = .int .i64 k ∧ Hid (¬ x ∈ l.take k)) (fun i => n - (intOf i).toNat)
  case atStart => exact ⟨0, Nat.zero_le _, rfl, by rw [Hid]; simp⟩
  case round =>
    obtain ⟨k, hk, rfl, hno⟩ := hrel
    by_cases hlt : k < n
    · obtain ⟨b, off, rfl, hcell⟩ := HC.out k hlt
      have hlt' : (k : Int) < (n : Int) := by omega
      have HM : Hid (l.getD k 0 ∈ l) := by rw [Hid]; simp [show k < l.length by rw [HL.out]; exact hlt]
      have HN : Hid (¬ x = l.getD k 0 → ¬ x ∈ l.take (k + 1)) := not_mem_take (by rw [HL.out]; exact hlt) hno.out
      generalize l.getD k 0 = z at *
      by_cases hz : x = z
      · have he : (x == z) = true := by simp [hz]
        have HZ := hid hz
        clear hz
        go_wp2
        go_ret
        exact ⟨⟨_, rfl, by rw [HZ.out]; simp [HM.out]⟩, rfl⟩
      · have he : (x == z) = false := by simp [hz]
        have HZ := hid hz
        clear hz
        go_wp2
        go_round
        case rel => exact ⟨k + 1, by omega, by go_num, HN.out HZ.out⟩
        case measure => simp [intOf]; omega
    · obtain rfl : k = n := by omega
      go_wp2
      go_ret
      refine ⟨⟨_, rfl, ?_⟩, rfl⟩
      have := hno.out
      rw [List.take_of_length_le (by rw [HL.out]; exact Nat.le_refl _)] at this
      simp [this]
theorem contains_any (a : Option Addr) (n cap : Nat) (l : List Int) (x : Int) (w : World) (h : Lies .i64 w a n cap l) :
    Calls Tryz.prog 160 #[.slice a n cap, .int .i64 x] w fun e w' => e = .returned (.bool (decide (x ∈ l))) ∧ w' = w := by
  have HL := hid h
  clear h
  go_enter Tryz.func160, Tryz.ntmps160
  go_wp2_with fail
  refine (index_any a n cap l x _ HL.out).mono ?_
  rintro e w1 ⟨⟨r, rfl, hr⟩, rfl⟩
  have HR := hid hr
  clear hr
  go_wp2_with fail
  go_ret
  exact ⟨ret_bool HR.out, rfl⟩
end Go.Proofs.YtbklpelikaapoaaGreatDoor

namespace Go.Proofs.YtbklpelikaapoaaGreatDoor
open Go.ChangeShapes Go.WideShapes Go.ChangeAt Go.RowKit Go.Deep
set_option linter.unusedVariables false
set_option linter.unusedSimpArgs false

theorem clone60_nil (w : World) : Calls Tryz.prog 77 #[.slice none 0 0] w fun e w' => e = .returned (.slice none 0 0) ∧ w' = w := by
  have he := fun w => Lib.run_eql_slice_nil (P := Tryz.prog) w 114 3 none 0 0 0 0 Tryz.underlying114
  go_enter Tryz.func77, Tryz.ntmps77
  go_wp2
  go_ret
  exact ⟨rfl, rfl⟩
theorem clone60_some (ad : Addr) (len cap : Nat) (l : List Int) (w : World) (h : Lies .i64 w (some ad) len cap l) (hl : len ≤ 100000) :
    Calls Tryz.prog 77 #[.slice (some ad) len cap] w fun e w' => ∃ v, e = .returned v ∧ w'.ownsRow w.heap.size 3 1 v l.length (i64s l) ∧ Below w.heap.size w w' := by
  have he := fun w => Lib.run_eql_slice_nil (P := Tryz.prog) w 114 3 (some ad) len cap 0 0 Tryz.underlying114
  obtain ⟨i0, hi, hz0, hz1, hz2⟩ := info_parts info3
  have HB : Hid (Lies .i64 w (some ad) len cap l) := h
  have hb1 : Below w.heap.size w (w.alloc (.cells #[] 3)) := (Below.refl _ _).alloc (Nat.le_refl _) _
  have hl1 := HB.out.below hb1
  have hown := World.ownsRow_made (e := 3) (size := 1) (base := w.heap.size) w #[] 0 (Nat.le_refl _) (by decide) (by simp)
  have HO : Hid _ := hown
  have HL1 : Hid _ := hl1
  clear h hown hl1 hb1
  go_enter Tryz.func77, Tryz.ntmps77
  go_wp2_with (at_builtin; refine wpList_append_own _ rfl _ _ 114 rfl w.heap.size 3 i0 (.int .i64 0) 1 8 Tryz.underlying114 hi hz0 hz1 hz2 rfl (by decide) _ _ _ rfl HO.out ad len cap (i64s l) rfl ?c1 (Lies.cells HL1.out ad rfl) (ints_oneCell8 _ _) ?c3o ?c4 ?c5 ?_)
  case c1 => have := HB.out.1; simp [i64s]; omega
  case c3o => unfold maxLen; omega
  case c4 => omega
  intro v1 w1 hown1 hg1 _
  have hb2 : Below w.heap.size w w1 := Below.grown ((Below.refl _ _).alloc (Nat.le_refl _) _) hg1 (by simp) (fun k hk => by cases hk; exact Nat.le_refl _)
  have hln := HB.out.1
  have HW : Hid _ := hown1
  clear hown1 hg1
  go_wp2
  go_ret
  exact ⟨_, rfl, ownsRow_i64 HW.out rfl (by omega) (by simp), hb2⟩
theorem clone60_any (a : Option Addr) (len cap : Nat) (l : List Int) (w : World) (h : Lies .i64 w a len cap l) (hl : len ≤ 100000) :
    Calls Tryz.prog 77 #[.slice a len cap] w fun e w' => ∃ v, e = .returned v ∧ w'.ownsRow w.heap.size 3 1 v l.length (i64s l) ∧ Below w.heap.size w w' := by
  cases a with
  | some ad => exact clone60_some ad len cap l w h hl
  | none =>
    obtain ⟨rfl, rfl⟩ := h.isNil rfl
    have : l = [] := List.eq_nil_of_length_eq_zero h.1
    subst this
    refine (clone60_nil w).mono ?_
    rintro e w' ⟨rfl, rfl⟩
    exact ⟨_, rfl, World.ownsRow_nil _ _ _ _, Below.refl _ _⟩
def Ov.setN (o : Ov) (t : Txt) : Ov := ⟨o.k, t, o.ad, o.t⟩
def Ov.setT (o : Ov) (t : Txt) : Ov := ⟨o.k, o.n, o.ad, t⟩
theorem Ov.set1 (o : Ov) (t : Txt) : o.cs.setIfInBounds 1 (.slice t.a t.n t.cap) = (o.setN t).cs := by
  apply Array.ext'; simp [Ov.cs, Ov.setN, Txt.v]
theorem Ov.set18 {o : Ov} (h : Adr o.ad) (t : Txt) : o.cs.setIfInBounds 18 (.slice t.a t.n t.cap) = (o.setT t).cs := by
  apply Array.ext'
  have e : o.cs.toList = (.int .i64 o.k :: o.n.v :: (arr o.ad).toList) ++ [o.t.v] := by simp [Ov.cs]
  have e2 : (o.setT t).cs.toList = (.int .i64 o.k :: o.n.v :: (arr o.ad).toList) ++ [.slice t.a t.n t.cap] := by simp [Ov.cs, Ov.setT, Txt.v]
  have hl : (Value.int .i64 o.k :: o.n.v :: (arr o.ad).toList).length = 18 := by simp [arr_size, h.1]
  rw [Array.toList_setIfInBounds, e, e2, List.set_append_right _ _ (by omega), hl]
  rfl
/-- An option with lists of the call's own. -/
structure Own2 (base : Nat) (w : World) (o : Ov) : Prop where
  n : w.ownsRow base 3 1 o.n.v o.n.l.length (i64s o.n.l)
  nn : o.n.n = o.n.l.length
  ad : Adr o.ad
  t : w.ownsRow base 5 1 o.t.v o.t.l.length (u8s o.t.l)
  tn : o.t.n = o.t.l.length
  oct : Oct o.t.l
theorem Own2.ok {base : Nat} {w : World} {o : Ov} (h : Own2 base w o) : o.ok w := by
  refine ⟨?_, h.ad, ?_, h.oct⟩
  · obtain ⟨a, cap, e, hl⟩ := owns_liesk h.n
    have e1 : Value.slice o.n.a o.n.n o.n.cap = .slice a o.n.l.length cap := e
    injection e1 with e2 e3 e4
    rw [e2, e3, e4]; exact hl
  · obtain ⟨a, cap, e, hl, _⟩ := owns_lies h.t
    have e1 : Value.slice o.t.a o.t.n o.t.cap = .slice a o.t.l.length cap := e
    injection e1 with e2 e3 e4
    rw [e2, e3, e4]; exact hl
theorem Own2.below {base : Nat} {w w' : World} {o : Ov} (h : Own2 base w o) (hb : Below w.heap.size w w') : Own2 base w' o := ⟨own_below h.n hb, h.nn, h.ad, own_below h.t hb, h.tn, h.oct⟩
theorem Own2.mono {base base' : Nat} {w : World} {o : Ov} (h : Own2 base w o) (hb : base' ≤ base) : Own2 base' w o := ⟨own_mono h.n hb, h.nn, h.ad, own_mono h.t hb, h.tn, h.oct⟩
theorem Own2.kept {base b' : Nat} {w w' : World} {o : Ov} {v : Value} {n : Nat} {xs : List Value} {ty : TypeId} (h : Own2 base w o) (ho : w.ownsRow b' ty 19 v n xs) (h3 : (3 : TypeId) ≠ ty) (h5 : (5 : TypeId) ≠ ty) (hg : w.grownBy w' v.ownBlock) : Own2 base w' o :=
  ⟨h.n.kept hg (own_apart h.n ho h3), h.nn, h.ad, h.t.kept hg (own_apart h.t ho h5), h.tn, h.oct⟩
theorem own_set {w : World} {b g : Nat} {e : TypeId} {size : Nat} {v : Value} {n : Nat} {xs : List Value} (h : w.ownsRow b e size v n xs) (hg : g < b) (j : Nat) (u : Value) : (w.setCell ⟨g, j, none⟩ u).ownsRow b e size v n xs :=
  h.kept (grownBy_setCell w g j u) (by
    cases hv : v.ownBlock with
    | none => exact .inl rfl
    | some k => exact .inr (fun e => by have := Option.some.inj e; have := (h.lt k hv).1; omega))
theorem Lies.other {kd : IntKind} {w w' : World} {d : Nat} {a : Option Addr} {len cap : Nat} {l : List Int} (h : Lies kd w a len cap l) (hg : w.grownBy w' (some d)) (hne : ∀ ad, a = some ad → ad.block ≠ d) : Lies kd w' a len cap l := by
  refine ⟨h.1, h.2.1, h.2.2.1, h.2.2.2.1, fun k hk => ?_⟩
  obtain ⟨b, off, he, hc⟩ := h.2.2.2.2 k hk
  exact ⟨b, off, he, hg.cell hc (fun e => hne _ he (by have := Option.some.inj e; exact this))⟩
theorem own_setRowT {w : World} {b g : Nat} {e t : TypeId} {size : Nat} {v : Value} {n : Nat} {xs : List Value} {c cs : Array Value} (h : w.ownsRow b e size v n xs) (hr : Row w g t c) (hne : e ≠ t) : (w.setRow g cs).ownsRow b e size v n xs :=
  h.kept (grownBy_setRow w g cs) (.inr (own_row h hr hne))
end Go.Proofs.YtbklpelikaapoaaGreatDoor

namespace Go.Proofs.YtbklpelikaapoaaGreatDoor
open Go.ChangeShapes Go.WideShapes Go.ChangeAt Go.RowKit Go.Deep
set_option linter.unusedVariables false
set_option linter.unusedSimpArgs false

/-- A message as it lies. -/
structure Mv where
  c : Int
  i : Int
  v : Int
  r : Int
  mo : Int
  pf : Int
  d : Int
  sq : Int
  st : Int
  g : Bool
  a : Bool
  ro : List Int
  oa : Option Addr
  on : Nat
  oc : Nat
  L : List Ov
def Mv.p (m : Mv) : Pm := ⟨m.c, m.i, m.v, m.r, m.mo, m.pf, m.d, m.sq, m.st, m.g, m.a, m.ro, pos m.L⟩
def Mv.hd (m : Mv) : Array Value := #[.int .i64 m.c, .int .i64 m.i, .int .i64 m.v, .int .i64 m.r, .int .i64 m.mo, .int .i64 m.pf, .int .i64 m.d, .int .i64 m.sq, .int .i64 m.st, .bool m.g, .bool m.a]
/-- Its cells. -/
def Mv.cs (m : Mv) : Array Value := m.hd ++ (arr m.ro ++ #[.slice m.oa m.on m.oc])
structure Mv.ok (w : World) (m : Mv) : Prop where
  ro : Adr m.ro
  o : Opts w m.oa m.on m.oc m.L
def Mv.zero : Mv := ⟨0, 0, 0, 0, 0, 0, 0, 0, 0, false, false, zeros, none, 0, 0, []⟩
theorem Mv.zero_ok (w : World) : Mv.zero.ok w := ⟨adr_zeros, Opts.none w⟩
theorem Mv.ok.below {w w' : World} {m : Mv} (h : m.ok w) (hb : Below w.heap.size w w') : m.ok w' := ⟨h.ro, h.o.below hb⟩
theorem Mv.hsize (m : Mv) : m.hd.size = 11 := rfl
theorem Mv.size {m : Mv} (h : Adr m.ro) : m.cs.size = 28 := by simp [Mv.cs, arr_size, h.1, Mv.hsize]
theorem Mv.one (m : Mv) : m.cs.all (·.oneCell') = true := by simp [Mv.cs, Mv.hd, Array.all_append, arr, u8s, Value.oneCell']
theorem Mv.atH (m : Mv) (j : Nat) (hj : j < 11) : m.cs[j]? = m.hd[j]? := by rw [Mv.cs, Array.getElem?_append_left (by rw [Mv.hsize]; exact hj)]
theorem Mv.at0 (m : Mv) : m.cs[0]? = some (.int .i64 m.c) := m.atH 0 (by decide)
theorem Mv.at1 (m : Mv) : m.cs[1]? = some (.int .i64 m.i) := m.atH 1 (by decide)
theorem Mv.at2 (m : Mv) : m.cs[2]? = some (.int .i64 m.v) := m.atH 2 (by decide)
theorem Mv.at3 (m : Mv) : m.cs[3]? = some (.int .i64 m.r) := m.atH 3 (by decide)
theorem Mv.at4 (m : Mv) : m.cs[4]? = some (.int .i64 m.mo) := m.atH 4 (by decide)
theorem Mv.at5 (m : Mv) : m.cs[5]? = some (.int .i64 m.pf) := m.atH 5 (by decide)
theorem Mv.at6 (m : Mv) : m.cs[6]? = some (.int .i64 m.d) := m.atH 6 (by decide)
theorem Mv.at7 (m : Mv) : m.cs[7]? = some (.int .i64 m.sq) := m.atH 7 (by decide)
theorem Mv.at8 (m : Mv) : m.cs[8]? = some (.int .i64 m.st) := m.atH 8 (by decide)
theorem Mv.at9 (m : Mv) : m.cs[9]? = some (.bool m.g) := m.atH 9 (by decide)
theorem Mv.at10 (m : Mv) : m.cs[10]? = some (.bool m.a) := m.atH 10 (by decide)
theorem Mv.atA {m : Mv} (h : Adr m.ro) (j : Nat) (hj : j < 16) : m.cs[11 + j]? = some (.int .u8 (m.ro.getD j 0)) := by
  rw [Mv.cs, Array.getElem?_append_right (by rw [Mv.hsize]; omega), show 11 + j - m.hd.size = j by rw [Mv.hsize]; omega, Array.getElem?_append_left (by rw [arr_size, h.1]; exact hj), arr_at _ _ (by rw [h.1]; exact hj)]
theorem Mv.at27 {m : Mv} (h : Adr m.ro) : m.cs[27]? = some (.slice m.oa m.on m.oc) := by
  rw [Mv.cs, Array.getElem?_append_right (by rw [Mv.hsize]; omega), Array.getElem?_append_right (by rw [arr_size, h.1, Mv.hsize]; omega), arr_size, h.1, Mv.hsize]; rfl
theorem Part.mvA {w : World} {b off : Nat} {m : Mv} (h : Adr m.ro) (r : Part w b off m.cs) : Part w b (off + 11) (arr m.ro) := fun j v hv => by
  have hj : j < 16 := by have := (Array.getElem?_eq_some_iff.1 hv).1; rw [arr_size, h.1] at this; exact this
  rw [Nat.add_assoc]
  refine r (11 + j) v ?_
  rw [Mv.atA h j hj, ← hv, arr_at _ _ (by rw [h.1]; exact hj)]
theorem zmv : (#[.int .i64 0, .int .i64 0, .int .i64 0, .int .i64 0, .int .i64 0, .int .i64 0, .int .i64 0, .int .i64 0, .int .i64 0, .bool false, .bool false, .int .u8 0, .int .u8 0, .int .u8 0, .int .u8 0, .int .u8 0, .int .u8 0, .int .u8 0, .int .u8 0, .int .u8 0, .int .u8 0, .int .u8 0, .int .u8 0, .int .u8 0, .int .u8 0, .int .u8 0, .int .u8 0, .slice none 0 0] : Array Value) = Mv.zero.cs := rfl
/-- A type of messages. -/
structure MT (t : TypeId) : Prop where
  desc : ∃ fs, Tryz.prog.underlying t = some (.struct fs)
  info : (Tryz.prog.info? t).map (·.size) = some 28
  full : ∀ (m : Mv), m.ro.length = 16 → Tryz.prog.built t [(0, .int .i64 m.c), (1, .int .i64 m.i), (2, .int .i64 m.v), (3, .int .i64 m.r), (4, .int .i64 m.mo), (5, .int .i64 m.pf), (6, .int .i64 m.d), (7, .int .i64 m.sq), (8, .int .i64 m.st), (9, .bool m.g), (10, .bool m.a), (11, .agg (arr m.ro)), (12, .slice m.oa m.on m.oc)] = some m.cs
  part : ∀ (c i v r mo pf d sq st : Int) (g a : Bool), Tryz.prog.built t [(0, .int .i64 c), (1, .int .i64 i), (2, .int .i64 v), (3, .int .i64 r), (4, .int .i64 mo), (5, .int .i64 pf), (6, .int .i64 d), (7, .int .i64 sq), (8, .int .i64 st), (9, .bool g), (10, .bool a)] = some (Mv.cs ⟨c, i, v, r, mo, pf, d, sq, st, g, a, zeros, none, 0, 0, []⟩)
  code : ∀ (c : Int), Tryz.prog.built t [(0, .int .i64 c)] = some (Mv.cs ⟨c, 0, 0, 0, 0, 0, 0, 0, 0, false, false, zeros, none, 0, 0, []⟩)
  bare : Tryz.prog.built t [] = some Mv.zero.cs
theorem builtM29 (c i v r mo pf d sq st : Int) (g a : Bool) (a0 a1 a2 a3 a4 a5 a6 a7 a8 a9 a10 a11 a12 a13 a14 a15 : Int) (oa : Option Addr) (on oc : Nat) (L : List Ov) : Tryz.prog.built 38 [(0, .int .i64 c), (1, .int .i64 i), (2, .int .i64 v), (3, .int .i64 r), (4, .int .i64 mo), (5, .int .i64 pf), (6, .int .i64 d), (7, .int .i64 sq), (8, .int .i64 st), (9, .bool g), (10, .bool a), (11, .agg (arr [a0, a1, a2, a3, a4, a5, a6, a7, a8, a9, a10, a11, a12, a13, a14, a15])), (12, .slice oa on oc)] =
    some (Mv.cs ⟨c, i, v, r, mo, pf, d, sq, st, g, a, [a0, a1, a2, a3, a4, a5, a6, a7, a8, a9, a10, a11, a12, a13, a14, a15], oa, on, oc, L⟩) := by kernel_rfl
theorem fullM29 (m : Mv) (h : m.ro.length = 16) : Tryz.prog.built 38 [(0, .int .i64 m.c), (1, .int .i64 m.i), (2, .int .i64 m.v), (3, .int .i64 m.r), (4, .int .i64 m.mo), (5, .int .i64 m.pf), (6, .int .i64 m.d), (7, .int .i64 m.sq), (8, .int .i64 m.st), (9, .bool m.g), (10, .bool m.a), (11, .agg (arr m.ro)), (12, .slice m.oa m.on m.oc)] = some m.cs := by
  obtain ⟨c, i, v, r, mo, pf, d, sq, st, g, a, ro, oa, on, oc, L⟩ := m
  simp only at h
  match ro, h with
  | [a0, a1, a2, a3, a4, a5, a6, a7, a8, a9, a10, a11, a12, a13, a14, a15], _ => exact builtM29 c i v r mo pf d sq st g a a0 a1 a2 a3 a4 a5 a6 a7 a8 a9 a10 a11 a12 a13 a14 a15 oa on oc L
theorem partM29 (c i v r mo pf d sq st : Int) (g a : Bool) : Tryz.prog.built 38 [(0, .int .i64 c), (1, .int .i64 i), (2, .int .i64 v), (3, .int .i64 r), (4, .int .i64 mo), (5, .int .i64 pf), (6, .int .i64 d), (7, .int .i64 sq), (8, .int .i64 st), (9, .bool g), (10, .bool a)] = some (Mv.cs ⟨c, i, v, r, mo, pf, d, sq, st, g, a, zeros, none, 0, 0, []⟩) := by kernel_rfl
theorem codeM29 (c : Int) : Tryz.prog.built 38 [(0, .int .i64 c)] = some (Mv.cs ⟨c, 0, 0, 0, 0, 0, 0, 0, 0, false, false, zeros, none, 0, 0, []⟩) := by kernel_rfl
theorem m29 : MT 38 := ⟨⟨_, Tryz.underlying38⟩, by kernel_rfl, fullM29, partM29, codeM29, by kernel_rfl⟩
theorem builtM25 (c i v r mo pf d sq st : Int) (g a : Bool) (a0 a1 a2 a3 a4 a5 a6 a7 a8 a9 a10 a11 a12 a13 a14 a15 : Int) (oa : Option Addr) (on oc : Nat) (L : List Ov) : Tryz.prog.built 27 [(0, .int .i64 c), (1, .int .i64 i), (2, .int .i64 v), (3, .int .i64 r), (4, .int .i64 mo), (5, .int .i64 pf), (6, .int .i64 d), (7, .int .i64 sq), (8, .int .i64 st), (9, .bool g), (10, .bool a), (11, .agg (arr [a0, a1, a2, a3, a4, a5, a6, a7, a8, a9, a10, a11, a12, a13, a14, a15])), (12, .slice oa on oc)] =
    some (Mv.cs ⟨c, i, v, r, mo, pf, d, sq, st, g, a, [a0, a1, a2, a3, a4, a5, a6, a7, a8, a9, a10, a11, a12, a13, a14, a15], oa, on, oc, L⟩) := by kernel_rfl
theorem fullM25 (m : Mv) (h : m.ro.length = 16) : Tryz.prog.built 27 [(0, .int .i64 m.c), (1, .int .i64 m.i), (2, .int .i64 m.v), (3, .int .i64 m.r), (4, .int .i64 m.mo), (5, .int .i64 m.pf), (6, .int .i64 m.d), (7, .int .i64 m.sq), (8, .int .i64 m.st), (9, .bool m.g), (10, .bool m.a), (11, .agg (arr m.ro)), (12, .slice m.oa m.on m.oc)] = some m.cs := by
  obtain ⟨c, i, v, r, mo, pf, d, sq, st, g, a, ro, oa, on, oc, L⟩ := m
  simp only at h
  match ro, h with
  | [a0, a1, a2, a3, a4, a5, a6, a7, a8, a9, a10, a11, a12, a13, a14, a15], _ => exact builtM25 c i v r mo pf d sq st g a a0 a1 a2 a3 a4 a5 a6 a7 a8 a9 a10 a11 a12 a13 a14 a15 oa on oc L
theorem partM25 (c i v r mo pf d sq st : Int) (g a : Bool) : Tryz.prog.built 27 [(0, .int .i64 c), (1, .int .i64 i), (2, .int .i64 v), (3, .int .i64 r), (4, .int .i64 mo), (5, .int .i64 pf), (6, .int .i64 d), (7, .int .i64 sq), (8, .int .i64 st), (9, .bool g), (10, .bool a)] = some (Mv.cs ⟨c, i, v, r, mo, pf, d, sq, st, g, a, zeros, none, 0, 0, []⟩) := by kernel_rfl
theorem codeM25 (c : Int) : Tryz.prog.built 27 [(0, .int .i64 c)] = some (Mv.cs ⟨c, 0, 0, 0, 0, 0, 0, 0, 0, false, false, zeros, none, 0, 0, []⟩) := by kernel_rfl
theorem m25 : MT 27 := ⟨⟨_, Tryz.underlying27⟩, by kernel_rfl, fullM25, partM25, codeM25, by kernel_rfl⟩
theorem ldM {ops : Array Oper} {rest : List Oper} {o : Oper} {a : Act} {w : World} {Q : Exit → Act → World → Prop} {t : TypeId} (ht : MT t) (x : Operand) (ho : o.op = .load t x) (hw : Region.wanted o (yielded ops a.tmps) = true) (g off : Nat) (hx : a.eval x = .pointer (some ⟨g, off, none⟩)) (m : Mv) (hl : Adr m.ro) (hg : Part w g off m.cs)
    (hn : wpList Tryz.prog ops Q rest (a.put o.dst (.agg m.cs)) w) : wpList Tryz.prog ops Q (o :: rest) a w := by
  obtain ⟨fs, h1⟩ := ht.desc
  exact wp_ld t x ho hw g off hx m.cs _ h1 rfl (by rw [Mv.size hl]; exact ht.info) hg hn
theorem stM {ops : Array Oper} {rest : List Oper} {o : Oper} {a : Act} {w : World} {Q : Exit → Act → World → Prop} {t : TypeId} (ht : MT t) (x y : Operand) (ho : o.op = .store t x y) (hgd : o.guard = none) (g : Nat) (m : Mv) (hl : Adr m.ro) (hx : a.eval x = .pointer (some ⟨g, 0, none⟩)) (hy : a.eval y = .agg m.cs) (t' : TypeId) (old : Mv) (hlo : Adr old.ro) (hg : Row w g t' old.cs)
    (hn : wpList Tryz.prog ops Q rest (a.put o.dst undef) (w.setRow g m.cs)) : wpList Tryz.prog ops Q (o :: rest) a w :=
  wp_st t x y ho hgd g m.cs hx hy (by rw [Mv.size hl]; exact ht.info) m.one t' old.cs (by rw [Mv.size hl, Mv.size hlo]) hg hn
theorem bdMp {ops : Array Oper} {rest : List Oper} {o : Oper} {a : Act} {w : World} {Q : Exit → Act → World → Prop} {t : TypeId} (ht : MT t) (x0 x1 x2 x3 x4 x5 x6 x7 x8 x9 x10 : Operand) (ho : o.op = .build t #[(0, x0), (1, x1), (2, x2), (3, x3), (4, x4), (5, x5), (6, x6), (7, x7), (8, x8), (9, x9), (10, x10)]) (hg : o.guard = none)
    (m : Mv) (h0 : a.eval x0 = .int .i64 m.c) (h1 : a.eval x1 = .int .i64 m.i) (h2 : a.eval x2 = .int .i64 m.v) (h3 : a.eval x3 = .int .i64 m.r) (h4 : a.eval x4 = .int .i64 m.mo) (h5 : a.eval x5 = .int .i64 m.pf) (h6 : a.eval x6 = .int .i64 m.d) (h7 : a.eval x7 = .int .i64 m.sq) (h8 : a.eval x8 = .int .i64 m.st) (h9 : a.eval x9 = .bool m.g) (h10 : a.eval x10 = .bool m.a) (hr : m.ro = zeros) (hoa : m.oa = none) (hon : m.on = 0) (hoc : m.oc = 0)
    (hn : wpList Tryz.prog ops Q rest (a.put o.dst (.agg m.cs)) w) : wpList Tryz.prog ops Q (o :: rest) a w :=
  wp_bd t _ ho hg m.cs (by
    simp only [List.map_toArray, List.map_cons, List.map_nil, h0, h1, h2, h3, h4, h5, h6, h7, h8, h9, h10]
    obtain ⟨c, i, v, r, mo, pf, d, sq, st, g, a, ro, oa, on, oc, L⟩ := m
    simp only at hr hoa hon hoc
    subst hr; subst hoa; subst hon; subst hoc
    exact ht.part c i v r mo pf d sq st g a) hn
theorem bdMz {ops : Array Oper} {rest : List Oper} {o : Oper} {a : Act} {w : World} {Q : Exit → Act → World → Prop} {t : TypeId} (ht : MT t) (ho : o.op = .build t #[]) (hg : o.guard = none)
    (hn : wpList Tryz.prog ops Q rest (a.put o.dst (.agg Mv.zero.cs)) w) : wpList Tryz.prog ops Q (o :: rest) a w :=
  wp_bd t _ ho hg Mv.zero.cs (by simp only [List.map_toArray, List.map_nil]; exact ht.bare) hn
theorem yldM {ops : Array Oper} {S : World → Prop} {op : Oper} {a : Act} {t : TypeId} (ht : MT t) (hw : Region.wanted op (yielded ops a.tmps) = true) (x : Operand) (ho : op.op = .load t x)
    (g off : Nat) (hx : a.eval x = .pointer (some ⟨g, off, none⟩)) (m : Mv) (hl : Adr m.ro) (hS : ∀ w, S w → Part w g off m.cs) : YieldsIf Tryz.prog ops S op (.agg m.cs) a := by
  obtain ⟨fs, h1⟩ := ht.desc
  exact yields_ldo hw t x ho g off hx m.cs _ hS h1 rfl (by rw [Mv.size hl]; exact ht.info)
theorem ybdM {ops : Array Oper} {S : World → Prop} {op : Oper} {a : Act} {t : TypeId} (ht : MT t) (hw : Region.wanted op (yielded ops a.tmps) = true) (x0 x1 x2 x3 x4 x5 x6 x7 x8 x9 x10 x11 x12 : Operand) (ho : op.op = .build t #[(0, x0), (1, x1), (2, x2), (3, x3), (4, x4), (5, x5), (6, x6), (7, x7), (8, x8), (9, x9), (10, x10), (11, x11), (12, x12)])
    (m : Mv) (hl : Adr m.ro) (h0 : a.eval x0 = .int .i64 m.c) (h1 : a.eval x1 = .int .i64 m.i) (h2 : a.eval x2 = .int .i64 m.v) (h3 : a.eval x3 = .int .i64 m.r) (h4 : a.eval x4 = .int .i64 m.mo) (h5 : a.eval x5 = .int .i64 m.pf) (h6 : a.eval x6 = .int .i64 m.d) (h7 : a.eval x7 = .int .i64 m.sq) (h8 : a.eval x8 = .int .i64 m.st) (h9 : a.eval x9 = .bool m.g) (h10 : a.eval x10 = .bool m.a) (h11 : a.eval x11 = .agg (arr m.ro)) (h12 : a.eval x12 = .slice m.oa m.on m.oc) : YieldsIf Tryz.prog ops S op (.agg m.cs) a :=
  .inl ⟨hw, fun w _ => by
    have hf : Tryz.prog.built t ((#[(0, x0), (1, x1), (2, x2), (3, x3), (4, x4), (5, x5), (6, x6), (7, x7), (8, x8), (9, x9), (10, x10), (11, x11), (12, x12)] : Array (Nat × Operand)).map fun (i, x) => (i, a.eval x)).toList = some m.cs := by
      simp only [List.map_toArray, List.map_cons, List.map_nil, h0, h1, h2, h3, h4, h5, h6, h7, h8, h9, h10, h11, h12]; exact ht.full m hl.1
    unfold execOp
    simp only [ho, Sem.run_bind, run_build w t _ m.cs hf, Result.andThen_ok]
    rfl⟩
theorem resM {fn : Func} {p : Tmp} {t : TypeId} (ht : MT t) (hf : fn.results = #[.cell p t]) (tmps : Array Value) (w : World) (g : Nat) (t' : TypeId) (m : Mv) (hl : Adr m.ro)
    (hp : tmps.getD p undef = .pointer (some ⟨g, 0, none⟩)) (hg : Row w g t' m.cs) : (results fn tmps).run Tryz.prog w = .ok (.agg m.cs) w := by
  obtain ⟨fs, h1⟩ := ht.desc
  exact results_cell_row hf tmps w g t' m.cs (0, 0) _ hp hg h1 rfl (by rw [Mv.size hl]; exact ht.info)
theorem ldRunM {t : TypeId} (ht : MT t) (w : World) (g : Nat) (t' : TypeId) (m : Mv) (hl : Adr m.ro) (hg : Row w g t' m.cs) : (loadVar t ⟨g, 0, none⟩).run Tryz.prog w = .ok (.agg m.cs) w := by
  obtain ⟨fs, h1⟩ := ht.desc
  exact run_loadVar_row w g t' t m.cs (0, 0) _ hg h1 rfl (by rw [Mv.size hl]; exact ht.info)
theorem resMe {fn : Func} {p u : Tmp} {t : TypeId} (ht : MT t) (hf : fn.results = #[.cell p t, .tmp u]) (tmps : Array Value) (w : World) (g : Nat) (t' : TypeId) (m : Mv) (hl : Adr m.ro) (v : Value)
    (hp : tmps.getD p undef = .pointer (some ⟨g, 0, none⟩)) (hu : tmps.getD u undef = v) (hg : Row w g t' m.cs) : (results fn tmps).run Tryz.prog w = .ok (.tuple #[.agg m.cs, v]) w := by
  rw [results_cell_tmp hf]
  have hp' : tmps[p]?.getD undef = .pointer (some ⟨g, 0, none⟩) := by simpa using hp
  have hu' : tmps[u]?.getD undef = v := by simpa using hu
  simp [hp', hu', asAddr, ldRunM ht w g t' m hl hg]
theorem layM_new (w : World) (t : TypeId) (m : Mv) : Row ((w.alloc (.cells Mv.zero.cs t)).setRow w.heap.size m.cs) w.heap.size t m.cs := (Row.new w t _).setRow _
theorem layM_below (w : World) (t : TypeId) (m : Mv) : Below w.heap.size w ((w.alloc (.cells Mv.zero.cs t)).setRow w.heap.size m.cs) := below_setRow' (balloc (Below.refl w.heap.size w) _) (Nat.le_refl _) _
end Go.Proofs.YtbklpelikaapoaaGreatDoor

namespace Go.Proofs.YtbklpelikaapoaaGreatDoor
open Go.ChangeShapes Go.WideShapes Go.ChangeAt Go.RowKit Go.Deep
set_option linter.unusedVariables false
set_option linter.unusedSimpArgs false

/-- Numbers in memory, below a bound. -/
structure NLies (B : Nat) (w : World) (a : Option Addr) (n cap : Nat) (l : List Int) : Prop where
  len : l.length = n
  le : n ≤ cap
  max : cap ≤ maxLen
  isNil : a = none → cap = 0
  cell : ∀ i, i < n → ∃ b off, a = some ⟨b, off, none⟩ ∧ b < B ∧ w.cell? ⟨b, off + i, none⟩ = some (.int .i64 (l.getD i 0))
theorem NLies.lies {B : Nat} {w : World} {a : Option Addr} {n cap : Nat} {l : List Int} (h : NLies B w a n cap l) : Lies .i64 w a n cap l :=
  ⟨h.len, h.le, h.max, h.isNil, fun k hk => by obtain ⟨b, off, h1, _, h2⟩ := h.cell k hk; exact ⟨b, off, h1, h2⟩⟩
/-- Fields in memory. -/
structure FLies (B : Nat) (w : World) (a : Option Addr) (n cap : Nat) (l : List Fl) : Prop where
  len : l.length = n
  le : n ≤ cap
  max : cap ≤ maxLen
  cell : ∀ i, i < n → ∃ b off, a = some ⟨b, off, none⟩ ∧ b < B ∧ w.cell? ⟨b, off + i * 3, none⟩ = some (.int .i64 ((l.getD i Fl.none).p : Int)) ∧ w.cell? ⟨b, off + i * 3 + 1, none⟩ = some (.int .i64 ((l.getD i Fl.none).s : Int)) ∧ w.cell? ⟨b, off + i * 3 + 2, none⟩ = some (.int .i64 ((l.getD i Fl.none).l : Int))
/-- Parts in memory. -/
structure PaLies (B : Nat) (w : World) (a : Option Addr) (n cap : Nat) (l : List Pa) : Prop where
  len : l.length = n
  le : n ≤ cap
  max : cap ≤ maxLen
  cell : ∀ i, i < n → ∃ b off, a = some ⟨b, off, none⟩ ∧ b < B ∧ w.cell? ⟨b, off + i * 2, none⟩ = some (.int .i64 ((l.getD i Pa.none).z : Int)) ∧ ∃ fa fn fc, w.cell? ⟨b, off + i * 2 + 1, none⟩ = some (.slice fa fn fc) ∧ FLies B w fa fn fc (l.getD i Pa.none).f
/-- The table of codes in memory. -/
structure CVars (B : Nat) (w : World) : Prop where
  pos : 0 < B
  le : B ≤ w.heap.size
  word : ∀ k, k < 4 → w.cell? ⟨0, k * 4, none⟩ = some (.string (cwd k))
  parts : ∀ k, k < 4 → ∃ a n cap, w.cell? ⟨0, k * 4 + 1, none⟩ = some (.slice a n cap) ∧ PaLies B w a n cap (cpa k)
  root : ∀ k, k < 4 → w.cell? ⟨0, k * 4 + 2, none⟩ = some (.bool (crt k))
  kinds : ∀ k, k < 4 → ∃ a n cap, w.cell? ⟨0, k * 4 + 3, none⟩ = some (.slice a n cap) ∧ NLies B w a n cap (cki k)
section
variable {B : Nat} {w w' : World}
theorem NLies.same {a : Option Addr} {n cap : Nat} {l : List Int} (h : NLies B w a n cap l) (hc : ∀ b o, b < B → w'.cell? ⟨b, o, none⟩ = w.cell? ⟨b, o, none⟩) : NLies B w' a n cap l :=
  ⟨h.len, h.le, h.max, h.isNil, fun i hi => by
    obtain ⟨b, off, h1, h2, h3⟩ := h.cell i hi
    exact ⟨b, off, h1, h2, (hc _ _ h2).trans h3⟩⟩
theorem FLies.same {a : Option Addr} {n cap : Nat} {l : List Fl} (h : FLies B w a n cap l) (hc : ∀ b o, b < B → w'.cell? ⟨b, o, none⟩ = w.cell? ⟨b, o, none⟩) : FLies B w' a n cap l :=
  ⟨h.len, h.le, h.max, fun i hi => by
    obtain ⟨b, off, h1, h2, h3, h4, h5⟩ := h.cell i hi
    exact ⟨b, off, h1, h2, (hc _ _ h2).trans h3, (hc _ _ h2).trans h4, (hc _ _ h2).trans h5⟩⟩
theorem PaLies.same {a : Option Addr} {n cap : Nat} {l : List Pa} (h : PaLies B w a n cap l) (hc : ∀ b o, b < B → w'.cell? ⟨b, o, none⟩ = w.cell? ⟨b, o, none⟩) : PaLies B w' a n cap l :=
  ⟨h.len, h.le, h.max, fun i hi => by
    obtain ⟨b, off, h1, h2, h3, fa, fn, fc, h4, h5⟩ := h.cell i hi
    exact ⟨b, off, h1, h2, (hc _ _ h2).trans h3, fa, fn, fc, (hc _ _ h2).trans h4, h5.same hc⟩⟩
theorem CVars.same (h : CVars B w) (hs : w.heap.size ≤ w'.heap.size) (hc : ∀ b o, b < B → w'.cell? ⟨b, o, none⟩ = w.cell? ⟨b, o, none⟩) : CVars B w' :=
  ⟨h.pos, Nat.le_trans h.le hs, fun k hk => (hc _ _ h.pos).trans (h.word k hk), fun k hk => by
    obtain ⟨a, n, cap, h1, h2⟩ := h.parts k hk
    exact ⟨a, n, cap, (hc _ _ h.pos).trans h1, h2.same hc⟩, fun k hk => (hc _ _ h.pos).trans (h.root k hk), fun k hk => by
    obtain ⟨a, n, cap, h1, h2⟩ := h.kinds k hk
    exact ⟨a, n, cap, (hc _ _ h.pos).trans h1, h2.same hc⟩⟩
/-- Both tables. -/
structure CV (B : Nat) (w : World) : Prop where
  c : CVars B w
  o : Vars B w
theorem CV.le (h : CV B w) : B ≤ w.heap.size := h.c.le
theorem cells_below {B0 : Nat} (hb : Below B0 w w') (hB : B ≤ B0) : ∀ b o, b < B → w'.cell? ⟨b, o, none⟩ = w.cell? ⟨b, o, none⟩ := fun b o h => hb.cell (p := ⟨b, o, none⟩) (Nat.lt_of_lt_of_le h hB)
theorem cells_grown {c : Nat} (hg : w.grownBy w' (some c)) (hc : B ≤ c) (hl : B ≤ w.heap.size) : ∀ b o, b < B → w'.cell? ⟨b, o, none⟩ = w.cell? ⟨b, o, none⟩ := fun b o hlt => by
  have := hg.block b (Nat.lt_of_lt_of_le hlt hl) (fun e => by have := Option.some.inj e; omega)
  simp only [World.cell?, this]
theorem CV.same (h : CV B w) (hs : w.heap.size ≤ w'.heap.size) (hc : ∀ b o, b < B → w'.cell? ⟨b, o, none⟩ = w.cell? ⟨b, o, none⟩) : CV B w' := ⟨h.c.same hs hc, h.o.same hs hc⟩
theorem CV.below (h : CV B w) (hb : Below w.heap.size w w') : CV B w' := h.same hb.size (cells_below hb h.le)
theorem CV.rd {B0 : Nat} (h : CV B w) (hb : Below B0 w w') (hB : B ≤ B0) : CV B w' := h.same hb.size (cells_below hb hB)
theorem CV.grown {c : Nat} (h : CV B w) (hg : w.grownBy w' (some c)) (hc : B ≤ c) : CV B w' := h.same hg.size (cells_grown hg hc h.le)
theorem CV.drewN (h : CV B w) (q : Nat) : CV B (w.drewN q) := h.same (Nat.le_refl _) (fun _ _ _ => rfl)
end

theorem isCode_any (n : Int) (w : World) : Calls Tryz.prog 134 #[.int .i64 n] w fun e w' => e = .returned (.bool (codB n)) ∧ w' = w := by
  have HV : Hid (codB n = decide (0 ≤ n ∧ n < 4)) := rfl
  generalize codB n = b at *
  by_cases h0 : 0 ≤ n
  · have e0 : decide (0 ≤ n) = true := decide_eq_true h0
    by_cases h1 : n < 4
    · have e1 : decide (n < 4) = true := decide_eq_true h1
      go_enter Tryz.func134, Tryz.ntmps134
      go_wp2
      go_ret
      exact ⟨ret_bool (by rw [HV.out]; simp; omega), rfl⟩
    · have e1 : decide (n < 4) = false := decide_eq_false h1
      go_enter Tryz.func134, Tryz.ntmps134
      go_wp2
      go_ret
      exact ⟨ret_bool (by rw [HV.out]; simp; omega), rfl⟩
  · have e0 : decide (0 ≤ n) = false := decide_eq_false h0
    go_enter Tryz.func134, Tryz.ntmps134
    go_wp2
    go_ret
    exact ⟨ret_bool (by rw [HV.out]; simp; omega), rfl⟩
theorem may_any {B : Nat} (c k : Int) (w : World) (hV : CV B w) : Calls Tryz.prog 152 #[.int .i64 c, .int .i64 k] w fun e w' => e = .returned (.bool (mayB c k)) ∧ w' = w := by
  cases hk : codB c
  · have HV : Hid (mayB c k = false) := by simp [Hid, mayB, hk]
    go_enter Tryz.func152, Tryz.ntmps152
    go_wp2_with fail
    refine (isCode_any _ _).mono ?_
    rintro e w1 ⟨rfl, rfl⟩
    rw [hk]
    go_wp2_with fail
    go_ret
    exact ⟨ret_bool HV.out.symm, rfl⟩
  · obtain ⟨j, rfl, hk4⟩ := cod_nat hk
    have HV : Hid (mayB j k = decide (k ∈ cki j)) := by simp [Hid, mayB, hk]
    obtain ⟨a, n, cap, c0, hN⟩ := hV.c.kinds j hk4
    have HN := hid hN.lies
    have HK := hid hk
    clear hV hk hN
    go_enter Tryz.func152, Tryz.ntmps152
    go_wp2_with fail
    refine (isCode_any _ _).mono ?_
    rintro e w1 ⟨rfl, rfl⟩
    rw [HK.out]
    go_wp2_with fail
    refine (contains_any a n cap _ k _ HN.out).mono ?_
    rintro e w1 ⟨rfl, rfl⟩
    go_wp2_with fail
    go_ret
    exact ⟨ret_bool HV.out.symm, rfl⟩
theorem flag_any (b : Bool) (w : World) : Calls Tryz.prog 80 #[.bool b] w fun e w' => e = .returned (.int .i64 (bitI b)) ∧ w' = w := by
  cases b
  all_goals
    go_enter Tryz.func80, Tryz.ntmps80
    go_wp2
    go_ret
    exact ⟨rfl, rfl⟩
end Go.Proofs.YtbklpelikaapoaaGreatDoor

namespace Go.Proofs.YtbklpelikaapoaaGreatDoor
open Go.ChangeShapes Go.WideShapes Go.ChangeAt Go.RowKit Go.Deep
set_option linter.unusedVariables false
set_option linter.unusedSimpArgs false

theorem nArr_size (l : List Int) : (nArr l).size = l.length := by simp [nArr]
theorem nArr_one (l : List Int) : (nArr l).all (·.oneCell') = true := by simp [nArr, Value.oneCell']
theorem nArr_set (l : List Int) (j : Nat) (x : Int) : (nArr l).setIfInBounds j (.int .i64 x) = nArr (l.set j x) := by
  apply Array.ext_getElem?
  intro i
  simp [nArr, Array.getElem?_setIfInBounds, List.getElem?_set]
theorem zvl : (#[.int .i64 0, .int .i64 0, .int .i64 0, .int .i64 0, .int .i64 0, .int .i64 0, .int .i64 0, .int .i64 0, .int .i64 0, .int .i64 0, .int .i64 0] : Array Value) = nArr zer11 := rfl
theorem size74 : (Tryz.prog.info? 103).map (·.size) = some 11 := by kernel_rfl
theorem built74 (x0 x1 x2 x3 x4 x5 x6 x7 x8 x9 x10 : Int) : Tryz.prog.built 103 [(0, .int .i64 x0), (1, .int .i64 x1), (2, .int .i64 x2), (3, .int .i64 x3), (4, .int .i64 x4), (5, .int .i64 x5), (6, .int .i64 x6), (7, .int .i64 x7), (8, .int .i64 x8), (9, .int .i64 x9), (10, .int .i64 x10)] = some (nArr [x0, x1, x2, x3, x4, x5, x6, x7, x8, x9, x10]) := by kernel_rfl
theorem built74z : Tryz.prog.built 103 [] = some (nArr zer11) := by kernel_rfl
theorem info3n : (Tryz.prog.info? 3).isSome = true := by kernel_rfl
theorem eqItems_n (w : World) (l m : List Int) (h : l.length = m.length) : ∀ (is : List Nat), (∀ i ∈ is, i < l.length) →
    (Op.eqItems 9999 3 (Tryz.prog.cellsOf 3) (nArr l) (nArr m) is).run Tryz.prog w = .ok (is.all fun i => l.getD i 0 == m.getD i 0) w
  | [], _ => by simp [Op.eqItems]
  | i :: is, hi => by
    have h1 : Tryz.prog.cellsOf 3 = 1 := by kernel_rfl
    have hil : i < l.length := hi i (by simp)
    have ih := eqItems_n w l m h is (fun j hj => hi j (by simp [hj]))
    have hp : ∀ l' : List Int, i < l'.length → (part 3 (nArr l') (i * 1)).run Tryz.prog w = .ok (.int .i64 (l'.getD i 0)) w := by
      intro l' hl'
      have hagg : (isAgg 3).run Tryz.prog w = .ok false w := by unfold isAgg; rw [Sem.run_bind, run_underlying Tryz.underlying3 w]; rfl
      simp only [part, Sem.run_bind, hagg, Result.andThen_ok, Bool.false_eq_true, if_false, Nat.mul_one, nArr_at l' i hl', Sem.run_pure]
    simp only [Op.eqItems, Sem.run_bind, h1, hp l hil, hp m (by omega), Result.andThen_ok, run_equalIn_int (P := Tryz.prog) w 9998 3 .i64 .i64 (l.getD i 0) (m.getD i 0) Tryz.underlying3]
    rw [h1] at ih
    cases hb : (l.getD i 0 == m.getD i 0)
    · simp only [List.all_cons, hb, Bool.false_and, Bool.not_false, if_true, Sem.run_pure]
    · simp only [List.all_cons, hb, Bool.true_and, Bool.not_true, Bool.false_eq_true, if_false]; exact ih
theorem eq74 (l m : List Int) (hl : l.length = 11) (hm : m.length = 11) : ∀ w : World, (Op.equalIn 10000 103 (.agg (nArr l)) (.agg (nArr m))).run Tryz.prog w = .ok (l == m) w := fun w => by
  obtain ⟨i, hi⟩ := Option.isSome_iff_exists.1 info3n
  rw [run_equalIn_array w 9999 (nArr l) (nArr m) Tryz.underlying103 hi, eqItems_n w l m (by omega) _ (by intro i hi; simp at hi; omega), all_eq l m 11 hl hm]
theorem ld74 {ops : Array Oper} {rest : List Oper} {o : Oper} {a : Act} {w : World} {Q : Exit → Act → World → Prop} (x : Operand) (ho : o.op = .load 103 x) (hw : Region.wanted o (yielded ops a.tmps) = true) (g off : Nat) (hx : a.eval x = .pointer (some ⟨g, off, none⟩)) (l : List Int) (hl : l.length = 11) (hg : Part w g off (nArr l))
    (h : wpList Tryz.prog ops Q rest (a.put o.dst (.agg (nArr l))) w) : wpList Tryz.prog ops Q (o :: rest) a w :=
  wp_ld 103 x ho hw g off hx (nArr l) _ Tryz.underlying103 rfl (by rw [nArr_size, hl]; exact size74) hg h
theorem st74 {ops : Array Oper} {rest : List Oper} {o : Oper} {a : Act} {w : World} {Q : Exit → Act → World → Prop} (x y : Operand) (ho : o.op = .store 103 x y) (hgd : o.guard = none) (g : Nat) (l : List Int) (hl : l.length = 11) (hx : a.eval x = .pointer (some ⟨g, 0, none⟩)) (hy : a.eval y = .agg (nArr l)) (t' : TypeId) (old : List Int) (hlo : old.length = 11) (hg : Row w g t' (nArr old))
    (hn : wpList Tryz.prog ops Q rest (a.put o.dst undef) (w.setRow g (nArr l))) : wpList Tryz.prog ops Q (o :: rest) a w :=
  wp_st 103 x y ho hgd g (nArr l) hx hy (by rw [nArr_size, hl]; exact size74) (nArr_one _) t' (nArr old) (by rw [nArr_size, nArr_size, hl, hlo]) hg hn
theorem bd74z {ops : Array Oper} {rest : List Oper} {o : Oper} {a : Act} {w : World} {Q : Exit → Act → World → Prop} (ho : o.op = .build 103 #[]) (hg : o.guard = none)
    (hn : wpList Tryz.prog ops Q rest (a.put o.dst (.agg (nArr zer11))) w) : wpList Tryz.prog ops Q (o :: rest) a w :=
  wp_bd 103 _ ho hg (nArr zer11) (by simp only [List.map_toArray, List.map_nil]; exact built74z) hn
theorem ybd74 {ops : Array Oper} {S : World → Prop} {op : Oper} {a : Act} (hw : Region.wanted op (yielded ops a.tmps) = true) (y0 y1 y2 y3 y4 y5 y6 y7 y8 y9 y10 : Operand) (ho : op.op = .build 103 #[(0, y0), (1, y1), (2, y2), (3, y3), (4, y4), (5, y5), (6, y6), (7, y7), (8, y8), (9, y9), (10, y10)]) (x0 x1 x2 x3 x4 x5 x6 x7 x8 x9 x10 : Int) (h0 : a.eval y0 = .int .i64 x0) (h1 : a.eval y1 = .int .i64 x1) (h2 : a.eval y2 = .int .i64 x2) (h3 : a.eval y3 = .int .i64 x3) (h4 : a.eval y4 = .int .i64 x4) (h5 : a.eval y5 = .int .i64 x5) (h6 : a.eval y6 = .int .i64 x6) (h7 : a.eval y7 = .int .i64 x7) (h8 : a.eval y8 = .int .i64 x8) (h9 : a.eval y9 = .int .i64 x9) (h10 : a.eval y10 = .int .i64 x10) : YieldsIf Tryz.prog ops S op (.agg (nArr [x0, x1, x2, x3, x4, x5, x6, x7, x8, x9, x10])) a :=
  .inl ⟨hw, fun w _ => by
    have hf : Tryz.prog.built 103 ((#[(0, y0), (1, y1), (2, y2), (3, y3), (4, y4), (5, y5), (6, y6), (7, y7), (8, y8), (9, y9), (10, y10)] : Array (Nat × Operand)).map fun (i, x) => (i, a.eval x)).toList = some (nArr [x0, x1, x2, x3, x4, x5, x6, x7, x8, x9, x10]) := by
      simp only [List.map_toArray, List.map_cons, List.map_nil, h0, h1, h2, h3, h4, h5, h6, h7, h8, h9, h10]; exact built74 x0 x1 x2 x3 x4 x5 x6 x7 x8 x9 x10
    unfold execOp
    simp only [ho, Sem.run_bind, run_build w 103 _ (nArr [x0, x1, x2, x3, x4, x5, x6, x7, x8, x9, x10]) hf, Result.andThen_ok]
    rfl⟩
theorem ybd26 {ops : Array Oper} {S : World → Prop} {op : Oper} {a : Act} (hw : Region.wanted op (yielded ops a.tmps) = true) (ho : op.op = .build 33 #[]) : YieldsIf Tryz.prog ops S op (.agg (arr zeros)) a :=
  .inl ⟨hw, fun w _ => by
    have hf : Tryz.prog.built 33 ((#[] : Array (Nat × Operand)).map fun (i, x) => (i, a.eval x)).toList = some (arr zeros) := by
      simp only [List.map_toArray, List.map_nil]; exact built41
    unfold execOp
    simp only [ho, Sem.run_bind, run_build w 33 _ (arr zeros) hf, Result.andThen_ok]
    rfl⟩
theorem res74 {fn : Func} {p : Tmp} (hf : fn.results = #[.cell p 103]) (tmps : Array Value) (w : World) (g : Nat) (t' : TypeId) (l : List Int) (hl : l.length = 11)
    (hp : tmps.getD p undef = .pointer (some ⟨g, 0, none⟩)) (hg : Row w g t' (nArr l)) : (results fn tmps).run Tryz.prog w = .ok (.agg (nArr l)) w :=
  results_cell_row hf tmps w g t' (nArr l) (0, 0) _ hp hg Tryz.underlying103 rfl (by rw [nArr_size, hl]; exact size74)
theorem layV_new (w : World) (v : List Int) : Row ((w.alloc (.cells (nArr zer11) 103)).setRow w.heap.size (nArr v)) w.heap.size 103 (nArr v) := (Row.new w 103 _).setRow _
theorem layV_below (w : World) (v : List Int) : Below w.heap.size w ((w.alloc (.cells (nArr zer11) 103)).setRow w.heap.size (nArr v)) := below_setRow' (balloc (Below.refl w.heap.size w) _) (Nat.le_refl _) _
set_option maxRecDepth 100000 in
set_option maxHeartbeats 1600000 in
theorem valuesOf_any (m : Mv) (w : World) (hr : Adr m.ro) : Calls Tryz.prog 50 #[.agg m.cs] w fun e w' => e = .returned (.agg (nArr m.p.vs)) ∧ Below w.heap.size w w' := by
  have hz := zvl
  have hq := eq41 m.ro zeros hr.1 adr_zeros.1
  have HA := hid hr
  have R1 := hid ((Row.new w 38 m.cs).alloc (.cells (nArr zer11) 103))
  have Z1 := hid (Row.new (w.alloc (.cells m.cs 38)) 103 (nArr zer11))
  have B1 := hid (balloc (balloc (Below.refl w.heap.size w) (.cells m.cs 38)) (.cells (nArr zer11) 103))
  have hs1 : (w.alloc (.cells m.cs 38)).heap.size = w.heap.size + 1 := World.size_alloc ..
  rw [hs1] at Z1
  clear hr
  go_enter Tryz.func50, Tryz.ntmps50
  go_upto_region 1 with fail
  generalize hw1 : (w.alloc (.cells m.cs 38)).alloc (.cells (nArr zer11) 103) = w1 at *
  generalize hg0 : w.heap.size = g0 at *
  clear hw1 hs1 hz
  refine wp_region_held_drew (S := fun w' => w'.cell? ⟨g0, 1, none⟩ = some (.int .i64 m.i) ∧ (w'.cell? ⟨g0, 2, none⟩ = some (.int .i64 m.v) ∧ (w'.cell? ⟨g0, 3, none⟩ = some (.int .i64 m.r) ∧ (w'.cell? ⟨g0, 4, none⟩ = some (.int .i64 m.mo) ∧ (w'.cell? ⟨g0, 5, none⟩ = some (.int .i64 m.pf) ∧ (w'.cell? ⟨g0, 6, none⟩ = some (.int .i64 m.d) ∧ (w'.cell? ⟨g0, 7, none⟩ = some (.int .i64 m.sq) ∧ (w'.cell? ⟨g0, 8, none⟩ = some (.int .i64 m.st) ∧ (w'.cell? ⟨g0, 9, none⟩ = some (.bool m.g) ∧ (w'.cell? ⟨g0, 10, none⟩ = some (.bool m.a) ∧ (Hid (Row w' g0 38 m.cs)))))))))))) (by kernel_rfl) ?_ (fun hHeld => ?_)
  · exact ⟨(R1.out.cell 1).trans m.at1, (R1.out.cell 2).trans m.at2, (R1.out.cell 3).trans m.at3, (R1.out.cell 4).trans m.at4, (R1.out.cell 5).trans m.at5, (R1.out.cell 6).trans m.at6, (R1.out.cell 7).trans m.at7, (R1.out.cell 8).trans m.at8, (R1.out.cell 9).trans m.at9, (R1.out.cell 10).trans m.at10, R1.out⟩
  refine wpAnyH_take (i := 0) (oi := _) (v := ?va0) rfl (by kernel_rfl) (by kernel_rfl) (by kernel_rfl) (fun _ _ _ h => h) (Or.inl ⟨by rfl, ?hya0⟩) (by assumption) ?resta0
  case hya0 => (intro w hSw; (try dsimp only at hSw); go_split_ands; go_simp; try (with_reducible rfl))
  try simp only [List.getElem_toArray, List.getElem_cons_zero, List.getElem_cons_succ, Act.put, List.setIfInBounds_toArray, List.set_cons_zero, List.set_cons_succ]
  refine wpAnyH_take (i := 1) (oi := _) (v := ?va1) rfl (by kernel_rfl) (by kernel_rfl) (by kernel_rfl) (fun _ _ _ h => h) (Or.inl ⟨by rfl, ?hya1⟩) (by assumption) ?resta1
  case hya1 => (intro w hSw; (try dsimp only at hSw); go_split_ands; go_simp; try (with_reducible rfl))
  try simp only [List.getElem_toArray, List.getElem_cons_zero, List.getElem_cons_succ, Act.put, List.setIfInBounds_toArray, List.set_cons_zero, List.set_cons_succ]
  refine wpAnyH_take (i := 2) (oi := _) (v := ?va2) rfl (by kernel_rfl) (by kernel_rfl) (by kernel_rfl) (fun _ _ _ h => h) (Or.inl ⟨by rfl, ?hya2⟩) (by assumption) ?resta2
  case hya2 => (intro w hSw; (try dsimp only at hSw); go_split_ands; go_simp; try (with_reducible rfl))
  try simp only [List.getElem_toArray, List.getElem_cons_zero, List.getElem_cons_succ, Act.put, List.setIfInBounds_toArray, List.set_cons_zero, List.set_cons_succ]
  refine wpAnyH_take (i := 3) (oi := _) (v := ?va3) rfl (by kernel_rfl) (by kernel_rfl) (by kernel_rfl) (fun _ _ _ h => h) (Or.inl ⟨by rfl, ?hya3⟩) (by assumption) ?resta3
  case hya3 => (intro w hSw; (try dsimp only at hSw); go_split_ands; go_simp; try (with_reducible rfl))
  try simp only [List.getElem_toArray, List.getElem_cons_zero, List.getElem_cons_succ, Act.put, List.setIfInBounds_toArray, List.set_cons_zero, List.set_cons_succ]
  refine wpAnyH_take (i := 4) (oi := _) (v := ?va4) rfl (by kernel_rfl) (by kernel_rfl) (by kernel_rfl) (fun _ _ _ h => h) (Or.inl ⟨by rfl, ?hya4⟩) (by assumption) ?resta4
  case hya4 => (intro w hSw; (try dsimp only at hSw); go_split_ands; go_simp; try (with_reducible rfl))
  try simp only [List.getElem_toArray, List.getElem_cons_zero, List.getElem_cons_succ, Act.put, List.setIfInBounds_toArray, List.set_cons_zero, List.set_cons_succ]
  refine wpAnyH_take (i := 5) (oi := _) (v := ?va5) rfl (by kernel_rfl) (by kernel_rfl) (by kernel_rfl) (fun _ _ _ h => h) (Or.inl ⟨by rfl, ?hya5⟩) (by assumption) ?resta5
  case hya5 => (intro w hSw; (try dsimp only at hSw); go_split_ands; go_simp; try (with_reducible rfl))
  try simp only [List.getElem_toArray, List.getElem_cons_zero, List.getElem_cons_succ, Act.put, List.setIfInBounds_toArray, List.set_cons_zero, List.set_cons_succ]
  refine wpAnyH_take (i := 6) (oi := _) (v := ?va6) rfl (by kernel_rfl) (by kernel_rfl) (by kernel_rfl) (fun _ _ _ h => h) (Or.inl ⟨by rfl, ?hya6⟩) (by assumption) ?resta6
  case hya6 => (intro w hSw; (try dsimp only at hSw); go_split_ands; go_simp; try (with_reducible rfl))
  try simp only [List.getElem_toArray, List.getElem_cons_zero, List.getElem_cons_succ, Act.put, List.setIfInBounds_toArray, List.set_cons_zero, List.set_cons_succ]
  refine wpAnyH_take (i := 7) (oi := _) (v := ?va7) rfl (by kernel_rfl) (by kernel_rfl) (by kernel_rfl) (fun _ _ _ h => h) (Or.inl ⟨by rfl, ?hya7⟩) (by assumption) ?resta7
  case hya7 => (intro w hSw; (try dsimp only at hSw); go_split_ands; go_simp; try (with_reducible rfl))
  try simp only [List.getElem_toArray, List.getElem_cons_zero, List.getElem_cons_succ, Act.put, List.setIfInBounds_toArray, List.set_cons_zero, List.set_cons_succ]
  refine wpAnyH_take (i := 9) (oi := _) (v := ?va9) rfl (by kernel_rfl) (by kernel_rfl) (by kernel_rfl) (fun _ _ _ h => h) (Or.inl ⟨by rfl, ?hya9⟩) (by assumption) ?resta9
  case hya9 => (intro w hSw; (try dsimp only at hSw); go_split_ands; go_simp; try (with_reducible rfl))
  try simp only [List.getElem_toArray, List.getElem_cons_zero, List.getElem_cons_succ, Act.put, List.setIfInBounds_toArray, List.set_cons_zero, List.set_cons_succ]
  refine wpAnyH_take (i := 10) (oi := _) (v := ?va10) rfl (by kernel_rfl) (by kernel_rfl) (by kernel_rfl) (fun _ _ _ h => h) (Or.inl ⟨by rfl, ?hya10⟩) (by assumption) ?resta10
  case hya10 => (intro w hSw; (try dsimp only at hSw); go_split_ands; go_simp; try (with_reducible rfl))
  try simp only [List.getElem_toArray, List.getElem_cons_zero, List.getElem_cons_succ, Act.put, List.setIfInBounds_toArray, List.set_cons_zero, List.set_cons_succ]
  refine wpAnyH_take (i := 11) (oi := _) (v := ?va11) rfl (by kernel_rfl) (by kernel_rfl) (by kernel_rfl) (fun _ _ _ h => h) (Or.inl ⟨by rfl, ?hya11⟩) (by assumption) ?resta11
  case hya11 => (intro w hSw; (try dsimp only at hSw); go_split_ands; go_simp; try (with_reducible rfl))
  try simp only [List.getElem_toArray, List.getElem_cons_zero, List.getElem_cons_succ, Act.put, List.setIfInBounds_toArray, List.set_cons_zero, List.set_cons_succ]
  refine wpAnyH_take (i := 12) (oi := _) (v := ?va12) rfl (by kernel_rfl) (by kernel_rfl) (by kernel_rfl) (fun _ _ _ h => h) (Or.inl ⟨by rfl, ?hya12⟩) (by assumption) ?resta12
  case hya12 => (intro w hSw; (try dsimp only at hSw); go_split_ands; go_simp; try (with_reducible rfl))
  try simp only [List.getElem_toArray, List.getElem_cons_zero, List.getElem_cons_succ, Act.put, List.setIfInBounds_toArray, List.set_cons_zero, List.set_cons_succ]
  refine wpAnyH_take (i := 13) (oi := _) (v := ?va13) rfl (by kernel_rfl) (by kernel_rfl) (by kernel_rfl) (fun _ _ _ h => h) (Or.inl ⟨by rfl, ?hya13⟩) (by assumption) ?resta13
  case hya13 => (intro w hSw; (try dsimp only at hSw); go_split_ands; go_simp; try (with_reducible rfl))
  try simp only [List.getElem_toArray, List.getElem_cons_zero, List.getElem_cons_succ, Act.put, List.setIfInBounds_toArray, List.set_cons_zero, List.set_cons_succ]
  refine wpAnyH_take (i := 14) (oi := _) (v := ?va14) rfl (by kernel_rfl) (by kernel_rfl) (by kernel_rfl) (fun _ _ _ h => h) (Or.inl ⟨by rfl, ?hya14⟩) (by assumption) ?resta14
  case hya14 => (intro w hSw; (try dsimp only at hSw); go_split_ands; go_simp; try (with_reducible rfl))
  try simp only [List.getElem_toArray, List.getElem_cons_zero, List.getElem_cons_succ, Act.put, List.setIfInBounds_toArray, List.set_cons_zero, List.set_cons_succ]
  refine wpAnyH_take (i := 15) (oi := _) (v := ?va15) rfl (by kernel_rfl) (by kernel_rfl) (by kernel_rfl) (fun _ _ _ h => h) (Or.inl ⟨by rfl, ?hya15⟩) (by assumption) ?resta15
  case hya15 => (intro w hSw; (try dsimp only at hSw); go_split_ands; go_simp; try (with_reducible rfl))
  try simp only [List.getElem_toArray, List.getElem_cons_zero, List.getElem_cons_succ, Act.put, List.setIfInBounds_toArray, List.set_cons_zero, List.set_cons_succ]
  refine wpAnyH_take (i := 16) (oi := _) (v := ?va16) rfl (by kernel_rfl) (by kernel_rfl) (by kernel_rfl) (fun _ _ _ h => h) (Or.inl ⟨by rfl, ?hya16⟩) (by assumption) ?resta16
  case hya16 => (intro w hSw; (try dsimp only at hSw); go_split_ands; go_simp; try (with_reducible rfl))
  try simp only [List.getElem_toArray, List.getElem_cons_zero, List.getElem_cons_succ, Act.put, List.setIfInBounds_toArray, List.set_cons_zero, List.set_cons_succ]
  refine wpAnyH_take (i := 18) (oi := _) (v := ?va18) rfl (by kernel_rfl) (by kernel_rfl) (by kernel_rfl) (fun _ _ _ h => h) (Or.inl ⟨by rfl, ?hya18⟩) (by assumption) ?resta18
  case hya18 => (intro w hSw; (try dsimp only at hSw); go_split_ands; go_simp; try (with_reducible rfl))
  try simp only [List.getElem_toArray, List.getElem_cons_zero, List.getElem_cons_succ, Act.put, List.setIfInBounds_toArray, List.set_cons_zero, List.set_cons_succ]
  refine wpAnyH_take (i := 19) (oi := _) (v := ?va19) rfl (by kernel_rfl) (by kernel_rfl) (by kernel_rfl) (fun _ _ _ h => h) (Or.inl ⟨by rfl, ?hya19⟩) (by assumption) ?resta19
  case hya19 => (intro w hSw; (try dsimp only at hSw); go_split_ands; go_simp; try (with_reducible rfl))
  try simp only [List.getElem_toArray, List.getElem_cons_zero, List.getElem_cons_succ, Act.put, List.setIfInBounds_toArray, List.set_cons_zero, List.set_cons_succ]
  refine wpAnyH_take (i := 20) (oi := _) (v := ?va20) rfl (by kernel_rfl) (by kernel_rfl) (by kernel_rfl) (fun _ _ _ h => h) (Or.inl ⟨by rfl, ?hya20⟩) (by assumption) ?resta20
  case hya20 => (intro w hSw; (try dsimp only at hSw); go_split_ands; go_simp; try (with_reducible rfl))
  try simp only [List.getElem_toArray, List.getElem_cons_zero, List.getElem_cons_succ, Act.put, List.setIfInBounds_toArray, List.set_cons_zero, List.set_cons_succ]
  refine wpAnyH_take (i := 21) (oi := _) (v := ?va21) rfl (by kernel_rfl) (by kernel_rfl) (by kernel_rfl) (fun _ _ _ h => h) (Or.inl ⟨by rfl, ?hya21⟩) (by assumption) ?resta21
  case hya21 => (intro w hSw; (try dsimp only at hSw); go_split_ands; go_simp; try (with_reducible rfl))
  try simp only [List.getElem_toArray, List.getElem_cons_zero, List.getElem_cons_succ, Act.put, List.setIfInBounds_toArray, List.set_cons_zero, List.set_cons_succ]
  refine wpAnyH_take (i := 22) (oi := _) (v := ?va22) rfl (by kernel_rfl) (by kernel_rfl) (by kernel_rfl) (fun _ _ _ h => h) (Or.inl ⟨by rfl, ?hya22⟩) (by assumption) ?resta22
  case hya22 => (intro w hSw; (try dsimp only at hSw); go_split_ands; go_simp; try (with_reducible rfl))
  try simp only [List.getElem_toArray, List.getElem_cons_zero, List.getElem_cons_succ, Act.put, List.setIfInBounds_toArray, List.set_cons_zero, List.set_cons_succ]
  refine wpAnyH_take (i := 23) (oi := _) (v := .agg (arr m.ro)) rfl (by kernel_rfl) (by kernel_rfl) (by kernel_rfl) (fun _ _ _ h => h) (yld41 (by rfl) _ rfl g0 11 rfl m.ro HA.out (fun w h => by have := h.2.2.2.2.2.2.2.2.2.2.out.part.mvA HA.out; simpa using this)) (by assumption) ?_
  try simp only [List.getElem_toArray, List.getElem_cons_zero, List.getElem_cons_succ, Act.put, List.setIfInBounds_toArray, List.set_cons_zero, List.set_cons_succ]
  refine wpAnyH_take (i := 24) (oi := _) (v := .agg (arr zeros)) rfl (by kernel_rfl) (by kernel_rfl) (by kernel_rfl) (fun _ _ _ h => h) (ybd26 (by rfl) rfl) (by assumption) ?_
  try simp only [List.getElem_toArray, List.getElem_cons_zero, List.getElem_cons_succ, Act.put, List.setIfInBounds_toArray, List.set_cons_zero, List.set_cons_succ]
  refine wpAnyH_take (i := 25) (oi := _) (v := ?va25) rfl (by kernel_rfl) (by kernel_rfl) (by kernel_rfl) (fun _ _ _ h => h) (Or.inl ⟨by rfl, ?hya25⟩) (by assumption) ?resta25
  case hya25 => (intro w hSw; (try dsimp only at hSw); go_split_ands; go_simp; try (with_reducible rfl))
  try simp only [List.getElem_toArray, List.getElem_cons_zero, List.getElem_cons_succ, Act.put, List.setIfInBounds_toArray, List.set_cons_zero, List.set_cons_succ]
  refine wpAnyH_ready (rs := [8]) (by kernel_rfl) (by simp) ?_
  refine AllReadyH.cons (o := _) rfl (fun K hK => ?_) AllReadyH.nil
  go_simp
  refine (flag_any m.g _).mono ?_
  rintro e w2 ⟨rfl, rfl⟩
  have R2 : Hid (Row w1.drew g0 38 m.cs) := R1
  have Z2 : Hid (Row w1.drew (g0 + 1) 103 (nArr zer11)) := Z1
  have B2 : Hid (Below g0 w w1.drew) := hid (B1.out.trans ⟨rfl, rfl, rfl, Nat.le_refl _, fun _ _ => rfl⟩)
  generalize w1.drew = w2 at *
  go_wp2_with fail
  refine hK.out _ _ ⟨(R2.out.cell 1).trans m.at1, (R2.out.cell 2).trans m.at2, (R2.out.cell 3).trans m.at3, (R2.out.cell 4).trans m.at4, (R2.out.cell 5).trans m.at5, (R2.out.cell 6).trans m.at6, (R2.out.cell 7).trans m.at7, (R2.out.cell 8).trans m.at8, (R2.out.cell 9).trans m.at9, (R2.out.cell 10).trans m.at10, R2.out⟩ (fun hHeld => ?_)
  clear hK K
  try simp only [List.getElem_toArray, List.getElem_cons_zero, List.getElem_cons_succ, Act.put, List.setIfInBounds_toArray, List.set_cons_zero, List.set_cons_succ]
  refine wpAnyH_ready (rs := [17]) (by kernel_rfl) (by simp) ?_
  refine AllReadyH.cons (o := _) rfl (fun K hK => ?_) AllReadyH.nil
  go_simp
  refine (flag_any m.a _).mono ?_
  rintro e w3 ⟨rfl, rfl⟩
  go_wp2_with fail
  refine hK.out _ _ ⟨(R2.out.cell 1).trans m.at1, (R2.out.cell 2).trans m.at2, (R2.out.cell 3).trans m.at3, (R2.out.cell 4).trans m.at4, (R2.out.cell 5).trans m.at5, (R2.out.cell 6).trans m.at6, (R2.out.cell 7).trans m.at7, (R2.out.cell 8).trans m.at8, (R2.out.cell 9).trans m.at9, (R2.out.cell 10).trans m.at10, R2.out⟩ (fun hHeld => ?_)
  clear hK K
  try simp only [List.getElem_toArray, List.getElem_cons_zero, List.getElem_cons_succ, Act.put, List.setIfInBounds_toArray, List.set_cons_zero, List.set_cons_succ]
  refine wpAnyH_ready (rs := [26]) (by kernel_rfl) (by simp) ?_
  refine AllReadyH.cons (o := _) rfl (fun K hK => ?_) AllReadyH.nil
  go_simp
  refine (flag_any _ _).mono ?_
  rintro e w3 ⟨rfl, rfl⟩
  go_wp2_with fail
  refine hK.out _ _ ⟨(R2.out.cell 1).trans m.at1, (R2.out.cell 2).trans m.at2, (R2.out.cell 3).trans m.at3, (R2.out.cell 4).trans m.at4, (R2.out.cell 5).trans m.at5, (R2.out.cell 6).trans m.at6, (R2.out.cell 7).trans m.at7, (R2.out.cell 8).trans m.at8, (R2.out.cell 9).trans m.at9, (R2.out.cell 10).trans m.at10, R2.out⟩ (fun hHeld => ?_)
  clear hK K
  try simp only [List.getElem_toArray, List.getElem_cons_zero, List.getElem_cons_succ, Act.put, List.setIfInBounds_toArray, List.set_cons_zero, List.set_cons_succ]
  refine wpAnyH_take (i := 27) (oi := _) (v := .agg (nArr m.p.vs)) rfl (by kernel_rfl) (by kernel_rfl) (by kernel_rfl) (fun _ _ _ h => h) (ybd74 (by rfl) _ _ _ _ _ _ _ _ _ _ _ rfl _ _ _ _ _ _ _ _ _ _ _ rfl rfl rfl rfl rfl rfl rfl rfl rfl rfl rfl) (by assumption) ?_
  try simp only [List.getElem_toArray, List.getElem_cons_zero, List.getElem_cons_succ, Act.put, List.setIfInBounds_toArray, List.set_cons_zero, List.set_cons_succ]
  refine wpAnyH_ready (rs := [28]) (by kernel_rfl) (by simp) ?_
  refine AllReadyH.cons (o := _) rfl (fun K hK => ?_) AllReadyH.nil
  refine step_st rfl 103 _ _ rfl (g0 + 1) (nArr m.p.vs) rfl rfl 103 (nArr zer11) (by exact Z2.out) (by rw [nArr_size]; exact size74) rfl (nArr_one _) ?_
  have R3 := hid (R2.out.rowOther (g0 + 1) (nArr m.p.vs) (by omega))
  have Z3 := hid (Z2.out.setRow (nArr m.p.vs))
  have B3 := hid (below_setRow' B2.out (g := g0 + 1) (by omega) (nArr m.p.vs))
  refine hK.out _ _ ⟨(R3.out.cell 1).trans m.at1, (R3.out.cell 2).trans m.at2, (R3.out.cell 3).trans m.at3, (R3.out.cell 4).trans m.at4, (R3.out.cell 5).trans m.at5, (R3.out.cell 6).trans m.at6, (R3.out.cell 7).trans m.at7, (R3.out.cell 8).trans m.at8, (R3.out.cell 9).trans m.at9, (R3.out.cell 10).trans m.at10, R3.out⟩ (fun hHeld => ?_)
  clear hK K
  try simp only [List.getElem_toArray, List.getElem_cons_zero, List.getElem_cons_succ, Act.put, List.setIfInBounds_toArray, List.set_cons_zero, List.set_cons_succ]
  refine wpAnyH_done (by kernel_rfl) ?_ _
  go_wp2_with fail
  exact bodyPost_ret (res74 rfl _ _ (g0 + 1) 103 m.p.vs rfl rfl Z3.out) rfl ⟨rfl, by rw [hg0]; exact B3.out⟩
end Go.Proofs.YtbklpelikaapoaaGreatDoor
