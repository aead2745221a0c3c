/- The bytes of an option that is right: content. -/
import Derived.Test.YtbgogeojdibmkaaDoorChk2
namespace Go.Proofs.YtbgogeojdibmkaaDoor
open Go.ChangeShapes Go.WideShapes Go.ChangeAt Go.RowKit Go.Deep
set_option linter.unusedVariables false
set_option linter.unusedSimpArgs false

/-- An append of bytes that lie somewhere onto a row of the call's own. -/
theorem wpList_appB {ops : Array Oper} {rest : List Oper} {o : Oper} {a : Act} {Q : Exit → Act → World → Prop} {w : World} {base n m cap : Nat} {v : Value} {xs l : List Int} {ao : Option Addr} (hgd : o.guard = none) (s x : Operand)
    (ho : o.op = .call { callee := .builtin .append, args := #[s, x], argTypes := #[26, 26] }) (hs : a.eval s = v) (hx : a.eval x = .slice ao m cap)
    (hown : w.ownsRow base 5 1 v n (u8s xs)) (hl : Lies .u8 w ao m cap l) (hb : base ≤ w.heap.size) (hm : n + m ≤ 200000)
    (h : ∀ v' w', w'.ownsRow base 5 1 v' (n + m) (u8s (xs ++ l)) → Below base w w' → wpList Tryd.prog ops Q rest (a.put o.dst v') w') :
    wpList Tryd.prog ops Q (o :: rest) a w := by
  obtain ⟨i0, hi, hz0, hz1, hz2⟩ := info_parts info5
  refine wpList_append_own_any w hgd s x 26 ho base 5 i0 (.int .u8 0) 1 1 Tryd.underlying26 hi hz0 hz1 hz2 rfl (by decide) v n _ hs hown ao m cap (u8s l) hx (by rw [u8s_len, hl.1]; omega) hl.isNil (fun ad had => hl.cells ad had) (ints_oneCell8 l .u8) (by unfold maxLen; omega) (by omega) hb ?_
  intro v' w' h2 h3
  exact h v' w' (by rw [u8s, List.map_append]; exact h2) h3

/-- The bytes of parts. -/
def partsB : List (Int × Int) → List Int → List Int → List Int
  | [], _, _ => []
  | p :: l, n, ad => if (p.1 == 16) = true then ad ++ partsB l n ad else digs p.1 (n.headD 0) ++ partsB l n.tail ad
theorem partsB_snoc (l : List (Int × Int)) (p : Int × Int) (n ad : List Int) : partsB (l ++ [p]) n ad = partsB l n ad ++ (if (p.1 == 16) = true then ad else digs p.1 (n.getD (nmb l).length 0)) := by
  induction l generalizing n with
  | nil => simp [partsB, nmb]; split <;> cases n <;> simp
  | cons q l ih =>
    simp only [List.cons_append, partsB]
    split
    · rename_i h
      rw [ih, List.append_assoc]
      simp [nmb, h]
    · rename_i h
      rw [ih, List.append_assoc]
      simp only [nmb, List.filter_cons, h]
      simp only [Bool.not_eq_true] at h
      cases n <;> simp
theorem partsB_succ (l : List (Int × Int)) (n ad : List Int) (j : Nat) (h : j < l.length) : partsB (l.take (j + 1)) n ad = partsB (l.take j) n ad ++ (if ((l.getD j (0, 0)).1 == 16) = true then ad else digs (l.getD j (0, 0)).1 (n.getD (nmb (l.take j)).length 0)) := by
  rw [List.take_succ_eq_append_getElem h, partsB_snoc]; simp [h]
theorem prt_sizes : ∀ k, k < 10 → ∀ p ∈ prt k, (p.1 == 16) = true ∨ (sizeB p.1 = true ∧ p.2 < top p.1) := by decide
theorem partsB_length (l : List (Int × Int)) (h : ∀ p ∈ l, (p.1 == 16) = true ∨ sizeB p.1 = true) (n ad : List Int) (ha : ad.length = 16) : ((partsB l n ad).length : Int) = sumP l := by
  induction l generalizing n with
  | nil => rfl
  | cons p l ih =>
    have hs : sumP (p :: l) = p.1 + sumP l := by simp [sumP]
    rw [hs, partsB]
    split
    · rename_i h16
      rw [List.length_append, ha, Int.natCast_add, ih (fun q hq => h q (by simp [hq]))]
      have : p.1 = 16 := by simpa using h16
      omega
    · rename_i h16
      rcases h p (by simp) with hp | hp
      · exact absurd hp h16
      · rw [List.length_append, digs_length _ _ hp, Int.natCast_add, ih (fun q hq => h q (by simp [hq]))]
        rcases sizeB_cases hp with e | e | e <;> rw [e] <;> rfl
/-- What is behind the length. -/
def conP (k : Nat) (o : Po) : List Int := if zer k = true then List.replicate (o.n.getD 0 0).toNat 0 else partsB (prt k) o.n o.ad ++ o.t
theorem take_nmb (l : List (Int × Int)) (j : Nat) : nmb (l.take j) = (nmb l).take (nmb (l.take j)).length := by
  have : nmb l = nmb (l.take j) ++ nmb (l.drop j) := by rw [nmb, nmb, nmb, ← List.filter_append, List.take_append_drop]
  rw [this, List.take_left']
  rfl
/-- The number of a part. -/
theorem nmb_get (l : List (Int × Int)) (j : Nat) (h : j < l.length) (h16 : ((l.getD j (0, 0)).1 == 16) = false) : (nmb (l.take j)).length < (nmb l).length ∧ (nmb l).getD (nmb (l.take j)).length (0, 0) = l.getD j (0, 0) := by
  have e : nmb l = nmb (l.take j) ++ ([l.getD j (0, 0)] ++ nmb (l.drop (j + 1))) := by
    rw [← List.append_assoc, ← nmb_yes l j h h16, nmb, nmb, nmb, ← List.filter_append, List.take_append_drop]
  rw [e]
  simp

theorem made_u8 (n : Nat) : (madeCells #[Value.int .u8 0] n).toList = u8s (List.replicate n 0) := by
  apply List.ext_getElem?
  intro i
  by_cases h : i < n
  · simp [madeCells, u8s, h, Nat.mod_one]
  · simp [madeCells, u8s, h]
/-- The pads. -/
theorem content_zeros {B : Nat} (o : Ov) (hok : o.k = 1) (w : World) (ho : o.ok w) (hV : Vars B w) (m : Nat) (hm : o.n.l = [(m : Int)]) (hm255 : m ≤ 255) :
    Calls Tryd.prog 45 #[.agg o.cs] w fun e w' => ∃ v, e = .returned v ∧ w'.ownsRow w.heap.size 5 1 v m (u8s (List.replicate m 0)) ∧ Below w.heap.size w w' := by
  obtain ⟨i0, hi, hz0, hz1, hz2⟩ := info_parts info5
  have HR0 := hid (Row.new w 43 o.cs)
  have B0 := hid (balloc (Below.refl w.heap.size w) (.cells o.cs 43))
  have V0 := hid (hV.below B0.out)
  have hnn : o.n.n = 1 := by rw [← ho.n.1, hm]; rfl
  obtain ⟨b, off, hna, hcn⟩ := (ho.n.below B0.out).2.2.2.2 0 (by omega)
  rw [hm] at hcn
  simp only [List.getD_cons_zero, Nat.add_zero] at hcn
  clear hV ho
  go_enter Tryd.func45, Tryd.ntmps45
  go_upto_region 1 with fail
  generalize hw1 : w.alloc (.cells o.cs 43) = w1 at *
  have c0 := (HR0.out.cell 0).trans o.at0
  rw [hok] at c0
  have c1 := (HR0.out.cell 1).trans o.at1
  rw [hna, hnn] at c1
  have s2 := V0.out.zeros 1 (by decide)
  simp only [Nat.one_mul] at s2
  rw [show zer 1 = true from rfl] at s2
  have HI := hid hi
  clear hw1 hok hm hnn hna
  go_wp2_with (at_make; refine wpList_make_full _ rfl _ _ 26 rfl w.heap.size 5 i0 (.int .u8 0) 1 Tryd.underlying26 HI.out hz0 hz1 .i64 .i64 _ _ m rfl rfl rfl rfl ?b1 ?b2 ?b3 ?_)
  case b1 => rw [hz2]; omega
  case b2 => unfold maxLen; omega
  case b3 => exact B0.out.size
  intro w2 hown hg
  have B2 := hid (Below.grown B0.out hg B0.out.size (fun k hk => by cases hk))
  rw [made_u8] at hown
  have HO := hid hown
  clear hown hg
  go_wp2_with fail
  go_ret
  exact ⟨_, rfl, HO.out, B2.out⟩
/-- One number more. -/
theorem putOne (v : Value) (base : Nat) (bs : List Int) (size z : Int) (al : Option Addr) (cl : Nat) (w : World) (hown : w.ownsRow base 5 1 v bs.length (u8s bs)) (hl : Lies .i64 w al 1 cl [z]) (hz : sizeB size = true) (hn : okB size z = true) (hlb : bs.length ≤ 1200) :
    Calls Tryd.prog 46 #[v, .int .i64 size, .slice al 1 cl] w fun e w' => ∃ v', e = .returned (.tuple #[v', .int .i64 0]) ∧ w'.ownsRow w.heap.size 5 1 v' (bs ++ digs size z).length (u8s (bs ++ digs size z)) ∧ Below w.heap.size w w' := by
  obtain ⟨a, cap, rfl, hL, _⟩ := owns_lies hown
  have hsz : size.toNat ≤ 4 := by rcases sizeB_cases hz with rfl | rfl | rfl <;> decide
  refine (put_ok a al bs.length cap 1 cl size bs [z] w hL hl (by simp [fitsB, hz, hn]) (by omega)).mono ?_
  rintro e w' ⟨v', rfl, h1, h2⟩
  have e1 : bytesOf size [z] = digs size z := by simp [bytesOf]
  rw [e1] at h1
  exact ⟨v', rfl, h1, h2⟩

theorem slice_eq {a a' : Option Addr} {n n' c c' : Nat} (h : a = a') (hn : n = n') (hc : c = c') : Value.slice a n c = .slice a' n' c' := by rw [h, hn, hc]
theorem part_len {k : Nat} (hk : k < 10) (j : Nat) (hj : j ≤ (prt k).length) (n ad : List Int) (ha : ad.length = 16) : (partsB ((prt k).take j) n ad).length ≤ 100 := by
  have h1 := partsB_length ((prt k).take j) (fun p hp => by rcases prt_sizes k hk p (List.mem_of_mem_take hp) with h | h; exact .inl h; exact .inr h.1) n ad ha
  have h2 := ((prt_small k hk).2 j (by have := (prt_small k hk).1; omega)).2
  omega
set_option maxHeartbeats 1600000 in
theorem content_parts {B : Nat} (o : Ov) (k : Nat) (hk : k < 10) (hok : o.k = k) (hk1 : zer k = false) (w : World) (ho : o.ok w) (hV : Vars B w) (hlen : o.n.n = (nmb (prt k)).length) (hwd : widB (nmb (prt k)) o.n.l = true) (ht64 : o.t.n ≤ 64) :
    Calls Tryd.prog 45 #[.agg o.cs] w fun e w' => ∃ v, e = .returned v ∧ w'.ownsRow w.heap.size 5 1 v (partsB (prt k) o.n.l o.ad ++ o.t.l).length (u8s (partsB (prt k) o.n.l o.ad ++ o.t.l)) ∧ Below w.heap.size w w' := by
  have HR0 := hid (Row.new w 43 o.cs)
  have B0 := hid (balloc (Below.refl w.heap.size w) (.cells o.cs 43))
  have V0 := hid (hV.below B0.out)
  have O0 := hid (ho.below B0.out)
  have HA := hid ho.ad
  have HW := hid hwd
  have HL := hid hlen
  have HK := hid hok
  have HKK := hid hk
  obtain ⟨a, n, cap, c1, hP⟩ := V0.out.parts k hk
  have s2 := V0.out.zeros k hk
  rw [hk1] at s2
  have hn10 : n ≤ 10 := by rw [← hP.len]; exact (prt_small k hk).1
  have HP := hid hP
  have HQ := hid (fun j hj => part_len hk j hj o.n.l o.ad ho.ad.1)
  have HZ := hid (prt_sizes k hk)
  have HN0 := hid ho.n.1
  have HNl : o.n.n ≤ 10 := by rw [hlen]; exact Nat.le_trans (nmb_le _) (prt_small k hk).1
  clear hV ho hP hwd hlen hk1
  go_enter Tryd.func45, Tryd.ntmps45
  go_upto_region 1 with fail
  generalize hw1 : w.alloc (.cells o.cs 43) = w1 at *
  have d0 := (HR0.out.cell 0).trans o.at0
  rw [HK.out] at d0
  have d1 := (HR0.out.cell 1).trans o.at1
  clear hw1 hok
  go_wp2_with fail
  go_loopw [3, 4, 25] (fun v lv i wr => ∃ j la ll lc, j ≤ n ∧ i = .int .i64 (j : Nat) ∧ lv = .slice la ll lc ∧ Hid (Lies .i64 w1 la ll lc (o.n.l.drop (nmb ((prt k).take j)).length)) ∧ Hid (wr.ownsRow w1.heap.size 5 1 v (partsB ((prt k).take j) o.n.l o.ad).length (u8s (partsB ((prt k).take j) o.n.l o.ad))) ∧ Hid (Below w1.heap.size w1 wr)) (fun _ _ i _ => n - (intOf i).toNat)
  case atStart => exact ⟨0, _, _, _, Nat.zero_le _, rfl, rfl, O0.out.n, World.ownsRow_nil _ _ _ _, Below.refl _ _⟩
  case round =>
    obtain ⟨j, la, ll, lc, hj, rfl, rfl, hla, hown, hb⟩ := hrel
    by_cases hlt : j < n
    · obtain ⟨b, off, rfl, hbB, hc0, hc1⟩ := (HP.out.same (fun b o hlt => hb.out.cell (p := ⟨b, o, none⟩) (Nat.lt_of_lt_of_le hlt V0.out.le))).cell j hlt
      have hjl : j < (prt k).length := by rw [HP.out.len]; exact hlt
      have HS := hid (partsB_succ (prt k) o.n.l o.ad j hjl)
      have HY := hid (nmb_yes (prt k) j hjl)
      have HNo := hid (nmb_no (prt k) j hjl)
      have HG := hid (nmb_get (prt k) j hjl)
      have hq := HQ.out j (by omega)
      have HZp := hid (HZ.out ((prt k).getD j (0, 0)) (by simp [hjl]))
      generalize hp : (prt k).getD j (0, 0) = p at *
      generalize hout : partsB ((prt k).take j) o.n.l o.ad = out at *
      generalize hcn : (nmb ((prt k).take j)).length = cn at *
      have HCN := hid hcn
      clear hp hout hcn hjl
      have HPP : Hid (p.1 = p.1 ∧ p.2 = p.2) := ⟨rfl, rfl⟩
      generalize hx : p.1 = x at *
      generalize hy : p.2 = y at *
      have R0 := hid (Row.new wr 87 #[.int .i64 x, .int .i64 y])
      have B1 := hid (balloc (Below.refl wr.heap.size wr) (.cells #[.int .i64 x, .int .i64 y] 87))
      cases h16 : (x == 16)
      · obtain ⟨hcl, hcg⟩ := HG.out h16
        have hll : ll = o.n.n - cn := by rw [← hla.out.1, List.length_drop, HN0.out]
        have hcl' : cn < o.n.n := by rw [HL.out]; exact hcl
        obtain ⟨b2, off2, rfl, hz⟩ := (hla.out.below hb.out).2.2.2.2 0 (by omega)
        have hzg : (o.n.l.drop cn).getD 0 0 = o.n.l.getD cn 0 := by simp [List.getD]
        have hin : inB ((nmb (prt k)).getD cn (0, 0)) (o.n.l.getD cn 0) = true := by
          have := HW.out
          rw [widB, List.all_eq_true] at this
          exact this cn (by simpa using hcl)
        rw [hzg] at hz
        rw [hcg] at hin
        have hin' : 0 ≤ o.n.l.getD cn 0 ∧ o.n.l.getD cn 0 ≤ p.2 := by simpa [inB] using hin
        rw [hy] at hin'
        have hsz : sizeB x = true ∧ y < top x := by
          rcases HZp.out with h | h
          · rw [h16] at h; cases h
          · exact h
        have hokz : okB x (o.n.l.getD cn 0) = true := by simp only [okB, decide_eq_true_eq]; omega
        generalize hzz : o.n.l.getD cn 0 = z at *
        have HOK := hid hokz
        have HSZ := hid hsz.1
        have hl1 : 1 ≤ ll := by omega
        have hl0 : 0 < ll := by omega
        have hl0' : (0 : Int) < (ll : Int) := by omega
        have hlc1 : ll ≤ lc := hla.out.2.1
        have hcut := hla.out.cut 1 (ll - 1) lc (by omega) (by omega) (Nat.le_refl _) (a' := if lc = 1 then some ⟨b2, off2, none⟩ else some ⟨b2, off2 + 1, none⟩) (fun h => by rw [if_neg (by omega)]; simp [Addr.add_lit]) (fun h => by rw [if_pos (by omega)])
        have HCut := hid hcut
        have hlcm : lc ≤ maxLen := hla.out.2.2.1
        unfold maxLen at hlcm
        clear hcut hokz hsz hin hin' hzg hcg hcl hcl' hll hzz
        rw [Nat.add_zero] at hz
        go_wp2_with fail
        refine (isAddress_any _ _ _).mono ?_
        rintro e w3 ⟨rfl, hb3⟩
        have B3 := hid (bthen B1.out hb3)
        have B4 := hid (bthen hb.out B3.out)
        have O3 := hid (own_below hown.out B3.out)
        have e0 := (R0.out.below hb3).cell 0
        simp only [List.getElem?_toArray, List.getElem?_cons_zero] at e0
        have hz3 := (B3.out.cell (p := ⟨b2, off2, none⟩) (World.block_lt_of_cell? wr _ hz)).trans hz
        clear hb3 hz
        rw [h16]
        generalize wr.heap.size = g6 at *
        have L5 := hid (lies_new .i64 w3 #[.int .i64 z] 3 [z] rfl (by simp))
        have O5 := hid (O3.out.alloc (.cells #[.int .i64 z] 3))
        have B5 := hid (balloc (Below.refl w3.heap.size w3) (.cells #[.int .i64 z] 3))
        have f0 := hid ((B5.out.cell (p := ⟨g6, 0, none⟩) (World.block_lt_of_cell? w3 _ e0)).trans e0)
        have f1 := hid ((B5.out.cell (p := ⟨b2, off2, none⟩) (World.block_lt_of_cell? w3 _ hz3)).trans hz3)
        go_wp2_with fail
        go_region_held3 (fun w' => w'.cell? ⟨g6, 0, none⟩ = some (.int .i64 x) ∧ w'.cell? ⟨b2, off2, none⟩ = some (.int .i64 z)) (go_keep) (first | (go_at_call 46; refine (putOne _ _ _ x z _ _ _ (by exact O5.out) (by exact L5.out) HSZ.out HOK.out (by omega)).mono ?_; rintro e w5 ⟨v5, rfl, hown5, hb5⟩; have f2 := (hb5.cell (p := ⟨g6, 0, none⟩) (World.block_lt_of_cell? _ _ f0.out)).trans f0.out; have f3 := (hb5.cell (p := ⟨b2, off2, none⟩) (World.block_lt_of_cell? _ _ f1.out)).trans f1.out))
        have B6 := hid (bthen (bthen B4.out B5.out).drew hb5)
        have O6 := hid (own_mono hown5 (b' := w1.heap.size) (Nat.le_trans B4.out.size B5.out.size))
        clear hown5 hb5 f2 f3
        have HEnd : Hid (nmb ((prt k).take (j + 1)) = nmb ((prt k).take j) ++ [p]) := HY.out h16
        by_cases hlc : lc = 1
        · rw [if_pos hlc] at HCut
          go_wp2_with fail
          go_roundw
          case rel =>
            refine ⟨j + 1, some ⟨b2, off2, none⟩, ll - 1, lc - 1, by omega, by go_num, slice_eq rfl (by omega) (by omega), ?_, ?_, B6.out⟩
            · rw [Hid, HEnd.out, List.length_append, HCN.out]
              have e := HCut.out
              rw [List.drop_drop, List.take_of_length_le (by have := hla.out.1; simp at this ⊢; omega)] at e
              exact e
            · rw [Hid, HS.out, if_neg (by rw [h16]; simp)]; exact O6.out
          case measure => simp [intOf]; omega
        · rw [if_neg hlc] at HCut
          go_wp2_with fail
          go_roundw
          case rel =>
            refine ⟨j + 1, some ⟨b2, off2 + 1, none⟩, ll - 1, lc - 1, by omega, by go_num, slice_eq rfl (by omega) (by omega), ?_, ?_, B6.out⟩
            · rw [Hid, HEnd.out, List.length_append, HCN.out]
              have e := HCut.out
              rw [List.drop_drop, List.take_of_length_le (by have := hla.out.1; simp at this ⊢; omega)] at e
              exact e
            · rw [Hid, HS.out, if_neg (by rw [h16]; simp)]; exact O6.out
          case measure => simp [intOf]; omega
      · go_wp2_with fail
        refine (isAddress_any _ _ _).mono ?_
        rintro e w3 ⟨rfl, hb3⟩
        have B3 := hid (bthen B1.out hb3)
        have B4 := hid (bthen hb.out B3.out)
        have O3 := hid (own_below hown.out B3.out)
        have L3 := hid (part_lies HA.out ((HR0.out.below B4.out).part.ovA HA.out))
        clear hb3
        rw [h16]
        go_wp2_with (at_builtin; refine wpList_appB rfl _ _ rfl rfl rfl O3.out L3.out ?c1 ?c2 ?_)
        case c1 => exact B4.out.size
        case c2 => omega
        intro v4 w4 ho4 hb4
        have B5 := hid (B4.out.trans hb4)
        have O4 := hid ho4
        clear ho4 hb4
        go_wp2_with fail
        go_roundw
        case rel =>
          refine ⟨j + 1, la, ll, lc, by omega, by go_num, rfl, ?_, ?_, B5.out⟩
          · rw [Hid, HNo.out h16, HCN.out]; exact hla.out
          · rw [Hid, HS.out, if_pos h16, List.length_append, HA.out.1]; exact O4.out
        case measure => simp [intOf]; omega
    · obtain rfl : j = n := by omega
      have hq := HQ.out j (by rw [HP.out.len]; exact Nat.le_refl _)
      rw [List.take_of_length_le (by rw [HP.out.len]; omega)] at hown hq
      have R9 := hid (HR0.out.below hb.out)
      have L9 := hid (O0.out.t.below hb.out)
      have c18 := (R9.out.cell 18).trans (Ov.at18 HA.out)
      have HT := hid O0.out.t.1
      go_wp2_with (at_builtin; refine wpList_appB rfl _ _ rfl rfl rfl hown.out L9.out ?c1 ?c2 ?_)
      case c1 => exact hb.out.size
      case c2 => omega
      intro v4 w4 ho4 hb4
      have B5 := hid (hb.out.trans hb4)
      have O4 := hid ho4
      clear ho4 hb4
      go_wp2_with fail
      go_ret
      refine ⟨_, rfl, ?_, bthen B0.out B5.out⟩
      rw [List.length_append, HT.out]
      exact own_mono O4.out B0.out.size
end Go.Proofs.YtbgogeojdibmkaaDoor
