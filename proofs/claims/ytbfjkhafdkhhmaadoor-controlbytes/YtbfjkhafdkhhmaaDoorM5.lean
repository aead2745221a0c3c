/- The bytes of an option that is right: content. · The bytes of an option that is right: written, Size. · The bytes of options: Encode. · Control messages, plainly: codes, parts, fields; what is wrong with a message, and its bytes. -/
import Derived.Test.YtbfjkhafdkhhmaaDoorM4
namespace Go.Proofs.YtbfjkhafdkhhmaaDoor
open Go.ChangeShapes Go.WideShapes Go.ChangeAt Go.RowKit Go.Deep
set_option linter.unusedVariables false
set_option linter.unusedSimpArgs false

/-- An append of bytes that lie somewhere onto a row of the call's own. -/
theorem wpList_appB {ops : Array Oper} {rest : List Oper} {o : Oper} {a : Act} {Q : Exit → Act → World → Prop} {w : World} {base n m cap : Nat} {v : Value} {xs l : List Int} {ao : Option Addr} (hgd : o.guard = none) (s x : Operand)
    (ho : o.op = .call { callee := .builtin .append, args := #[s, x], argTypes := #[33, 33] }) (hs : a.eval s = v) (hx : a.eval x = .slice ao m cap)
    (hown : w.ownsRow base 5 1 v n (u8s xs)) (hl : Lies .u8 w ao m cap l) (hb : base ≤ w.heap.size) (hm : n + m ≤ 200000)
    (h : ∀ v' w', w'.ownsRow base 5 1 v' (n + m) (u8s (xs ++ l)) → Below base w w' → wpList Tryd.prog ops Q rest (a.put o.dst v') w') :
    wpList Tryd.prog ops Q (o :: rest) a w := by
  obtain ⟨i0, hi, hz0, hz1, hz2⟩ := info_parts info5
  refine wpList_append_own_any w hgd s x 33 ho base 5 i0 (.int .u8 0) 1 1 Tryd.underlying33 hi hz0 hz1 hz2 rfl (by decide) v n _ hs hown ao m cap (u8s l) hx (by rw [u8s_len, hl.1]; omega) hl.isNil (fun ad had => hl.cells ad had) (ints_oneCell8 l .u8) (by unfold maxLen; omega) (by omega) hb ?_
  intro v' w' h2 h3
  exact h v' w' (by rw [u8s, List.map_append]; exact h2) h3

/-- The bytes of parts. -/
def partsB : List (Int × Int) → List Int → List Int → List Int
  | [], _, _ => []
  | p :: l, n, ad => if (p.1 == 16) = true then ad ++ partsB l n ad else digs p.1 (n.headD 0) ++ partsB l n.tail ad
theorem partsB_snoc (l : List (Int × Int)) (p : Int × Int) (n ad : List Int) : partsB (l ++ [p]) n ad = partsB l n ad ++ (if (p.1 == 16) = true then ad else digs p.1 (n.getD (nmb l).length 0)) := by
  induction l generalizing n with
  | nil => simp [partsB, nmb]; split <;> cases n <;> simp
  | cons q l ih =>
    simp only [List.cons_append, partsB]
    split
    · rename_i h
      rw [ih, List.append_assoc]
      simp [nmb, h]
    · rename_i h
      rw [ih, List.append_assoc]
      simp only [nmb, List.filter_cons, h]
      simp only [Bool.not_eq_true] at h
      cases n <;> simp
theorem partsB_succ (l : List (Int × Int)) (n ad : List Int) (j : Nat) (h : j < l.length) : partsB (l.take (j + 1)) n ad = partsB (l.take j) n ad ++ (if ((l.getD j (0, 0)).1 == 16) = true then ad else digs (l.getD j (0, 0)).1 (n.getD (nmb (l.take j)).length 0)) := by
  rw [List.take_succ_eq_append_getElem h, partsB_snoc]; simp [h]
theorem prt_sizes : ∀ k, k < 10 → ∀ p ∈ prt k, (p.1 == 16) = true ∨ (sizeB p.1 = true ∧ p.2 < top p.1) := by decide
theorem partsB_length (l : List (Int × Int)) (h : ∀ p ∈ l, (p.1 == 16) = true ∨ sizeB p.1 = true) (n ad : List Int) (ha : ad.length = 16) : ((partsB l n ad).length : Int) = sumP l := by
  induction l generalizing n with
  | nil => rfl
  | cons p l ih =>
    have hs : sumP (p :: l) = p.1 + sumP l := by simp [sumP]
    rw [hs, partsB]
    split
    · rename_i h16
      rw [List.length_append, ha, Int.natCast_add, ih (fun q hq => h q (by simp [hq]))]
      have : p.1 = 16 := by simpa using h16
      omega
    · rename_i h16
      rcases h p (by simp) with hp | hp
      · exact absurd hp h16
      · rw [List.length_append, digs_length _ _ hp, Int.natCast_add, ih (fun q hq => h q (by simp [hq]))]
        rcases sizeB_cases hp with e | e | e <;> rw [e] <;> rfl
/-- What is behind the length. -/
def conP (k : Nat) (o : Po) : List Int := if zer k = true then List.replicate (o.n.getD 0 0).toNat 0 else partsB (prt k) o.n o.ad ++ o.t
theorem take_nmb (l : List (Int × Int)) (j : Nat) : nmb (l.take j) = (nmb l).take (nmb (l.take j)).length := by
  have : nmb l = nmb (l.take j) ++ nmb (l.drop j) := by rw [nmb, nmb, nmb, ← List.filter_append, List.take_append_drop]
  rw [this, List.take_left']
  rfl
/-- The number of a part. -/
theorem nmb_get (l : List (Int × Int)) (j : Nat) (h : j < l.length) (h16 : ((l.getD j (0, 0)).1 == 16) = false) : (nmb (l.take j)).length < (nmb l).length ∧ (nmb l).getD (nmb (l.take j)).length (0, 0) = l.getD j (0, 0) := by
  have e : nmb l = nmb (l.take j) ++ ([l.getD j (0, 0)] ++ nmb (l.drop (j + 1))) := by
    rw [← List.append_assoc, ← nmb_yes l j h h16, nmb, nmb, nmb, ← List.filter_append, List.take_append_drop]
  rw [e]
  simp

theorem made_u8 (n : Nat) : (madeCells #[Value.int .u8 0] n).toList = u8s (List.replicate n 0) := by
  apply List.ext_getElem?
  intro i
  by_cases h : i < n
  · simp [madeCells, u8s, h, Nat.mod_one]
  · simp [madeCells, u8s, h]
/-- The pads. -/
theorem content_zeros {B : Nat} (o : Ov) (hok : o.k = 1) (w : World) (ho : o.ok w) (hV : Vars B w) (m : Nat) (hm : o.n.l = [(m : Int)]) (hm255 : m ≤ 255) :
    Calls Tryd.prog 96 #[.agg o.cs] w fun e w' => ∃ v, e = .returned v ∧ w'.ownsRow w.heap.size 5 1 v m (u8s (List.replicate m 0)) ∧ Below w.heap.size w w' := by
  obtain ⟨i0, hi, hz0, hz1, hz2⟩ := info_parts info5
  have HR0 := hid (Row.new w 54 o.cs)
  have B0 := hid (balloc (Below.refl w.heap.size w) (.cells o.cs 54))
  have V0 := hid (hV.below B0.out)
  have hnn : o.n.n = 1 := by rw [← ho.n.1, hm]; rfl
  obtain ⟨b, off, hna, hcn⟩ := (ho.n.below B0.out).2.2.2.2 0 (by omega)
  rw [hm] at hcn
  simp only [List.getD_cons_zero, Nat.add_zero] at hcn
  clear hV ho
  go_enter Tryd.func96, Tryd.ntmps96
  go_upto_region 1 with fail
  generalize hw1 : w.alloc (.cells o.cs 54) = w1 at *
  have c0 := (HR0.out.cell 0).trans o.at0
  rw [hok] at c0
  have c1 := (HR0.out.cell 1).trans o.at1
  rw [hna, hnn] at c1
  have s2 := V0.out.zeros 1 (by decide)
  simp only [Nat.one_mul] at s2
  rw [show zer 1 = true from rfl] at s2
  have HI := hid hi
  clear hw1 hok hm hnn hna
  go_wp2_with (at_make; refine wpList_make_full _ rfl _ _ 33 rfl w.heap.size 5 i0 (.int .u8 0) 1 Tryd.underlying33 HI.out hz0 hz1 .i64 .i64 _ _ m rfl rfl rfl rfl ?b1 ?b2 ?b3 ?_)
  case b1 => rw [hz2]; omega
  case b2 => unfold maxLen; omega
  case b3 => exact B0.out.size
  intro w2 hown hg
  have B2 := hid (Below.grown B0.out hg B0.out.size (fun k hk => by cases hk))
  rw [made_u8] at hown
  have HO := hid hown
  clear hown hg
  go_wp2_with fail
  go_ret
  exact ⟨_, rfl, HO.out, B2.out⟩
/-- One number more. -/
theorem putOne (v : Value) (base : Nat) (bs : List Int) (size z : Int) (al : Option Addr) (cl : Nat) (w : World) (hown : w.ownsRow base 5 1 v bs.length (u8s bs)) (hl : Lies .i64 w al 1 cl [z]) (hz : sizeB size = true) (hn : okB size z = true) (hlb : bs.length ≤ 1200) :
    Calls Tryd.prog 55 #[v, .int .i64 size, .slice al 1 cl] w fun e w' => ∃ v', e = .returned (.tuple #[v', .int .i64 0]) ∧ w'.ownsRow w.heap.size 5 1 v' (bs ++ digs size z).length (u8s (bs ++ digs size z)) ∧ Below w.heap.size w w' := by
  obtain ⟨a, cap, rfl, hL, _⟩ := owns_lies hown
  have hsz : size.toNat ≤ 4 := by rcases sizeB_cases hz with rfl | rfl | rfl <;> decide
  refine (put_ok a al bs.length cap 1 cl size bs [z] w hL hl (by simp [fitsB, hz, hn]) (by omega)).mono ?_
  rintro e w' ⟨v', rfl, h1, h2⟩
  have e1 : bytesOf size [z] = digs size z := by simp [bytesOf]
  rw [e1] at h1
  exact ⟨v', rfl, h1, h2⟩

theorem slice_eq {a a' : Option Addr} {n n' c c' : Nat} (h : a = a') (hn : n = n') (hc : c = c') : Value.slice a n c = .slice a' n' c' := by rw [h, hn, hc]
theorem part_len {k : Nat} (hk : k < 10) (j : Nat) (hj : j ≤ (prt k).length) (n ad : List Int) (ha : ad.length = 16) : (partsB ((prt k).take j) n ad).length ≤ 100 := by
  have h1 := partsB_length ((prt k).take j) (fun p hp => by rcases prt_sizes k hk p (List.mem_of_mem_take hp) with h | h; exact .inl h; exact .inr h.1) n ad ha
  have h2 := ((prt_small k hk).2 j (by have := (prt_small k hk).1; omega)).2
  omega
set_option maxHeartbeats 1600000 in
theorem content_parts {B : Nat} (o : Ov) (k : Nat) (hk : k < 10) (hok : o.k = k) (hk1 : zer k = false) (w : World) (ho : o.ok w) (hV : Vars B w) (hlen : o.n.n = (nmb (prt k)).length) (hwd : widB (nmb (prt k)) o.n.l = true) (ht64 : o.t.n ≤ 64) :
    Calls Tryd.prog 96 #[.agg o.cs] w fun e w' => ∃ v, e = .returned v ∧ w'.ownsRow w.heap.size 5 1 v (partsB (prt k) o.n.l o.ad ++ o.t.l).length (u8s (partsB (prt k) o.n.l o.ad ++ o.t.l)) ∧ Below w.heap.size w w' := by
  have HR0 := hid (Row.new w 54 o.cs)
  have B0 := hid (balloc (Below.refl w.heap.size w) (.cells o.cs 54))
  have V0 := hid (hV.below B0.out)
  have O0 := hid (ho.below B0.out)
  have HA := hid ho.ad
  have HW := hid hwd
  have HL := hid hlen
  have HK := hid hok
  have HKK := hid hk
  obtain ⟨a, n, cap, c1, hP⟩ := V0.out.parts k hk
  have s2 := V0.out.zeros k hk
  rw [hk1] at s2
  have hn10 : n ≤ 10 := by rw [← hP.len]; exact (prt_small k hk).1
  have HP := hid hP
  have HQ := hid (fun j hj => part_len hk j hj o.n.l o.ad ho.ad.1)
  have HZ := hid (prt_sizes k hk)
  have HN0 := hid ho.n.1
  have HNl : o.n.n ≤ 10 := by rw [hlen]; exact Nat.le_trans (nmb_le _) (prt_small k hk).1
  clear hV ho hP hwd hlen hk1
  go_enter Tryd.func96, Tryd.ntmps96
  go_upto_region 1 with fail
  generalize hw1 : w.alloc (.cells o.cs 54) = w1 at *
  have d0 := (HR0.out.cell 0).trans o.at0
  rw [HK.out] at d0
  have d1 := (HR0.out.cell 1).trans o.at1
  clear hw1 hok
  go_wp2_with fail
  go_loopw [3, 4, 25] (fun v lv i wr => ∃ j la ll lc, j ≤ n ∧ i = .int .i64 (j : Nat) ∧ lv = .slice la ll lc ∧ Hid (Lies .i64 w1 la ll lc (o.n.l.drop (nmb ((prt k).take j)).length)) ∧ Hid (wr.ownsRow w1.heap.size 5 1 v (partsB ((prt k).take j) o.n.l o.ad).length (u8s (partsB ((prt k).take j) o.n.l o.ad))) ∧ Hid (Below w1.heap.size w1 wr)) (fun _ _ i _ => n - (intOf i).toNat)
  case atStart => exact ⟨0, _, _, _, Nat.zero_le _, rfl, rfl, O0.out.n, World.ownsRow_nil _ _ _ _, Below.refl _ _⟩
  case round =>
    obtain ⟨j, la, ll, lc, hj, rfl, rfl, hla, hown, hb⟩ := hrel
    by_cases hlt : j < n
    · obtain ⟨b, off, rfl, hbB, hc0, hc1⟩ := (HP.out.same (fun b o hlt => hb.out.cell (p := ⟨b, o, none⟩) (Nat.lt_of_lt_of_le hlt V0.out.le))).cell j hlt
      have hjl : j < (prt k).length := by rw [HP.out.len]; exact hlt
      have HS := hid (partsB_succ (prt k) o.n.l o.ad j hjl)
      have HY := hid (nmb_yes (prt k) j hjl)
      have HNo := hid (nmb_no (prt k) j hjl)
      have HG := hid (nmb_get (prt k) j hjl)
      have hq := HQ.out j (by omega)
      have HZp := hid (HZ.out ((prt k).getD j (0, 0)) (by simp [hjl]))
      generalize hp : (prt k).getD j (0, 0) = p at *
      generalize hout : partsB ((prt k).take j) o.n.l o.ad = out at *
      generalize hcn : (nmb ((prt k).take j)).length = cn at *
      have HCN := hid hcn
      clear hp hout hcn hjl
      have HPP : Hid (p.1 = p.1 ∧ p.2 = p.2) := ⟨rfl, rfl⟩
      generalize hx : p.1 = x at *
      generalize hy : p.2 = y at *
      have R0 := hid (Row.new wr 160 #[.int .i64 x, .int .i64 y])
      have B1 := hid (balloc (Below.refl wr.heap.size wr) (.cells #[.int .i64 x, .int .i64 y] 160))
      cases h16 : (x == 16)
      · obtain ⟨hcl, hcg⟩ := HG.out h16
        have hll : ll = o.n.n - cn := by rw [← hla.out.1, List.length_drop, HN0.out]
        have hcl' : cn < o.n.n := by rw [HL.out]; exact hcl
        obtain ⟨b2, off2, rfl, hz⟩ := (hla.out.below hb.out).2.2.2.2 0 (by omega)
        have hzg : (o.n.l.drop cn).getD 0 0 = o.n.l.getD cn 0 := by simp [List.getD]
        have hin : inB ((nmb (prt k)).getD cn (0, 0)) (o.n.l.getD cn 0) = true := by
          have := HW.out
          rw [widB, List.all_eq_true] at this
          exact this cn (by simpa using hcl)
        rw [hzg] at hz
        rw [hcg] at hin
        have hin' : 0 ≤ o.n.l.getD cn 0 ∧ o.n.l.getD cn 0 ≤ p.2 := by simpa [inB] using hin
        rw [hy] at hin'
        have hsz : sizeB x = true ∧ y < top x := by
          rcases HZp.out with h | h
          · rw [h16] at h; cases h
          · exact h
        have hokz : okB x (o.n.l.getD cn 0) = true := by simp only [okB, decide_eq_true_eq]; omega
        generalize hzz : o.n.l.getD cn 0 = z at *
        have HOK := hid hokz
        have HSZ := hid hsz.1
        have hl1 : 1 ≤ ll := by omega
        have hl0 : 0 < ll := by omega
        have hl0' : (0 : Int) < (ll : Int) := by omega
        have hlc1 : ll ≤ lc := hla.out.2.1
        have hcut := hla.out.cut 1 (ll - 1) lc (by omega) (by omega) (Nat.le_refl _) (a' := if lc = 1 then some ⟨b2, off2, none⟩ else some ⟨b2, off2 + 1, none⟩) (fun h => by rw [if_neg (by omega)]; simp [Addr.add_lit]) (fun h => by rw [if_pos (by omega)])
        have HCut := hid hcut
        have hlcm : lc ≤ maxLen := hla.out.2.2.1
        unfold maxLen at hlcm
        clear hcut hokz hsz hin hin' hzg hcg hcl hcl' hll hzz
        rw [Nat.add_zero] at hz
        go_wp2_with fail
        refine (isAddress_any _ _ _).mono ?_
        rintro e w3 ⟨rfl, hb3⟩
        have B3 := hid (bthen B1.out hb3)
        have B4 := hid (bthen hb.out B3.out)
        have O3 := hid (own_below hown.out B3.out)
        have e0 := (R0.out.below hb3).cell 0
        simp only [List.getElem?_toArray, List.getElem?_cons_zero] at e0
        have hz3 := (B3.out.cell (p := ⟨b2, off2, none⟩) (World.block_lt_of_cell? wr _ hz)).trans hz
        clear hb3 hz
        rw [h16]
        generalize wr.heap.size = g6 at *
        have L5 := hid (lies_new .i64 w3 #[.int .i64 z] 3 [z] rfl (by simp))
        have O5 := hid (O3.out.alloc (.cells #[.int .i64 z] 3))
        have B5 := hid (balloc (Below.refl w3.heap.size w3) (.cells #[.int .i64 z] 3))
        have f0 := hid ((B5.out.cell (p := ⟨g6, 0, none⟩) (World.block_lt_of_cell? w3 _ e0)).trans e0)
        have f1 := hid ((B5.out.cell (p := ⟨b2, off2, none⟩) (World.block_lt_of_cell? w3 _ hz3)).trans hz3)
        go_wp2_with fail
        go_region_held3 (fun w' => w'.cell? ⟨g6, 0, none⟩ = some (.int .i64 x) ∧ w'.cell? ⟨b2, off2, none⟩ = some (.int .i64 z)) (go_keep) (first | (go_at_call 55; refine (putOne _ _ _ x z _ _ _ (by exact O5.out) (by exact L5.out) HSZ.out HOK.out (by omega)).mono ?_; rintro e w5 ⟨v5, rfl, hown5, hb5⟩; have f2 := (hb5.cell (p := ⟨g6, 0, none⟩) (World.block_lt_of_cell? _ _ f0.out)).trans f0.out; have f3 := (hb5.cell (p := ⟨b2, off2, none⟩) (World.block_lt_of_cell? _ _ f1.out)).trans f1.out))
        have B6 := hid (bthen (bthen B4.out B5.out).drew hb5)
        have O6 := hid (own_mono hown5 (b' := w1.heap.size) (Nat.le_trans B4.out.size B5.out.size))
        clear hown5 hb5 f2 f3
        have HEnd : Hid (nmb ((prt k).take (j + 1)) = nmb ((prt k).take j) ++ [p]) := HY.out h16
        by_cases hlc : lc = 1
        · rw [if_pos hlc] at HCut
          go_wp2_with fail
          go_roundw
          case rel =>
            refine ⟨j + 1, some ⟨b2, off2, none⟩, ll - 1, lc - 1, by omega, by go_num, slice_eq rfl (by omega) (by omega), ?_, ?_, B6.out⟩
            · rw [Hid, HEnd.out, List.length_append, HCN.out]
              have e := HCut.out
              rw [List.drop_drop, List.take_of_length_le (by have := hla.out.1; simp at this ⊢; omega)] at e
              exact e
            · rw [Hid, HS.out, if_neg (by rw [h16]; simp)]; exact O6.out
          case measure => simp [intOf]; omega
        · rw [if_neg hlc] at HCut
          go_wp2_with fail
          go_roundw
          case rel =>
            refine ⟨j + 1, some ⟨b2, off2 + 1, none⟩, ll - 1, lc - 1, by omega, by go_num, slice_eq rfl (by omega) (by omega), ?_, ?_, B6.out⟩
            · rw [Hid, HEnd.out, List.length_append, HCN.out]
              have e := HCut.out
              rw [List.drop_drop, List.take_of_length_le (by have := hla.out.1; simp at this ⊢; omega)] at e
              exact e
            · rw [Hid, HS.out, if_neg (by rw [h16]; simp)]; exact O6.out
          case measure => simp [intOf]; omega
      · go_wp2_with fail
        refine (isAddress_any _ _ _).mono ?_
        rintro e w3 ⟨rfl, hb3⟩
        have B3 := hid (bthen B1.out hb3)
        have B4 := hid (bthen hb.out B3.out)
        have O3 := hid (own_below hown.out B3.out)
        have L3 := hid (part_lies HA.out ((HR0.out.below B4.out).part.ovA HA.out))
        clear hb3
        rw [h16]
        go_wp2_with (at_builtin; refine wpList_appB rfl _ _ rfl rfl rfl O3.out L3.out ?c1 ?c2 ?_)
        case c1 => exact B4.out.size
        case c2 => omega
        intro v4 w4 ho4 hb4
        have B5 := hid (B4.out.trans hb4)
        have O4 := hid ho4
        clear ho4 hb4
        go_wp2_with fail
        go_roundw
        case rel =>
          refine ⟨j + 1, la, ll, lc, by omega, by go_num, rfl, ?_, ?_, B5.out⟩
          · rw [Hid, HNo.out h16, HCN.out]; exact hla.out
          · rw [Hid, HS.out, if_pos h16, List.length_append, HA.out.1]; exact O4.out
        case measure => simp [intOf]; omega
    · obtain rfl : j = n := by omega
      have hq := HQ.out j (by rw [HP.out.len]; exact Nat.le_refl _)
      rw [List.take_of_length_le (by rw [HP.out.len]; omega)] at hown hq
      have R9 := hid (HR0.out.below hb.out)
      have L9 := hid (O0.out.t.below hb.out)
      have c18 := (R9.out.cell 18).trans (Ov.at18 HA.out)
      have HT := hid O0.out.t.1
      go_wp2_with (at_builtin; refine wpList_appB rfl _ _ rfl rfl rfl hown.out L9.out ?c1 ?c2 ?_)
      case c1 => exact hb.out.size
      case c2 => omega
      intro v4 w4 ho4 hb4
      have B5 := hid (hb.out.trans hb4)
      have O4 := hid ho4
      clear ho4 hb4
      go_wp2_with fail
      go_ret
      refine ⟨_, rfl, ?_, bthen B0.out B5.out⟩
      rw [List.length_append, HT.out]
      exact own_mono O4.out B0.out.size
end Go.Proofs.YtbfjkhafdkhhmaaDoor

namespace Go.Proofs.YtbfjkhafdkhhmaaDoor
open Go.ChangeShapes Go.WideShapes Go.ChangeAt Go.RowKit Go.Deep
set_option linter.unusedVariables false
set_option linter.unusedSimpArgs false

/-- What is known of an option that is right. -/
theorem chk0 {o : Po} (h : chkP o = 0) : kndB o.k = true ∧ frmB o.k.toNat o = true ∧ widB (nmb (prt o.k.toNat)) o.n = true ∧ o.t.length ≤ 64 := by
  unfold chkP at h
  split at h
  · omega
  · rename_i h1
    split at h
    · omega
    · rename_i h2
      split at h
      · omega
      · rename_i h3
        split at h
        · omega
        · rename_i h4
          exact ⟨by simpa using h1, by simpa using h2, by simpa using h3, by omega⟩
theorem knd_nat {n : Int} (h : kndB n = true) : ∃ k : Nat, n = k ∧ k < 10 := by
  have : 0 ≤ n ∧ n < 10 := by simpa [kndB] using h
  exact ⟨n.toNat, by omega, by omega⟩
theorem pads_num {n : List Int} (hl : n.length = 1) (h : widB (nmb (prt 1)) n = true) : ∃ m : Nat, n = [(m : Int)] ∧ m ≤ 255 := by
  match n, hl with
  | [x], _ =>
    have : 0 ≤ x ∧ x ≤ 255 := by
      have h0 : nmb (prt 1) = [(1, 255)] := by decide
      rw [h0] at h
      simpa [widB, inB, List.range_succ] using h
    exact ⟨x.toNat, by simp; omega, by omega⟩
theorem conP_le {o : Po} {k : Nat} (hk : k < 10) (hok : o.k = k) (h : chkP o = 0) (ha : o.ad.length = 16) : (conP k o).length ≤ 255 := by
  obtain ⟨h1, h2, h3, h4⟩ := chk0 h
  rw [hok, Int.toNat_natCast] at h2 h3
  unfold conP
  split
  · rename_i hz
    have : k = 1 := by simpa [zer] using hz
    subst this
    obtain ⟨m, hm, hm2⟩ := pads_num (frm_len h2) h3
    rw [hm]; simp; omega
  · have := part_len hk (prt k).length (Nat.le_refl _) o.n o.ad ha
    rw [List.take_length] at this
    rw [List.length_append]; omega
/-- The bytes of an option. -/
def encP (o : Po) : List Int := if o.k = 0 then [0] else o.k :: ((conP o.k.toNat o).length : Int) :: conP o.k.toNat o
theorem optContent_any {B : Nat} (o : Ov) (k : Nat) (hk : k < 10) (hok : o.k = k) (w : World) (ho : o.ok w) (hV : Vars B w) (hc : chkP o.p = 0) :
    Calls Tryd.prog 96 #[.agg o.cs] w fun e w' => ∃ v, e = .returned v ∧ w'.ownsRow w.heap.size 5 1 v (conP k o.p).length (u8s (conP k o.p)) ∧ Below w.heap.size w w' := by
  obtain ⟨h1, h2, h3, h4⟩ := chk0 hc
  have hk' : o.p.k.toNat = k := by rw [show o.p.k = o.k from rfl, hok]; rfl
  rw [hk'] at h2 h3
  have hln : o.n.n = (nmb (prt k)).length := by rw [← ho.n.1]; exact frm_len h2
  cases hz : zer k
  · have e : conP k o.p = partsB (prt k) o.n.l o.ad ++ o.t.l := by rw [conP, hz]; rfl
    rw [e]
    exact content_parts o k hk hok hz w ho hV hln h3 (by rw [← ho.t.1]; exact h4)
  · have : k = 1 := by simpa [zer] using hz
    subst this
    obtain ⟨m, hm, hm2⟩ := pads_num (frm_len h2) h3
    have hm' : o.n.l = [(m : Int)] := hm
    have e : conP 1 o.p = List.replicate m 0 := by rw [conP, hz, if_pos rfl, hm]; simp
    rw [e, List.length_replicate]
    exact content_zeros o hok w ho hV m hm' hm2
/-- A literal is a row of the call's own. -/
theorem owns_lit {base : Nat} {e : TypeId} {size : Nat} (w : World) (cur : Array Value) (n : Nat) (hb : base ≤ w.heap.size) (hm : n ≤ maxLen) (hs : cur.size = n * size) :
    (w.alloc (.cells cur e)).ownsRow base e size (.slice (some ⟨w.heap.size, 0, none⟩) n n) n cur.toList :=
  ⟨by simpa using hs, .inr ⟨w.heap.size, n, cur, rfl, hb, heap_alloc_new w _, Nat.le_refl _, hm, hs, List.take_of_length_le (by simp [hs])⟩⟩
set_option maxHeartbeats 800000 in
theorem optWritten_any {B : Nat} (o : Ov) (w : World) (ho : o.ok w) (hV : Vars B w) (hc : chkP o.p = 0) :
    Calls Tryd.prog 81 #[.agg o.cs] w fun e w' => ∃ v, e = .returned v ∧ w'.ownsRow w.heap.size 5 1 v (encP o.p).length (u8s (encP o.p)) ∧ Below w.heap.size w w' := by
  have HR0 := hid (Row.new w 54 o.cs)
  have B0 := hid (balloc (Below.refl w.heap.size w) (.cells o.cs 54))
  have V0 := hid (hV.below B0.out)
  have O0 := hid (ho.below B0.out)
  have HA := hid ho.ad
  have HC := hid hc
  obtain ⟨k, hok, hk⟩ := knd_nat (chk0 hc).1
  have hok : o.k = k := hok
  clear hV ho hc
  by_cases hk0 : k = 0
  · have HE : Hid (encP o.p = [0]) := by rw [Hid, encP, if_pos (by rw [show o.p.k = o.k from rfl, hok, hk0]; rfl)]
    subst hk0
    go_enter Tryd.func81, Tryd.ntmps81
    go_upto_region 1 with fail
    generalize hw1 : w.alloc (.cells o.cs 54) = w1 at *
    have c0 := (HR0.out.cell 0).trans o.at0
    rw [hok] at c0
    have c0 : w1.cell? ⟨w.heap.size, 0, none⟩ = some (.int .i64 0) := c0
    have OW := hid (owns_lit (e := 5) (size := 1) (base := w.heap.size) w1 #[.int .u8 0] 1 B0.out.size (by decide) (by simp))
    have B1 := hid (balloc B0.out (.cells #[.int .u8 0] 5))
    clear hw1
    go_wp2_with fail
    go_ret
    refine ⟨_, rfl, ?_, B1.out⟩
    rw [HE.out]
    exact OW.out
  · have HE : Hid (encP o.p = (k : Int) :: ((conP k o.p).length : Int) :: conP k o.p) := by rw [Hid, encP, if_neg (by rw [show o.p.k = o.k from rfl, hok]; omega), show o.p.k = o.k from rfl, hok]; rfl
    have hle := conP_le hk (o := o.p) hok HC.out HA.out.1
    have hk0' : ((k : Int) == 0) = false := by simp; omega
    generalize hcn : (conP k o.p).length = cl at *
    have HCN := hid hcn
    have HF : Hid (fitsB 1 [(k : Int), (cl : Int)] = true) := by rw [Hid]; simp [fitsB, sizeB, okB, top]; omega
    have HBY : Hid (bytesOf 1 [(k : Int), (cl : Int)] = [(k : Int), (cl : Int)]) := by rw [Hid]; simp [bytesOf, digs]; omega
    have HK := hid hok
    go_enter Tryd.func81, Tryd.ntmps81
    go_upto_region 1 with fail
    generalize hw1 : w.alloc (.cells o.cs 54) = w1 at *
    have c0 := (HR0.out.cell 0).trans o.at0
    rw [HK.out] at c0
    clear hw1 hok hk0 hcn
    go_wp2_with (refine ldOo o43 _ rfl rfl w.heap.size 0 rfl o HA.out HR0.out.part ?_)
    refine (optContent_any o k hk HK.out _ O0.out V0.out HC.out).mono ?_
    rintro e w2 ⟨v2, rfl, hown2, hb2⟩
    obtain ⟨a2, cap2, rfl, hl2, _⟩ := owns_lies hown2
    rw [HCN.out] at hl2 ⊢
    have R2 := hid (HR0.out.below hb2)
    have B2 := hid (bthen B0.out hb2)
    have L2 := hid hl2
    have e0 := (R2.out.cell 0).trans o.at0
    rw [HK.out] at e0
    clear hb2 hown2 hl2 c0 B0 HR0 V0 O0
    have L3 := hid (lies_new .i64 w2 #[.int .i64 k, .int .i64 cl] 3 [(k : Int), (cl : Int)] rfl (by simp))
    have B3 := hid (balloc (Below.refl w2.heap.size w2) (.cells #[.int .i64 k, .int .i64 cl] 3))
    go_wp2_with fail
    generalize hw3 : w2.alloc (.cells #[.int .i64 k, .int .i64 cl] 3) = w3 at *
    clear hw3
    refine (put_ok none _ 0 0 2 2 1 [] [(k : Int), (cl : Int)] _ (Lies.nil _ _) L3.out HF.out (by decide)).mono ?_
    rintro e w4 ⟨v4, rfl, hown4, hb4⟩
    rw [HBY.out, List.nil_append] at hown4
    have O4 := hid hown4
    have B4 := hid (bthen B3.out hb4)
    have L4 := hid (L2.out.below B4.out)
    have B5 := hid (bthen B2.out B4.out)
    have B6 := hid hb4
    clear hown4 hb4
    go_wp2_with (at_builtin; refine wpList_appB rfl _ _ rfl rfl rfl O4.out L4.out ?c1 ?c2 ?_)
    case c1 => exact B6.out.size
    case c2 => simp; omega
    intro v5 w5 ho5 hb5
    have B7 := hid (B5.out.trans (hb5.mono (Nat.le_trans B2.out.size B3.out.size)))
    have O5 := hid ho5
    clear ho5 hb5
    go_wp2_with fail
    go_ret
    refine ⟨_, rfl, ?_, B7.out⟩
    rw [HE.out]
    refine own_mono (b' := w.heap.size) (b := w3.heap.size) ?_ (Nat.le_trans B2.out.size B3.out.size)
    refine ownsRow_u8 O5.out ?_ rfl
    simp [HCN.out]; omega
/-- How many bytes an option has. -/
def sizP (o : Po) : Int := if chkP o = 0 then ((encP o).length : Int) else 0
theorem encP_le {o : Po} (hc : chkP o = 0) (ha : o.ad.length = 16) : (encP o).length ≤ 257 := by
  obtain ⟨k, hok, hk⟩ := knd_nat (chk0 hc).1
  have := conP_le hk hok hc ha
  unfold encP
  rw [hok, Int.toNat_natCast]
  split
  · simp
  · simp; omega
theorem chkP_pos (o : Po) : 0 ≤ chkP o ∧ chkP o ≤ 6 := by
  unfold chkP
  split
  · omega
  · split
    · omega
    · split
      · omega
      · split <;> omega
end Go.Proofs.YtbfjkhafdkhhmaaDoor

namespace Go.Proofs.YtbfjkhafdkhhmaaDoor
open Go.ChangeShapes Go.WideShapes Go.ChangeAt Go.RowKit Go.Deep
set_option linter.unusedVariables false
set_option linter.unusedSimpArgs false

theorem layOo_new (w : World) (t : TypeId) (o : Ov) : Row ((w.alloc (.cells Ov.zero.cs t)).setRow w.heap.size o.cs) w.heap.size t o.cs := (Row.new w t _).setRow _
theorem layOo_below (w : World) (t : TypeId) (o : Ov) : Below w.heap.size w ((w.alloc (.cells Ov.zero.cs t)).setRow w.heap.size o.cs) := below_setRow' (balloc (Below.refl w.heap.size w) _) (Nat.le_refl _) _

theorem ret_tup {v : Value} {b c : Int} (h : b = c) : Ending.returned (.tuple #[v, .int .i64 b]) = .returned (.tuple #[v, .int .i64 c]) := by rw [h]
/-- The first error. -/
def bad : List Po → Int
  | [] => 0
  | o :: L => if chkP o = 0 then bad L else chkP o
/-- The bytes of all. -/
def encs (L : List Po) : List Int := L.flatMap encP
/-- What is wrong with options. -/
def encE (L : List Po) : Int := if 16 < L.length then 2 else if bad L ≠ 0 then bad L else if 1280 < (encs L).length then 2 else 0
def encsL (L : List Po) : List Int := if encE L = 0 then encs L else []
def Po.none : Po := ⟨0, [], [], []⟩
theorem bad_app (L M : List Po) (h : bad L = 0) : bad (L ++ M) = bad M := by
  induction L with
  | nil => rfl
  | cons o L ih =>
    rw [bad] at h
    split at h
    · rename_i hc
      rw [List.cons_append, bad, if_pos hc]; exact ih h
    · rename_i hc; exact absurd h hc
theorem bad_app_no (L M : List Po) (h : bad L ≠ 0) : bad (L ++ M) = bad L := by
  induction L with
  | nil => exact absurd rfl h
  | cons o L ih =>
    rw [bad] at h
    rw [List.cons_append, bad, bad]
    split
    · rename_i hc
      rw [if_pos hc] at h; exact ih h
    · rfl
theorem bad_at (L : List Po) (j : Nat) (hj : j < L.length) (h : bad (L.take j) = 0) : (chkP (L.getD j Po.none) = 0 → bad (L.take (j + 1)) = 0) ∧ (chkP (L.getD j Po.none) ≠ 0 → bad L = chkP (L.getD j Po.none)) := by
  have e : L.getD j Po.none = L[j] := by simp [hj]
  rw [e]
  constructor
  · intro hc
    rw [List.take_succ_eq_append_getElem hj, bad_app _ _ h, bad, if_pos hc]; rfl
  · intro hc
    have : L = L.take j ++ (L[j] :: L.drop (j + 1)) := by rw [← List.drop_eq_getElem_cons hj, List.take_append_drop]
    have e2 : bad L = bad (L.take j ++ (L[j] :: L.drop (j + 1))) := congrArg bad this
    rw [e2, bad_app _ _ h, bad, if_neg hc]
theorem encs_succ (L : List Po) (j : Nat) (hj : j < L.length) : encs (L.take (j + 1)) = encs (L.take j) ++ encP (L.getD j Po.none) := by
  rw [encs, encs, List.take_succ_eq_append_getElem hj, List.flatMap_append]; simp [hj]
theorem encs_app (L M : List Po) : encs (L ++ M) = encs L ++ encs M := List.flatMap_append
/-- Options in memory, as options. -/
def pos (L : List Ov) : List Po := L.map Ov.p
theorem pos_len (L : List Ov) : (pos L).length = L.length := by simp [pos]
theorem pos_at (L : List Ov) (j : Nat) (hj : j < L.length) : (pos L).getD j Po.none = (L.getD j Ov.zero).p := by simp [pos, hj]

set_option maxHeartbeats 1600000 in
theorem optEncode_any {B : Nat} (a : Option Addr) (n cap : Nat) (L : List Ov) (w : World) (hL : Opts w a n cap L) (hV : Vars B w) (hn : n ≤ 1000) :
    Calls Tryd.prog 56 #[.slice a n cap] w fun e w' => ∃ v, e = .returned (.tuple #[v, .int .i64 (encE (pos L))]) ∧ w'.ownsRow w.heap.size 5 1 v (encsL (pos L)).length (u8s (encsL (pos L))) ∧ Below w.heap.size w w' := by
  have hz := zov
  have HPL : Hid ((pos L).length = n) := by rw [Hid, pos_len]; exact hL.len
  by_cases h16 : 16 < n
  · have hE : encE (pos L) = 2 := by rw [encE, if_pos (by rw [HPL.out]; exact h16)]
    have hLL : encsL (pos L) = [] := by rw [encsL, hE]; rfl
    rw [hE, hLL]
    have h16' : (16 : Int) < (n : Int) := by omega
    clear hL hV hz
    go_enter Tryd.func56, Tryd.ntmps56
    go_wp2_with fail
    go_ret2
    exact ⟨_, rfl, World.ownsRow_nil _ _ _ _, Below.refl _ _⟩
  · have h16' : ¬ (16 : Int) < (n : Int) := by omega
    have HE : Hid (encE (pos L) = if bad (pos L) ≠ 0 then bad (pos L) else if 1280 < (encs (pos L)).length then 2 else 0) := by rw [Hid, encE, if_neg (by rw [HPL.out]; exact h16)]
    have HLL : Hid (encsL (pos L) = if encE (pos L) = 0 then encs (pos L) else []) := rfl
    have HL := hid hL
    have HV := hid hV
    have hlen := hL.len
    have HLen := hid hlen
    clear hL hV hlen
    go_enter Tryd.func56, Tryd.ntmps56
    go_wp2_with fail
    go_loopw [4, 13] (fun v i wr => ∃ j : Nat, j ≤ n ∧ i = .int .i64 j ∧ Hid (bad ((pos L).take j) = 0) ∧ Hid ((encs ((pos L).take j)).length ≤ 257 * j) ∧ Hid (wr.ownsRow w.heap.size 5 1 v (encs ((pos L).take j)).length (u8s (encs ((pos L).take j)))) ∧ Hid (Below w.heap.size w wr)) (fun _ i _ => n - (intOf i).toNat)
    case atStart => exact ⟨0, Nat.zero_le _, rfl, rfl, Nat.zero_le _, World.ownsRow_nil _ _ _ _, Below.refl _ _⟩
    case round =>
      obtain ⟨j, hj, rfl, hbad, hln, hown, hb⟩ := hrel
      by_cases hlt : j < n
      · have hL1 := HL.out.below hb.out
        obtain ⟨b, off, rfl, hp⟩ := hL1.cell j hlt
        have hjl : j < L.length := by rw [HLen.out]; exact hlt
        have hok := hL1.at j hlt
        have hba := bad_at (pos L) j (by rw [pos_len]; exact hjl) hbad.out
        have hes := encs_succ (pos L) j (by rw [pos_len]; exact hjl)
        rw [pos_at L j hjl] at hba hes
        generalize hoo : L.getD j Ov.zero = o at *
        have PP := hid hp
        have OK := hid hok
        have HBA := hid hba
        have HES := hid hes
        have HA := hid hok.ad
        have V1 := hid (HV.out.below hb.out)
        clear hL1 hp hok hba hes hoo hjl
        have R2 := hid (layOo_new wr 54 o)
        have B2 := hid (layOo_below wr 54 o)
        go_wp2_with (first | (refine ldOo o43 _ rfl rfl _ _ rfl o HA.out PP.out ?_) | (refine ldOo o43 _ rfl rfl _ _ rfl o HA.out (layOo_new wr 54 o).part ?_) | (refine stOo o43 _ _ rfl rfl wr.heap.size o HA.out rfl rfl 54 Ov.zero adr_zeros (Row.new wr 54 _) ?_))
        generalize hw2 : (wr.alloc (.cells Ov.zero.cs 54)).setRow wr.heap.size o.cs = w2 at *
        have O2 := hid (own_below hown.out B2.out)
        have OK2 := hid (OK.out.below B2.out)
        have V2 := hid (V1.out.below B2.out)
        have B3 := hid (bthen hb.out B2.out)
        generalize hgs : wr.heap.size = g at *
        clear hw2 hgs PP OK V1 B2
        refine (optCheck_any o _ OK2.out V2.out).mono ?_
        rintro e w3 ⟨rfl, hb3⟩
        have R3 := hid (R2.out.below hb3)
        have O3 := hid (own_below O2.out hb3)
        have OK3 := hid (OK2.out.below hb3)
        have V3 := hid (V2.out.below hb3)
        have B4 := hid (bthen B3.out hb3)
        clear hb3 R2 O2 OK2 V2 B3
        by_cases hc : chkP o.p = 0
        · have HC := hid hc
          rw [hc]
          clear hc
          have hel := encP_le HC.out HA.out.1
          go_wp2_with (refine ldOo o43 _ rfl rfl g 0 rfl o HA.out R3.out.part ?_)
          refine (optWritten_any o _ OK3.out V3.out HC.out).mono ?_
          rintro e w4 ⟨v4, rfl, hown4, hb4⟩
          obtain ⟨a4, c4, rfl, hl4, _⟩ := owns_lies hown4
          have L4 := hid hl4
          have O4 := hid (own_below O3.out hb4)
          have B5 := hid (bthen B4.out hb4)
          clear hb4 hown4 hl4
          generalize hel2 : (encP o.p).length = el at *
          have HEL := hid hel2
          clear hel2
          go_wp2_with (at_builtin; refine wpList_appB rfl _ _ rfl rfl rfl O4.out L4.out ?c1 ?c2 ?_)
          case c1 => exact B5.out.size
          case c2 => have := hln.out; omega
          intro v5 w5 ho5 hb5
          have O5 := hid ho5
          have B6 := hid (B5.out.trans hb5)
          clear ho5 hb5
          go_wp2_with fail
          go_roundw
          case rel =>
            refine ⟨j + 1, by omega, by go_num, HBA.out.1 HC.out, ?_, ?_, B6.out⟩
            · rw [Hid, HES.out, List.length_append, HEL.out]; have := hln.out; omega
            · rw [Hid, HES.out, List.length_append, HEL.out]; exact O5.out
          case measure => simp [intOf]; omega
        · have HC := hid hc
          have hc' : (chkP o.p != 0) = true := by simpa using hc
          clear hc
          have HB := hid (HBA.out.2 HC.out)
          generalize chkP o.p = c at *
          go_wp2_with fail
          go_ret2
          have e1 : encE (pos L) = c := by rw [HE.out, HB.out, if_pos HC.out]
          refine ⟨_, ret_tup e1.symm, ?_, B4.out⟩
          rw [HLL.out, e1, if_neg HC.out]
          exact World.ownsRow_nil _ _ _ _
      · obtain rfl : j = n := by omega
        rw [List.take_of_length_le (by rw [HPL.out]; exact Nat.le_refl _)] at hbad hln hown
        obtain ⟨va, vc, hv⟩ := owns_len hown.out
        subst hv
        have hln2 := hln.out
        have hE2 : Hid (encE (pos L) = if 1280 < (encs (pos L)).length then 2 else 0) := by rw [Hid, HE.out, hbad.out]; rfl
        have HEN : Hid ((encs (pos L)).length = (encs (pos L)).length) := rfl
        generalize hen : (encs (pos L)).length = en at *
        by_cases hlong : 1280 < en
        · have hlong' : (1280 : Int) < (en : Int) := by omega
          go_wp2_with fail
          go_ret2
          have e1 : encE (pos L) = 2 := by rw [hE2.out, if_pos hlong]
          refine ⟨_, ret_tup e1.symm, ?_, hb.out⟩
          rw [HLL.out, e1]
          exact World.ownsRow_nil _ _ _ _
        · have hlong' : ¬ (1280 : Int) < (en : Int) := by omega
          go_wp2_with fail
          go_ret2
          have e1 : encE (pos L) = 0 := by rw [hE2.out, if_neg hlong]
          refine ⟨_, ret_tup e1.symm, ?_, hb.out⟩
          rw [HLL.out, e1, if_pos rfl, hen]
          exact hown.out
end Go.Proofs.YtbfjkhafdkhhmaaDoor

namespace Go.Proofs.YtbfjkhafdkhhmaaDoor
set_option linter.unusedVariables false
set_option linter.unusedSimpArgs false

/-- A field: its place, shift, greatest value. -/
structure Fl where
  p : Nat
  s : Nat
  l : Nat
/-- A part: its size, and its fields. -/
structure Pa where
  z : Nat
  f : List Fl
def Fl.none : Fl := ⟨0, 0, 0⟩
def Pa.none : Pa := ⟨0, []⟩
def cpas : List (List Pa) := [[⟨2, []⟩],
  [⟨1, [⟨0, 0, 255⟩]⟩, ⟨1, [⟨1, 0, 255⟩]⟩, ⟨2, [⟨2, 0, 65535⟩]⟩, ⟨1, [⟨3, 7, 1⟩, ⟨4, 3, 7⟩, ⟨5, 0, 7⟩]⟩, ⟨1, [⟨6, 0, 255⟩]⟩, ⟨2, []⟩],
  [⟨1, [⟨0, 0, 255⟩]⟩, ⟨1, [⟨7, 7, 1⟩, ⟨10, 6, 1⟩]⟩, ⟨1, []⟩, ⟨1, [⟨8, 0, 255⟩]⟩],
  [⟨1, [⟨0, 0, 255⟩]⟩, ⟨1, [⟨10, 7, 1⟩]⟩, ⟨1, [⟨8, 0, 255⟩]⟩, ⟨1, [⟨9, 0, 255⟩]⟩]]
/-- A code's parts. -/
def cpa (k : Nat) : List Pa := cpas.getD k []
def crt (k : Nat) : Bool := k == 1
def ckis : List (List Int) := [[0, 1, 7], [0, 1, 2, 3, 4, 8], [0, 1, 5, 6, 9], [0, 1]]
/-- A code's kinds. -/
def cki (k : Nat) : List Int := ckis.getD k []
def cwds : List ByteArray := [⟨#[100, 105, 115]⟩, ⟨#[100, 105, 111]⟩, ⟨#[100, 97, 111]⟩, ⟨#[97, 99, 107]⟩]
/-- A code's word. -/
def cwd (k : Nat) : ByteArray := cwds.getD k ByteArray.empty
/-- A message. -/
structure Pm where
  c : Int
  i : Int
  v : Int
  r : Int
  mo : Int
  pf : Int
  d : Int
  sq : Int
  st : Int
  g : Bool
  a : Bool
  ro : List Int
  o : List Po
def bitI (b : Bool) : Int := if b = true then 1 else 0
def thr (ro : List Int) : Int := bitI (!(ro == zeros))
/-- Its values. -/
def Pm.vs (m : Pm) : List Int := [m.i, m.v, m.r, bitI m.g, m.mo, m.pf, m.d, bitI m.a, m.sq, m.st, thr m.ro]
def Pm.zero : Pm := ⟨0, 0, 0, 0, 0, 0, 0, 0, 0, false, false, zeros, []⟩
def codB (c : Int) : Bool := decide (0 ≤ c ∧ c < 4)
theorem cod_nat {c : Int} (h : codB c = true) : ∃ k : Nat, c = k ∧ k < 4 := by
  have h' : 0 ≤ c ∧ c < 4 := by simpa [codB] using h
  exact ⟨c.toNat, by omega, by omega⟩
theorem codB_nat {k : Nat} (h : k < 4) : codB k = true := by simp [codB]; omega
def zer11 : List Int := List.replicate 11 0
/-- Values behind the fields struck out. -/
def clrF (fs : List Fl) (v : List Int) : List Int := fs.foldl (fun v f => v.set f.p 0) v
def clrP (ps : List Pa) (v : List Int) : List Int := ps.foldl (fun v p => clrF p.f v) v
def frmV (k : Nat) (v : List Int) : Bool := (if crt k = true then (clrP (cpa k) v).set 10 0 else clrP (cpa k) v) == zer11
/-- Is a field's value one that may be? -/
def inF (v : List Int) (f : Fl) : Bool := decide (0 ≤ v.getD f.p 0) && decide (v.getD f.p 0 ≤ (f.l : Int))
def inP (v : List Int) (p : Pa) : Bool := p.f.all (inF v)
def witV (k : Nat) (v : List Int) : Bool := (cpa k).all (inP v) && (!crt k || v.getD 10 0 == 1)
def mayB (c k : Int) : Bool := codB c && decide (k ∈ cki c.toNat)
def allM (c : Int) (o : List Po) : Bool := o.all (fun p => mayB c p.k)
/-- What is wrong with a message ahead of its options. -/
def chk0M (m : Pm) : Int := if codB m.c = true then (if frmV m.c.toNat m.vs = true then (if witV m.c.toNat m.vs = true then (if allM m.c m.o = true then 0 else 6) else 1) else 3) else 6
def chkM (m : Pm) : Int := if chk0M m = 0 then encE m.o else chk0M m
/-- A part's number. -/
def orF (v : List Int) (fs : List Fl) : Int := fs.foldl (fun n f => n + v.getD f.p 0 * 2 ^ f.s) 0
def hdP (v : List Int) (p : Pa) : List Int := bytesOf p.z [orF v p.f]
def hdV (v : List Int) (ps : List Pa) : List Int := ps.flatMap (hdP v)
/-- The bytes ahead of the options. -/
def hdM (m : Pm) : List Int := hdV m.vs (cpa m.c.toNat) ++ (if m.vs.getD 10 0 = 1 then m.ro else [])
/-- What is wrong with a message's bytes; the bytes. -/
def eE (m : Pm) : Int := if chkM m ≠ 0 then chkM m else if 1280 < (hdM m).length + (encsL m.o).length then 2 else 0
def eL (m : Pm) : List Int := if eE m = 0 then hdM m ++ encsL m.o else []
/-- The same message? -/
def Po.eqs (P Q : List Po) : Prop := P = Q

/-! The document's own words. -/
def rmay (c k : Int) : Bool := codB c && decide (k ∈ cki c.toNat)
def dioM (m : Pm) : Bool := (m.v != 0) || ((m.r != 0) || ((m.mo != 0) || ((m.pf != 0) || ((m.d != 0) || m.g))))
def morM (m : Pm) : Bool :=
  if m.c = 0 then dioM m || ((m.i != 0) || ((m.sq != 0) || ((m.st != 0) || (m.a || (m.ro != zeros)))))
  else if m.c = 1 then (m.sq != 0) || ((m.st != 0) || m.a)
  else if m.c = 2 then dioM m || (m.st != 0)
  else dioM m || m.a
def rng (m : Pm) : List Int := [m.i, m.v, m.d, m.sq, m.st, m.r, m.mo, m.pf]
def mst : List Int := [255, 255, 255, 255, 255, 65535, 7, 7]
def rngB (m : Pm) : Bool := (List.range 8).all fun i => decide (0 ≤ (rng m).getD i 0) && decide ((rng m).getD i 0 ≤ mst.getD i 0)
theorem bitI_0 (b : Bool) : (bitI b = 0) = (b = false) := by cases b <;> simp [bitI]
theorem bitI_bd (b : Bool) : 0 ≤ bitI b ∧ bitI b ≤ 1 := by cases b <;> simp [bitI]
theorem thr_0 (ro : List Int) : (thr ro = 0) = (ro = zeros) := by unfold thr; rw [bitI_0]; simp
theorem thr_1 (ro : List Int) : (thr ro = 1) = (ro ≠ zeros) := by unfold thr bitI; by_cases h : ro = zeros <;> simp [h]
theorem frm_mor (m : Pm) (h : codB m.c = true) : frmV m.c.toNat m.vs = !morM m := by
  obtain ⟨k, e, hk⟩ := cod_nat h
  rw [Bool.eq_iff_iff]
  rw [e, Int.toNat_natCast]
  have hk' : k = 0 ∨ k = 1 ∨ k = 2 ∨ k = 3 := by omega
  rcases hk' with rfl | rfl | rfl | rfl <;>
    simp [frmV, crt, cpa, cpas, clrP, clrF, Pm.vs, zer11, morM, dioM, e, bitI_0, thr_0, List.replicate] <;> grind
theorem wit_rng (m : Pm) (h : codB m.c = true) (hf : frmV m.c.toNat m.vs = true) : witV m.c.toNat m.vs = (rngB m && !(m.c == 1 && m.ro == zeros)) := by
  have h1 := bitI_bd m.g
  have h2 := bitI_bd m.a
  have h3 : 0 ≤ thr m.ro ∧ thr m.ro ≤ 1 := bitI_bd _
  obtain ⟨k, e, hk⟩ := cod_nat h
  rw [e, Int.toNat_natCast] at hf ⊢
  rw [Bool.eq_iff_iff]
  have hk' : k = 0 ∨ k = 1 ∨ k = 2 ∨ k = 3 := by omega
  rcases hk' with rfl | rfl | rfl | rfl <;>
    simp [frmV, crt, cpa, cpas, clrP, clrF, Pm.vs, zer11, bitI_0, thr_0, List.replicate] at hf <;>
    simp [witV, inP, inF, crt, cpa, cpas, Pm.vs, rngB, rng, mst, List.range, List.range.loop, thr_1, hf] <;> grind
end Go.Proofs.YtbfjkhafdkhhmaaDoor
