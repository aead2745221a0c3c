/- The document's answer: the bytes of an option that is right. · The document's answer: the bytes of options, EncodeAll. -/
import Derived.Test.YtbgogeojdibmkaaDoorM7
import Derived.Deep.RegionHeld3
namespace Go.Proofs.YtbgogeojdibmkaaDoor
open Go.ChangeShapes Go.WideShapes Go.ChangeAt Go.RowKit Go.Deep
set_option linter.unusedVariables false
set_option linter.unusedSimpArgs false

theorem cl_nn : ∀ k, k < 10 → ∀ i, i < (cl k).length → isN ((cl k).getD i 0) = true → (nmb (prt k)).getD (acnt (cl k) i) (0, 0) = (szc ((cl k).getD i 0), lastc ((cl k).getD i 0)) := by decide
theorem okB_wf {s z : Int} (h : okB s z = true) : (Lit.int .i64 z).wf = true := by
  have h1 : 0 ≤ z ∧ z < top s := by simpa [okB] using h
  have h2 : top s ≤ 4294967296 := by unfold top; split; omega; split <;> omega
  simp [Lit.wf, IntKind.min, IntKind.max, IntKind.bits, IntKind.signed]; omega
theorem goodc_ok {c z : Int} (h : goodc c z = true) : okB (szc c) z = true := by
  simp only [goodc, Bool.and_eq_true] at h; exact h.1
theorem rB_len {o : Po} {k : Nat} (hk : k < 10) (hok : o.k = k) (h : chkP o = 0) (ha : o.ad.length = 16) (i : Nat) (hi : i ≤ (chs k).size) : (rBto (cl k) o.n o.ad o.t i).length ≤ 255 := by
  have h1 := rB_con o k hk hok h
  have h2 := conP_le hk hok h ha
  rw [← h1] at h2
  have h3 : (chs k).size = i + ((chs k).size - i) := by omega
  have h4 : rBto (cl k) o.n o.ad o.t (chs k).size = rBto (cl k) o.n o.ad o.t i ++ (List.range ((chs k).size - i)).flatMap (fun j => piece (cl k) o.n o.ad o.t (i + j)) := by
    rw [rBto, rBto, h3, List.range_add, List.flatMap_append]
    simp [List.flatMap_map]
  rw [h4, List.length_append] at h2
  omega
set_option maxRecDepth 1000000 in
set_option maxHeartbeats 3200000 in
theorem refEncode_any (o : Ov) (w : World) (ho : o.ok w) (hc : chkP o.p = 0) :
    Calls Tryd.prog 15 #[.agg o.cs] w fun e w' => ∃ v, e = .returned v ∧ w'.ownsRow w.heap.size 5 1 v (encP o.p).length (u8s (encP o.p)) ∧ Below w.heap.size w w' := by
  have HR0 := hid (Row.new w 38 o.cs)
  have B0 := hid (balloc (Below.refl w.heap.size w) (.cells o.cs 38))
  have O0 := hid (ho.below B0.out)
  have HA := hid ho.ad
  have HC := hid hc
  obtain ⟨k, hok, hk⟩ := knd_nat (chk0 hc).1
  have hok : o.k = k := hok
  clear ho hc
  by_cases hk0 : k = 0
  · have HE : Hid (encP o.p = [0]) := by rw [Hid, encP, if_pos (by rw [show o.p.k = o.k from rfl, hok, hk0]; rfl)]
    subst hk0
    go_enter Tryd.func15, Tryd.ntmps15
    go_upto_region 1 with fail
    generalize hw1 : w.alloc (.cells o.cs 38) = w1 at *
    have c0 := (HR0.out.cell 0).trans o.at0
    rw [hok] at c0
    have c0 : w1.cell? ⟨w.heap.size, 0, none⟩ = some (.int .i64 0) := c0
    have OW := hid (owns_lit (e := 5) (size := 1) (base := w.heap.size) w1 #[.int .u8 0] 1 B0.out.size (by decide) (by simp))
    have B1 := hid (balloc B0.out (.cells #[.int .u8 0] 5))
    clear hw1
    go_wp2_with fail
    go_ret
    refine ⟨_, rfl, ?_, B1.out⟩
    rw [HE.out]
    exact OW.out
  · have HE : Hid (encP o.p = (k : Int) :: ((conP k o.p).length : Int) :: conP k o.p) := by rw [Hid, encP, if_neg (by rw [show o.p.k = o.k from rfl, hok]; omega), show o.p.k = o.k from rfl, hok]; rfl
    have hle := conP_le hk (o := o.p) hok HC.out HA.out.1
    have HLe := hid (rB_len (o := o.p) hk hok HC.out HA.out.1)
    have HCon := hid (rB_con o.p k hk hok HC.out)
    have HK := hid hok
    obtain ⟨h1, h2, h3, h4⟩ := chk0 HC.out
    rw [show o.p.k = o.k from rfl, hok, Int.toNat_natCast] at h2 h3
    have hln : o.n.n = (nmb (prt k)).length := by rw [← O0.out.n.1]; exact frm_len h2
    have HLn := hid hln
    have HW : Hid (∀ j, j < (nmb (prt k)).length → inB ((nmb (prt k)).getD j (0, 0)) (o.n.l.getD j 0) = true) := by
      intro j hj
      have := h3
      rw [widB, List.all_eq_true] at this
      exact this j (by simpa using hj)
    have HP1 : Hid (k = 1 → ∃ m : Nat, o.n.l = [(m : Int)] ∧ m ≤ 255) := by
      intro e; subst e
      exact pads_num (frm_len h2) h3
    have hk0' : ((k : Int) == 0) = false := by simp; omega
    have hwk : IntKind.u8.wrap (k : Int) = (k : Int) := by rw [IntKind.wrap_u8]; omega
    have HLt : Hid (lets k = chs k) := by
      have := h1
      rw [show o.p.k = o.k from rfl, hok] at this
      rw [Hid, lets, this, if_pos rfl]; rfl
    have hcs := chs_small k hk
    have HCL := hid (cl_len k)
    have HCh := hid (fun i h => char_at k i h)
    have HAS := hid (fun i h => acnt_succ (cl k) i h)
    have HCX := hid (cl_x k hk)
    have HCN := hid (cl_n k hk)
    have HCNN := hid (cl_nn k hk)
    have HBS := hid (fun i => rBto_succ (cl k) o.n.l o.ad o.t.l i)
    have HLe : Hid (∀ i, i ≤ (chs k).size → (rBto (cl k) o.n.l o.ad o.t.l i).length ≤ 255) := HLe
    have HCon : Hid (rBto (cl k) o.n.l o.ad o.t.l (chs k).size = conP k o.p) := HCon
    clear hok h1 h2 h3 h4 hk0 hln
    go_enter Tryd.func15, Tryd.ntmps15
    go_upto_region 1 with fail
    generalize hw1 : w.alloc (.cells o.cs 38) = w1 at *
    have c0 := (HR0.out.cell 0).trans o.at0
    rw [HK.out] at c0
    clear hw1
    go_wp2_with fail
    refine (parts_any _ _).mono ?_
    rintro e w2 ⟨rfl, hb2⟩
    have B2 := hid (bthen B0.out hb2)
    have R2 := hid (HR0.out.below hb2)
    have O2 := hid (O0.out.below hb2)
    rw [HLt.out]
    generalize hg1 : w.heap.size = g1 at *
    clear hb2 c0 B0 HR0 O0
    go_wp2_with fail
    go_loopw [4, 5, 6] (fun v av iv wr => ∃ i : Nat, i ≤ (chs k).size ∧ iv = .int .i64 i ∧ av = .int .i64 (acnt (cl k) i) ∧ Hid (wr.ownsRow w2.heap.size 5 1 v (rBto (cl k) o.n.l o.ad o.t.l i).length (u8s (rBto (cl k) o.n.l o.ad o.t.l i))) ∧ Hid (Below w2.heap.size w2 wr)) (fun _ _ i _ => (chs k).size - (intOf i).toNat)
    case atStart => exact ⟨0, Nat.zero_le _, rfl, rfl, World.ownsRow_nil _ _ _ _, Below.refl _ _⟩
    case round =>
      obtain ⟨i, hi, rfl, rfl, hown, hb⟩ := hrel
      have hlei := HLe.out i hi
      by_cases hlt : i < (chs k).size
      · have hlt3 : (i : Int) < ((chs k).size : Int) := by omega
        have hil : i < (cl k).length := by rw [HCL.out]; exact hlt
        have hc := HCh.out i hlt
        have hcx := HCX.out i hil
        have hcn := HCN.out i hil
        have hcnn := HCNN.out i hil
        have has := HAS.out i hil
        have hbs := HBS.out i
        rw [piece] at hbs
        generalize (cl k).getD i 0 = c at *
        have X1 := hid hcx
        have X2 := hid hcn
        have X3 := hid hcnn
        have X4 := hid has
        have X5 := hid hbs
        have a1 := ((R2.out.below hb.out).cell 1).trans o.at1
        have a18 := ((R2.out.below hb.out).cell 18).trans (Ov.at18 HA.out)
        clear hcx hcn hcnn has hbs hil
        by_cases q1 : c = 97
        · have r1 : (c == 97) = true := by simp [q1]
          have HI : Hid (isN c = false) := by rw [Hid, q1]; rfl
          have LA := hid (part_lies HA.out ((R2.out.below hb.out).part.ovA HA.out))
          clear q1
          go_wp2_with (at_builtin; refine wpList_appB rfl _ _ rfl rfl rfl hown.out LA.out ?c1 ?c2 ?_)
          case c1 => exact hb.out.size
          case c2 => omega
          intro v4 w4 ho4 hb4
          have B5 := hid (hb.out.trans hb4)
          have O4 := hid ho4
          clear ho4 hb4
          go_wp2_with fail
          go_roundw
          case rel =>
            refine ⟨i + 1, by omega, by go_num, by rw [X4.out, HI.out]; simp, ?_, B5.out⟩
            rw [Hid, X5.out, r1, if_pos rfl, List.length_append, HA.out.1]; exact O4.out
          case measure => simp [intOf]; omega
        · have r1 : (c == 97) = false := by simp [q1]
          clear q1
          by_cases q2 : c = 116
          · have r2 : (c == 116) = true := by simp [q2]
            have HI : Hid (isN c = false) := by rw [Hid, q2]; rfl
            have LT := hid (O2.out.t.below hb.out)
            have HT := hid O2.out.t.1
            have ht64 : o.t.n ≤ 64 := by
              have := (chk0 HC.out).2.2.2
              rw [← HT.out]; exact this
            clear q2
            go_wp2_with (at_builtin; refine wpList_appB rfl _ _ rfl rfl rfl hown.out LT.out ?c3 ?c4 ?_)
            case c3 => exact hb.out.size
            case c4 => omega
            intro v4 w4 ho4 hb4
            have B5 := hid (hb.out.trans hb4)
            have O4 := hid ho4
            clear ho4 hb4
            go_wp2_with fail
            go_roundw
            case rel =>
              refine ⟨i + 1, by omega, by go_num, by rw [X4.out, HI.out]; simp, ?_, B5.out⟩
              rw [Hid, X5.out, r1, r2, if_neg (by simp), if_pos rfl, List.length_append, HT.out]; exact O4.out
            case measure => simp [intOf]; omega
          · have r2 : (c == 116) = false := by simp [q2]
            clear q2
            by_cases q3 : c = 120
            · have r3 : (c == 120) = true := by simp [q3]
              have HI : Hid (isN c = false) := by rw [Hid, q3]; rfl
              obtain ⟨hi0, hk1⟩ := X1.out q3
              obtain ⟨mm, hmm, hm255⟩ := HP1.out hk1
              have hnn : o.n.n = 1 := by rw [← O2.out.n.1, hmm]; rfl
              obtain ⟨nb, noff, hna, hnc⟩ := (O2.out.n.below hb.out).2.2.2.2 0 (by omega)
              rw [hmm] at hnc
              simp only [List.getD_cons_zero, Nat.add_zero] at hnc
              rw [hna, hnn] at a1
              obtain ⟨i0, hinf, hz0, hz1, hz2⟩ := info_parts info5
              have HInf := hid hinf
              have HI0 := hid hi0
              have HMM := hid hmm
              clear q3 hi0 hk1 hmm hinf hnn hna
              go_wp2_with (at_make; refine wpList_make_full _ rfl _ _ 26 rfl w2.heap.size 5 i0 (.int .u8 0) 1 Tryd.underlying26 HInf.out hz0 hz1 .i64 .i64 _ _ mm rfl rfl rfl rfl ?b1 ?b2 ?b3 ?_)
              case b1 => rw [hz2]; omega
              case b2 => unfold maxLen; omega
              case b3 => exact hb.out.size
              intro w4 hown4 hg4
              have B5 := hid (Below.grown hb.out hg4 hb.out.size (fun k hk => by cases hk))
              rw [made_u8] at hown4
              have O4 := hid hown4
              clear hown4 hg4
              go_wp2_with fail
              go_roundw
              case rel =>
                refine ⟨i + 1, by omega, by go_num, by rw [X4.out, HI.out]; simp, ?_, B5.out⟩
                rw [Hid, X5.out, r1, r2, r3, if_neg (by simp), if_neg (by simp), if_pos rfl, HI0.out, HMM.out]
                have e0 : rBto (cl k) [(mm : Int)] o.ad o.t.l 0 = [] := rfl
                rw [e0]
                simpa using O4.out
              case measure => simp [intOf]; omega
            · have r3 : (c == 120) = false := by simp [q3]
              have HI : Hid (isN c = true) := by rw [Hid, isN, r1, r2, r3]; rfl
              clear q3
              obtain ⟨haj, hsz⟩ := X2.out HI.out
              have hgd := X3.out HI.out
              have hin := HW.out _ haj
              rw [hgd] at hin
              have hgood : goodc c (o.n.l.getD (acnt (cl k) i) 0) = true := (goodc_in c _ hsz).trans hin
              have HOk := hid (goodc_ok hgood)
              have HWf := hid (okB_wf HOk.out)
              have HSZ := hid hsz
              have hajn : acnt (cl k) i < o.n.n := by rw [HLn.out]; exact haj
              have hajn' : ((acnt (cl k) i : Nat) : Int) < (o.n.n : Int) := by omega
              obtain ⟨nb, noff, hna, hnc⟩ := (O2.out.n.below hb.out).2.2.2.2 _ hajn
              have b1 := a1
              rw [hna] at b1
              have hn10 : o.n.n ≤ 10 := by rw [HLn.out]; exact Nat.le_trans (nmb_le _) (prt_small k hk).1
              generalize o.n.l.getD (acnt (cl k) i) 0 = z at *
              generalize hajq : acnt (cl k) i = aj at *
              clear hgd hin hgood hsz haj a1 hna hajq
              go_wp2_with fail
              refine wp_region_held_drew (S := fun w' => w'.cell? ⟨g1, 1, none⟩ = some (.slice (some ⟨nb, noff, none⟩) o.n.n o.n.cap) ∧ w'.cell? ⟨nb, noff + aj, none⟩ = some (.int .i64 z)) (by kernel_rfl) ?_ (fun hHeld => ?_)
              · exact ⟨b1, hnc⟩
              refine wpAnyH_take (i := 0) (oi := _) (v := ?va0) rfl (by kernel_rfl) (by kernel_rfl) (by kernel_rfl) (fun _ _ _ h => h) (Or.inl ⟨by rfl, ?hya0⟩) (by assumption) ?resta0
              case hya0 => (intro w hSw; (try dsimp only at hSw); go_split_ands; go_simp; try (with_reducible rfl))
              try simp only [List.getElem_toArray, List.getElem_cons_zero, List.getElem_cons_succ, Act.put, List.setIfInBounds_toArray, List.set_cons_zero, List.set_cons_succ]
              refine wpAnyH_take (i := 1) (oi := _) (v := ?va1) rfl (by kernel_rfl) (by kernel_rfl) (by kernel_rfl) (fun _ _ _ h => h) (Or.inl ⟨by rfl, ?hya1⟩) (by assumption) ?resta1
              case hya1 => (intro w hSw; (try dsimp only at hSw); go_split_ands; go_simp; try (with_reducible rfl))
              try simp only [List.getElem_toArray, List.getElem_cons_zero, List.getElem_cons_succ, Act.put, List.setIfInBounds_toArray, List.set_cons_zero, List.set_cons_succ]
              refine wpAnyH_take (i := 2) (oi := _) (v := ?va2) rfl (by kernel_rfl) (by kernel_rfl) (by kernel_rfl) (fun _ _ _ h => h) (Or.inl ⟨by rfl, ?hya2⟩) (by assumption) ?resta2
              case hya2 => (intro w hSw; (try dsimp only at hSw); go_split_ands; go_simp; try (with_reducible rfl))
              try simp only [List.getElem_toArray, List.getElem_cons_zero, List.getElem_cons_succ, Act.put, List.setIfInBounds_toArray, List.set_cons_zero, List.set_cons_succ]
              refine wpAnyH_take (i := 4) (oi := _) (v := ?va4) rfl (by kernel_rfl) (by kernel_rfl) (by kernel_rfl) (fun _ _ _ h => h) (Or.inl ⟨by rfl, ?hya4⟩) (by assumption) ?resta4
              case hya4 => (intro w hSw; (try dsimp only at hSw); go_split_ands; go_simp; try (with_reducible rfl))
              try simp only [List.getElem_toArray, List.getElem_cons_zero, List.getElem_cons_succ, Act.put, List.setIfInBounds_toArray, List.set_cons_zero, List.set_cons_succ]
              refine wpAnyH_take (i := 5) (oi := _) (v := ?va5) rfl (by kernel_rfl) (by kernel_rfl) (by kernel_rfl) (fun _ _ _ h => h) (Or.inl ⟨by rfl, ?hya5⟩) (by assumption) ?resta5
              case hya5 => (intro w hSw; (try dsimp only at hSw); go_split_ands; go_simp; try (with_reducible rfl))
              try simp only [List.getElem_toArray, List.getElem_cons_zero, List.getElem_cons_succ, Act.put, List.setIfInBounds_toArray, List.set_cons_zero, List.set_cons_succ]
              refine wpAnyH_take (i := 6) (oi := _) (v := ?va6) rfl (by kernel_rfl) (by kernel_rfl) (by kernel_rfl) (fun _ _ _ h => h) (Or.inl ⟨by rfl, ?hya6⟩) (by assumption) ?resta6
              case hya6 => (intro w hSw; (try dsimp only at hSw); go_split_ands; go_simp; try (with_reducible rfl))
              try simp only [List.getElem_toArray, List.getElem_cons_zero, List.getElem_cons_succ, Act.put, List.setIfInBounds_toArray, List.set_cons_zero, List.set_cons_succ]
              refine wpAnyH_take (i := 7) (oi := _) (v := ?va7) rfl (by kernel_rfl) (by kernel_rfl) (by kernel_rfl) (fun _ _ _ h => h) (Or.inl ⟨by rfl, ?hya7⟩) (by assumption) ?resta7
              case hya7 => (intro w hSw; (try dsimp only at hSw); go_split_ands; go_simp; try (with_reducible rfl))
              try simp only [List.getElem_toArray, List.getElem_cons_zero, List.getElem_cons_succ, Act.put, List.setIfInBounds_toArray, List.set_cons_zero, List.set_cons_succ]
              refine wpAnyH_take (i := 8) (oi := _) (v := ?va8) rfl (by kernel_rfl) (by kernel_rfl) (by kernel_rfl) (fun _ _ _ h => h) (Or.inl ⟨by rfl, ?hya8⟩) (by assumption) ?resta8
              case hya8 => (intro w hSw; (try dsimp only at hSw); go_split_ands; go_simp; try (with_reducible rfl))
              try simp only [List.getElem_toArray, List.getElem_cons_zero, List.getElem_cons_succ, Act.put, List.setIfInBounds_toArray, List.set_cons_zero, List.set_cons_succ]
              refine wpAnyH_ready (rs := [3]) (by kernel_rfl) (by simp) ?_
              refine AllReadyH.cons (o := _) rfl (fun K hK => ?_) AllReadyH.nil
              go_simp
              refine (rsize_any c _).mono ?_
              rintro e w6 ⟨rfl, rfl⟩
              go_wp2_with fail
              refine hK.out _ _ ⟨b1, hnc⟩ (fun hHeld => ?_)
              clear hK K
              try simp only [List.getElem_toArray, List.getElem_cons_zero, List.getElem_cons_succ, Act.put, List.setIfInBounds_toArray, List.set_cons_zero, List.set_cons_succ]
              refine wpAnyH_ready (rs := [9]) (by kernel_rfl) (by simp) ?_
              refine AllReadyH.cons (o := _) rfl (fun K hK => ?_) AllReadyH.nil
              go_simp
              refine (digits_any (szc c) z _ HSZ.out HWf.out).mono ?_
              rintro e w7 ⟨da, dk, dc, rfl, hb7, hdl⟩
              have hb7 : Below wr.heap.size wr w7 := ⟨hb7.os, hb7.tape, hb7.output, hb7.size, hb7.block⟩
              obtain ⟨hdk, hdL⟩ := hdl HOk.out
              have DL := hid hdL
              have HDK := hid hdk
              have B7 := hid (bthen hb.out hb7)
              have O7 := hid (own_below hown.out hb7)
              have d1 := (hb7.cell (p := ⟨g1, 1, none⟩) (World.block_lt_of_cell? wr _ b1)).trans b1
              have d2 := (hb7.cell (p := ⟨nb, noff + aj, none⟩) (World.block_lt_of_cell? wr _ hnc)).trans hnc
              rw [HOk.out]
              clear hdk hdL hdl hb7
              go_wp2_with fail
              refine hK.out _ _ ⟨d1, d2⟩ (fun hHeld => ?_)
              clear hK K
              try simp only [List.getElem_toArray, List.getElem_cons_zero, List.getElem_cons_succ, Act.put, List.setIfInBounds_toArray, List.set_cons_zero, List.set_cons_succ]
              refine wpAnyH_take (i := 10) (oi := _) (v := ?va10) rfl (by kernel_rfl) (by kernel_rfl) (by kernel_rfl) (fun _ _ _ h => h) (Or.inl ⟨by rfl, ?hya10⟩) (by assumption) ?resta10
              case hya10 => (intro w hSw; (try dsimp only at hSw); go_split_ands; go_simp; try (with_reducible rfl))
              try simp only [List.getElem_toArray, List.getElem_cons_zero, List.getElem_cons_succ, Act.put, List.setIfInBounds_toArray, List.set_cons_zero, List.set_cons_succ]
              refine wpAnyH_take (i := 11) (oi := _) (v := ?va11) rfl (by kernel_rfl) (by kernel_rfl) (by kernel_rfl) (fun _ _ _ h => h) (Or.inl ⟨by rfl, ?hya11⟩) (by assumption) ?resta11
              case hya11 => (intro w hSw; (try dsimp only at hSw); go_split_ands; go_simp; try (with_reducible rfl))
              try simp only [List.getElem_toArray, List.getElem_cons_zero, List.getElem_cons_succ, Act.put, List.setIfInBounds_toArray, List.set_cons_zero, List.set_cons_succ]
              refine wpAnyH_take (i := 12) (oi := _) (v := ?va12) rfl (by kernel_rfl) (by kernel_rfl) (by kernel_rfl) (fun _ _ _ h => h) (Or.inl ⟨by rfl, ?hya12⟩) (by assumption) ?resta12
              case hya12 => (intro w hSw; (try dsimp only at hSw); go_split_ands; go_simp; try (with_reducible rfl))
              try simp only [List.getElem_toArray, List.getElem_cons_zero, List.getElem_cons_succ, Act.put, List.setIfInBounds_toArray, List.set_cons_zero, List.set_cons_succ]
              refine wpAnyH_take (i := 13) (oi := _) (v := ?va13) rfl (by kernel_rfl) (by kernel_rfl) (by kernel_rfl) (fun _ _ _ h => h) (Or.inl ⟨by rfl, ?hya13⟩) (by assumption) ?resta13
              case hya13 => (intro w hSw; (try dsimp only at hSw); go_split_ands; go_simp; try (with_reducible rfl))
              try simp only [List.getElem_toArray, List.getElem_cons_zero, List.getElem_cons_succ, Act.put, List.setIfInBounds_toArray, List.set_cons_zero, List.set_cons_succ]
              refine wpAnyH_take (i := 14) (oi := _) (v := ?va14) rfl (by kernel_rfl) (by kernel_rfl) (by kernel_rfl) (fun _ _ _ h => h) (Or.inl ⟨by rfl, ?hya14⟩) (by assumption) ?resta14
              case hya14 => (intro w hSw; (try dsimp only at hSw); go_split_ands; go_simp; try (with_reducible rfl))
              try simp only [List.getElem_toArray, List.getElem_cons_zero, List.getElem_cons_succ, Act.put, List.setIfInBounds_toArray, List.set_cons_zero, List.set_cons_succ]
              refine wpAnyH_done (by kernel_rfl) ?_ _
              have hdl4 : dk ≤ 4 := by rw [HDK.out, digs_length _ _ HSZ.out]; rcases sizeB_cases HSZ.out with e | e | e <;> rw [e] <;> decide
              go_wp2_with (at_builtin; refine wpList_appB rfl _ _ rfl rfl rfl O7.out DL.out ?c5 ?c6 ?_)
              case c5 => exact B7.out.size
              case c6 => omega
              intro v8 w8 ho8 hb8
              have B9 := hid (B7.out.trans hb8)
              have O8 := hid ho8
              clear ho8 hb8
              go_wp2_with fail
              go_roundw
              case rel =>
                refine ⟨i + 1, by omega, by go_num, by rw [X4.out, HI.out, if_pos rfl]; go_num, ?_, B9.out⟩
                rw [Hid, X5.out, r1, r2, r3, if_neg (by simp), if_neg (by simp), if_neg (by simp), List.length_append, ← HDK.out]; exact O8.out
              case measure => simp [intOf]; omega
      · obtain rfl : i = (chs k).size := by omega
        rw [HCon.out] at hown
        obtain ⟨ba, bc, rfl, hbl, _⟩ := owns_lies hown.out
        have BL := hid hbl
        generalize hcl : (conP k o.p).length = cl' at *
        have HCl := hid hcl
        have hwl : IntKind.u8.wrap (cl' : Int) = (cl' : Int) := by rw [IntKind.wrap_u8]; omega
        have c0 := ((R2.out.below hb.out).cell 0).trans o.at0
        rw [HK.out] at c0
        clear hbl hcl
        have OW := hid (owns_lit (e := 5) (size := 1) (base := wr.heap.size) wr #[.int .u8 k, .int .u8 cl'] 2 (Nat.le_refl _) (by decide) (by simp))
        have BA := hid (balloc (Below.refl wr.heap.size wr) (.cells #[.int .u8 k, .int .u8 cl'] 5))
        have BL2 := hid (BL.out.below BA.out)
        go_wp2_with (at_builtin; refine wpList_appB (base := wr.heap.size) (n := 2) (xs := [(k : Int), (cl' : Int)]) rfl _ _ rfl rfl rfl OW.out BL2.out (by exact BA.out.size) ?c8 ?_)
        case c8 => omega
        intro v9 w9 ho9 hb9
        have O9 := hid ho9
        have B9 := hid (BA.out.trans hb9)
        clear ho9 hb9
        go_wp2_with fail
        go_ret
        refine ⟨_, rfl, ?_, by rw [hg1]; exact B2.out.trans ((bthen hb.out B9.out).mono (by have := B2.out.size; omega))⟩
        rw [HE.out, hg1]
        refine own_mono (b := wr.heap.size) ?_ (by have := hb.out.size; have := B2.out.size; omega)
        refine ownsRow_u8 O9.out ?_ rfl
        simp [HCl.out]; omega
end Go.Proofs.YtbgogeojdibmkaaDoor

namespace Go.Proofs.YtbgogeojdibmkaaDoor
open Go.ChangeShapes Go.WideShapes Go.ChangeAt Go.RowKit Go.Deep
set_option linter.unusedVariables false
set_option linter.unusedSimpArgs false

/-- Numbers of options that are those of the type. -/
def Wfo (L : List Ov) : Prop := ∀ o ∈ L, ∀ x ∈ o.n.l, (Lit.int .i64 x).wf = true
set_option maxRecDepth 100000 in
set_option maxHeartbeats 1600000 in
theorem refEncodeAll_any (a : Option Addr) (n cap : Nat) (L : List Ov) (w : World) (hL : Opts w a n cap L) (hwf : Wfo L) (hn : n ≤ 1000) :
    Calls Tryd.prog 10 #[.slice a n cap] w fun e w' => ∃ v, e = .returned (.tuple #[v, .int .i64 (encE (pos L))]) ∧ w'.ownsRow w.heap.size 5 1 v (encL (pos L)).length (u8s (encL (pos L))) ∧ Below w.heap.size w w' := by
  have HPL : Hid ((pos L).length = n) := by rw [Hid, pos_len]; exact hL.len
  by_cases h16 : 16 < n
  · have hE : encE (pos L) = 2 := by rw [encE, if_pos (by rw [HPL.out]; exact h16)]
    have hLL : encL (pos L) = [] := by rw [encL, hE]; rfl
    rw [hE, hLL]
    have h16' : (16 : Int) < (n : Int) := by omega
    clear hL hwf
    go_enter Tryd.func10, Tryd.ntmps10
    go_wp2_with fail
    go_ret2
    exact ⟨_, rfl, World.ownsRow_nil _ _ _ _, Below.refl _ _⟩
  · have h16' : ¬ (16 : Int) < (n : Int) := by omega
    have HE : Hid (encE (pos L) = if bad (pos L) ≠ 0 then bad (pos L) else if 1280 < (encs (pos L)).length then 2 else 0) := by rw [Hid, encE, if_neg (by rw [HPL.out]; exact h16)]
    have HLL : Hid (encL (pos L) = if encE (pos L) = 0 then encs (pos L) else []) := rfl
    have HL := hid hL
    have hlen := hL.len
    have HLen := hid hlen
    have HWf := hid hwf
    clear hL hlen hwf
    go_enter Tryd.func10, Tryd.ntmps10
    go_wp2_with fail
    go_loopw [4, 5] (fun v i wr => ∃ j : Nat, j ≤ n ∧ i = .int .i64 j ∧ Hid (bad ((pos L).take j) = 0) ∧ Hid ((encs ((pos L).take j)).length ≤ 257 * j) ∧ Hid (wr.ownsRow w.heap.size 5 1 v (encs ((pos L).take j)).length (u8s (encs ((pos L).take j)))) ∧ Hid (Below w.heap.size w wr)) (fun _ i _ => n - (intOf i).toNat)
    case atStart => exact ⟨0, Nat.zero_le _, rfl, rfl, Nat.zero_le _, World.ownsRow_nil _ _ _ _, Below.refl _ _⟩
    case round =>
      obtain ⟨j, hj, rfl, hbad, hln, hown, hb⟩ := hrel
      by_cases hlt : j < n
      · have hL1 := HL.out.below hb.out
        have hlt' : (j : Int) < (n : Int) := by omega
        obtain ⟨b, off, rfl, hp⟩ := hL1.cell j hlt
        have hjl : j < L.length := by rw [HLen.out]; exact hlt
        have hok := hL1.at j hlt
        have hba := bad_at (pos L) j (by rw [pos_len]; exact hjl) hbad.out
        have hes := encs_succ (pos L) j (by rw [pos_len]; exact hjl)
        rw [pos_at L j hjl] at hba hes
        have hmem : L.getD j Ov.zero ∈ L := by simp [hjl]
        have hw1 := HWf.out _ hmem
        generalize hoo : L.getD j Ov.zero = o at *
        have PP := hid hp
        have OK := hid hok
        have HBA := hid hba
        have HES := hid hes
        have HA := hid hok.ad
        have HW1 := hid hw1
        clear hL1 hp hok hba hes hoo hjl hmem hw1
        go_wp2_with (with_reducible refine wpl_id ?_; refine ldO o38 _ rfl rfl _ _ rfl o HA.out PP.out ?_)
        refine (refCheck_any o _ OK.out HW1.out).mono ?_
        rintro e w3 ⟨rfl, hb3⟩
        have P3 := hid (Part.below PP.out hb3)
        have O3 := hid (own_below hown.out hb3)
        have OK3 := hid (OK.out.below hb3)
        have B4 := hid (bthen hb.out hb3)
        clear hb3
        by_cases hc : chkP o.p = 0
        · have HC := hid hc
          rw [hc]
          clear hc
          have hel := encP_le HC.out HA.out.1
          go_wp2_with (with_reducible refine wpl_id ?_; refine ldO o38 _ rfl rfl _ _ rfl o HA.out P3.out ?_)
          refine (refEncode_any o _ OK3.out HC.out).mono ?_
          rintro e w4 ⟨v4, rfl, hown4, hb4⟩
          obtain ⟨a4, c4, rfl, hl4, _⟩ := owns_lies hown4
          have L4 := hid hl4
          have O4 := hid (own_below O3.out hb4)
          have B5 := hid (bthen B4.out hb4)
          clear hb4 hown4 hl4
          generalize hel2 : (encP o.p).length = el at *
          have HEL := hid hel2
          clear hel2
          go_wp2_with (at_builtin; refine wpList_appB rfl _ _ rfl rfl rfl O4.out L4.out ?c1 ?c2 ?_)
          case c1 => exact B5.out.size
          case c2 => have := hln.out; omega
          intro v5 w5 ho5 hb5
          have O5 := hid ho5
          have B6 := hid (B5.out.trans hb5)
          clear ho5 hb5
          go_wp2_with fail
          go_roundw
          case rel =>
            refine ⟨j + 1, by omega, by go_num, HBA.out.1 HC.out, ?_, ?_, B6.out⟩
            · rw [Hid, HES.out, List.length_append, HEL.out]; have := hln.out; omega
            · rw [Hid, HES.out, List.length_append, HEL.out]; exact O5.out
          case measure => simp [intOf]; omega
        · have HC := hid hc
          have hc' : (chkP o.p != 0) = true := by simpa using hc
          clear hc
          have HB := hid (HBA.out.2 HC.out)
          generalize chkP o.p = c at *
          go_wp2_with fail
          go_ret2
          have e1 : encE (pos L) = c := by rw [HE.out, HB.out, if_pos HC.out]
          refine ⟨_, ret_tup e1.symm, ?_, B4.out⟩
          rw [HLL.out, e1, if_neg HC.out]
          exact World.ownsRow_nil _ _ _ _
      · obtain rfl : j = n := by omega
        rw [List.take_of_length_le (by rw [HPL.out]; exact Nat.le_refl _)] at hbad hln hown
        obtain ⟨va, vc, hv⟩ := owns_len hown.out
        subst hv
        have hln2 := hln.out
        have hE2 : Hid (encE (pos L) = if 1280 < (encs (pos L)).length then 2 else 0) := by rw [Hid, HE.out, hbad.out]; rfl
        generalize hen : (encs (pos L)).length = en at *
        by_cases hlong : 1280 < en
        · have hlong' : (1280 : Int) < (en : Int) := by omega
          go_wp2_with fail
          go_ret2
          have e1 : encE (pos L) = 2 := by rw [hE2.out, if_pos hlong]
          refine ⟨_, ret_tup e1.symm, ?_, hb.out⟩
          rw [HLL.out, e1]
          exact World.ownsRow_nil _ _ _ _
        · have hlong' : ¬ (1280 : Int) < (en : Int) := by omega
          go_wp2_with fail
          go_ret2
          have e1 : encE (pos L) = 0 := by rw [hE2.out, if_neg hlong]
          refine ⟨_, ret_tup e1.symm, ?_, hb.out⟩
          rw [HLL.out, e1, if_pos rfl, hen]
          exact hown.out
end Go.Proofs.YtbgogeojdibmkaaDoor
