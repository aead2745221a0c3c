/- The document's answer: the bytes of an option that is right. · The document's body: where it stands; no program. -/
import Derived.Test.YtbgogeojdibmkaaDoorM15
import Derived.Deep.RegionHeld3
import Derived.Test.YtbgogeojdibmkaaDoorM3
import Derived.Test.YtbgogeojdibmkaaDoorM14
namespace Go.Proofs.YtbgogeojdibmkaaDoor
open Go.ChangeShapes Go.WideShapes Go.ChangeAt Go.RowKit Go.Deep
set_option linter.unusedVariables false
set_option linter.unusedSimpArgs false

theorem cl_nn : ∀ k, k < 10 → ∀ i, i < (cl k).length → isN ((cl k).getD i 0) = true → (nmb (prt k)).getD (acnt (cl k) i) (0, 0) = (szc ((cl k).getD i 0), lastc ((cl k).getD i 0)) := by decide
theorem okB_wf {s z : Int} (h : okB s z = true) : (Lit.int .i64 z).wf = true := by
  have h1 : 0 ≤ z ∧ z < top s := by simpa [okB] using h
  have h2 : top s ≤ 4294967296 := by unfold top; split; omega; split <;> omega
  simp [Lit.wf, IntKind.min, IntKind.max, IntKind.bits, IntKind.signed]; omega
theorem goodc_ok {c z : Int} (h : goodc c z = true) : okB (szc c) z = true := by
  simp only [goodc, Bool.and_eq_true] at h; exact h.1
theorem rB_len {o : Po} {k : Nat} (hk : k < 10) (hok : o.k = k) (h : chkP o = 0) (ha : o.ad.length = 16) (i : Nat) (hi : i ≤ (chs k).size) : (rBto (cl k) o.n o.ad o.t i).length ≤ 255 := by
  have h1 := rB_con o k hk hok h
  have h2 := conP_le hk hok h ha
  rw [← h1] at h2
  have h3 : (chs k).size = i + ((chs k).size - i) := by omega
  have h4 : rBto (cl k) o.n o.ad o.t (chs k).size = rBto (cl k) o.n o.ad o.t i ++ (List.range ((chs k).size - i)).flatMap (fun j => piece (cl k) o.n o.ad o.t (i + j)) := by
    rw [rBto, rBto, h3, List.range_add, List.flatMap_append]
    simp [List.flatMap_map]
  rw [h4, List.length_append] at h2
  omega
set_option maxRecDepth 1000000 in
set_option maxHeartbeats 3200000 in
theorem refEncode_any (o : Ov) (w : World) (ho : o.ok w) (hc : chkP o.p = 0) :
    Calls Tryd.prog 15 #[.agg o.cs] w fun e w' => ∃ v, e = .returned v ∧ w'.ownsRow w.heap.size 5 1 v (encP o.p).length (u8s (encP o.p)) ∧ Below w.heap.size w w' := by
  have HR0 := hid (Row.new w 38 o.cs)
  have B0 := hid (balloc (Below.refl w.heap.size w) (.cells o.cs 38))
  have O0 := hid (ho.below B0.out)
  have HA := hid ho.ad
  have HC := hid hc
  obtain ⟨k, hok, hk⟩ := knd_nat (chk0 hc).1
  have hok : o.k = k := hok
  clear ho hc
  by_cases hk0 : k = 0
  · have HE : Hid (encP o.p = [0]) := by rw [Hid, encP, if_pos (by rw [show o.p.k = o.k from rfl, hok, hk0]; rfl)]
    subst hk0
    go_enter Tryd.func15, Tryd.ntmps15
    go_upto_region 1 with fail
    generalize hw1 : w.alloc (.cells o.cs 38) = w1 at *
    have c0 := (HR0.out.cell 0).trans o.at0
    rw [hok] at c0
    have c0 : w1.cell? ⟨w.heap.size, 0, none⟩ = some (.int .i64 0) := c0
    have OW := hid (owns_lit (e := 5) (size := 1) (base := w.heap.size) w1 #[.int .u8 0] 1 B0.out.size (by decide) (by simp))
    have B1 := hid (balloc B0.out (.cells #[.int .u8 0] 5))
    clear hw1
    go_wp2_with fail
    go_ret
    refine ⟨_, rfl, ?_, B1.out⟩
    rw [HE.out]
    exact OW.out
  · have HE : Hid (encP o.p = (k : Int) :: ((conP k o.p).length : Int) :: conP k o.p) := by rw [Hid, encP, if_neg (by rw [show o.p.k = o.k from rfl, hok]; omega), show o.p.k = o.k from rfl, hok]; rfl
    have hle := conP_le hk (o := o.p) hok HC.out HA.out.1
    have HLe := hid (rB_len (o := o.p) hk hok HC.out HA.out.1)
    have HCon := hid (rB_con o.p k hk hok HC.out)
    have HK := hid hok
    obtain ⟨h1, h2, h3, h4⟩ := chk0 HC.out
    rw [show o.p.k = o.k from rfl, hok, Int.toNat_natCast] at h2 h3
    have hln : o.n.n = (nmb (prt k)).length := by rw [← O0.out.n.1]; exact frm_len h2
    have HLn := hid hln
    have HW : Hid (∀ j, j < (nmb (prt k)).length → inB ((nmb (prt k)).getD j (0, 0)) (o.n.l.getD j 0) = true) := by
      intro j hj
      have := h3
      rw [widB, List.all_eq_true] at this
      exact this j (by simpa using hj)
    have HP1 : Hid (k = 1 → ∃ m : Nat, o.n.l = [(m : Int)] ∧ m ≤ 255) := by
      intro e; subst e
      exact pads_num (frm_len h2) h3
    have hk0' : ((k : Int) == 0) = false := by simp; omega
    have hwk : IntKind.u8.wrap (k : Int) = (k : Int) := by rw [IntKind.wrap_u8]; omega
    have HLt : Hid (lets k = chs k) := by
      have := h1
      rw [show o.p.k = o.k from rfl, hok] at this
      rw [Hid, lets, this, if_pos rfl]; rfl
    have hcs := chs_small k hk
    have HCL := hid (cl_len k)
    have HCh := hid (fun i h => char_at k i h)
    have HAS := hid (fun i h => acnt_succ (cl k) i h)
    have HCX := hid (cl_x k hk)
    have HCN := hid (cl_n k hk)
    have HCNN := hid (cl_nn k hk)
    have HBS := hid (fun i => rBto_succ (cl k) o.n.l o.ad o.t.l i)
    have HLe : Hid (∀ i, i ≤ (chs k).size → (rBto (cl k) o.n.l o.ad o.t.l i).length ≤ 255) := HLe
    have HCon : Hid (rBto (cl k) o.n.l o.ad o.t.l (chs k).size = conP k o.p) := HCon
    clear hok h1 h2 h3 h4 hk0 hln
    go_enter Tryd.func15, Tryd.ntmps15
    go_upto_region 1 with fail
    generalize hw1 : w.alloc (.cells o.cs 38) = w1 at *
    have c0 := (HR0.out.cell 0).trans o.at0
    rw [HK.out] at c0
    clear hw1
    go_wp2_with fail
    refine (parts_any _ _).mono ?_
    rintro e w2 ⟨rfl, hb2⟩
    have B2 := hid (bthen B0.out hb2)
    have R2 := hid (HR0.out.below hb2)
    have O2 := hid (O0.out.below hb2)
    rw [HLt.out]
    generalize hg1 : w.heap.size = g1 at *
    clear hb2 c0 B0 HR0 O0
    go_wp2_with fail
    go_loopw [4, 5, 6] (fun v av iv wr => ∃ i : Nat, i ≤ (chs k).size ∧ iv = .int .i64 i ∧ av = .int .i64 (acnt (cl k) i) ∧ Hid (wr.ownsRow w2.heap.size 5 1 v (rBto (cl k) o.n.l o.ad o.t.l i).length (u8s (rBto (cl k) o.n.l o.ad o.t.l i))) ∧ Hid (Below w2.heap.size w2 wr)) (fun _ _ i _ => (chs k).size - (intOf i).toNat)
    case atStart => exact ⟨0, Nat.zero_le _, rfl, rfl, World.ownsRow_nil _ _ _ _, Below.refl _ _⟩
    case round =>
      obtain ⟨i, hi, rfl, rfl, hown, hb⟩ := hrel
      have hlei := HLe.out i hi
      by_cases hlt : i < (chs k).size
      · have hlt3 : (i : Int) < ((chs k).size : Int) := by omega
        have hil : i < (cl k).length := by rw [HCL.out]; exact hlt
        have hc := HCh.out i hlt
        have hcx := HCX.out i hil
        have hcn := HCN.out i hil
        have hcnn := HCNN.out i hil
        have has := HAS.out i hil
        have hbs := HBS.out i
        rw [piece] at hbs
        generalize (cl k).getD i 0 = c at *
        have X1 := hid hcx
        have X2 := hid hcn
        have X3 := hid hcnn
        have X4 := hid has
        have X5 := hid hbs
        have a1 := ((R2.out.below hb.out).cell 1).trans o.at1
        have a18 := ((R2.out.below hb.out).cell 18).trans (Ov.at18 HA.out)
        clear hcx hcn hcnn has hbs hil
        by_cases q1 : c = 97
        · have r1 : (c == 97) = true := by simp [q1]
          have HI : Hid (isN c = false) := by rw [Hid, q1]; rfl
          have LA := hid (part_lies HA.out ((R2.out.below hb.out).part.ovA HA.out))
          clear q1
          go_wp2_with (at_builtin; refine wpList_appB rfl _ _ rfl rfl rfl hown.out LA.out ?c1 ?c2 ?_)
          case c1 => exact hb.out.size
          case c2 => omega
          intro v4 w4 ho4 hb4
          have B5 := hid (hb.out.trans hb4)
          have O4 := hid ho4
          clear ho4 hb4
          go_wp2_with fail
          go_roundw
          case rel =>
            refine ⟨i + 1, by omega, by go_num, by rw [X4.out, HI.out]; simp, ?_, B5.out⟩
            rw [Hid, X5.out, r1, if_pos rfl, List.length_append, HA.out.1]; exact O4.out
          case measure => simp [intOf]; omega
        · have r1 : (c == 97) = false := by simp [q1]
          clear q1
          by_cases q2 : c = 116
          · have r2 : (c == 116) = true := by simp [q2]
            have HI : Hid (isN c = false) := by rw [Hid, q2]; rfl
            have LT := hid (O2.out.t.below hb.out)
            have HT := hid O2.out.t.1
            have ht64 : o.t.n ≤ 64 := by
              have := (chk0 HC.out).2.2.2
              rw [← HT.out]; exact this
            clear q2
            go_wp2_with (at_builtin; refine wpList_appB rfl _ _ rfl rfl rfl hown.out LT.out ?c3 ?c4 ?_)
            case c3 => exact hb.out.size
            case c4 => omega
            intro v4 w4 ho4 hb4
            have B5 := hid (hb.out.trans hb4)
            have O4 := hid ho4
            clear ho4 hb4
            go_wp2_with fail
            go_roundw
            case rel =>
              refine ⟨i + 1, by omega, by go_num, by rw [X4.out, HI.out]; simp, ?_, B5.out⟩
              rw [Hid, X5.out, r1, r2, if_neg (by simp), if_pos rfl, List.length_append, HT.out]; exact O4.out
            case measure => simp [intOf]; omega
          · have r2 : (c == 116) = false := by simp [q2]
            clear q2
            by_cases q3 : c = 120
            · have r3 : (c == 120) = true := by simp [q3]
              have HI : Hid (isN c = false) := by rw [Hid, q3]; rfl
              obtain ⟨hi0, hk1⟩ := X1.out q3
              obtain ⟨mm, hmm, hm255⟩ := HP1.out hk1
              have hnn : o.n.n = 1 := by rw [← O2.out.n.1, hmm]; rfl
              obtain ⟨nb, noff, hna, hnc⟩ := (O2.out.n.below hb.out).2.2.2.2 0 (by omega)
              rw [hmm] at hnc
              simp only [List.getD_cons_zero, Nat.add_zero] at hnc
              rw [hna, hnn] at a1
              obtain ⟨i0, hinf, hz0, hz1, hz2⟩ := info_parts info5
              have HInf := hid hinf
              have HI0 := hid hi0
              have HMM := hid hmm
              clear q3 hi0 hk1 hmm hinf hnn hna
              go_wp2_with (at_make; refine wpList_make_full _ rfl _ _ 26 rfl w2.heap.size 5 i0 (.int .u8 0) 1 Tryd.underlying26 HInf.out hz0 hz1 .i64 .i64 _ _ mm rfl rfl rfl rfl ?b1 ?b2 ?b3 ?_)
              case b1 => rw [hz2]; omega
              case b2 => unfold maxLen; omega
              case b3 => exact hb.out.size
              intro w4 hown4 hg4
              have B5 := hid (Below.grown hb.out hg4 hb.out.size (fun k hk => by cases hk))
              rw [made_u8] at hown4
              have O4 := hid hown4
              clear hown4 hg4
              go_wp2_with fail
              go_roundw
              case rel =>
                refine ⟨i + 1, by omega, by go_num, by rw [X4.out, HI.out]; simp, ?_, B5.out⟩
                rw [Hid, X5.out, r1, r2, r3, if_neg (by simp), if_neg (by simp), if_pos rfl, HI0.out, HMM.out]
                have e0 : rBto (cl k) [(mm : Int)] o.ad o.t.l 0 = [] := rfl
                rw [e0]
                simpa using O4.out
              case measure => simp [intOf]; omega
            · have r3 : (c == 120) = false := by simp [q3]
              have HI : Hid (isN c = true) := by rw [Hid, isN, r1, r2, r3]; rfl
              clear q3
              obtain ⟨haj, hsz⟩ := X2.out HI.out
              have hgd := X3.out HI.out
              have hin := HW.out _ haj
              rw [hgd] at hin
              have hgood : goodc c (o.n.l.getD (acnt (cl k) i) 0) = true := (goodc_in c _ hsz).trans hin
              have HOk := hid (goodc_ok hgood)
              have HWf := hid (okB_wf HOk.out)
              have HSZ := hid hsz
              have hajn : acnt (cl k) i < o.n.n := by rw [HLn.out]; exact haj
              have hajn' : ((acnt (cl k) i : Nat) : Int) < (o.n.n : Int) := by omega
              obtain ⟨nb, noff, hna, hnc⟩ := (O2.out.n.below hb.out).2.2.2.2 _ hajn
              have b1 := a1
              rw [hna] at b1
              have hn10 : o.n.n ≤ 10 := by rw [HLn.out]; exact Nat.le_trans (nmb_le _) (prt_small k hk).1
              generalize o.n.l.getD (acnt (cl k) i) 0 = z at *
              generalize hajq : acnt (cl k) i = aj at *
              clear hgd hin hgood hsz haj a1 hna hajq
              go_wp2_with fail
              refine wp_region_held_drew (S := fun w' => w'.cell? ⟨g1, 1, none⟩ = some (.slice (some ⟨nb, noff, none⟩) o.n.n o.n.cap) ∧ w'.cell? ⟨nb, noff + aj, none⟩ = some (.int .i64 z)) (by kernel_rfl) ?_ (fun hHeld => ?_)
              · exact ⟨b1, hnc⟩
              refine wpAnyH_take (i := 0) (oi := _) (v := ?va0) rfl (by kernel_rfl) (by kernel_rfl) (by kernel_rfl) (fun _ _ _ h => h) (Or.inl ⟨by rfl, ?hya0⟩) (by assumption) ?resta0
              case hya0 => (intro w hSw; (try dsimp only at hSw); go_split_ands; go_simp; try (with_reducible rfl))
              try simp only [List.getElem_toArray, List.getElem_cons_zero, List.getElem_cons_succ, Act.put, List.setIfInBounds_toArray, List.set_cons_zero, List.set_cons_succ]
              refine wpAnyH_take (i := 1) (oi := _) (v := ?va1) rfl (by kernel_rfl) (by kernel_rfl) (by kernel_rfl) (fun _ _ _ h => h) (Or.inl ⟨by rfl, ?hya1⟩) (by assumption) ?resta1
              case hya1 => (intro w hSw; (try dsimp only at hSw); go_split_ands; go_simp; try (with_reducible rfl))
              try simp only [List.getElem_toArray, List.getElem_cons_zero, List.getElem_cons_succ, Act.put, List.setIfInBounds_toArray, List.set_cons_zero, List.set_cons_succ]
              refine wpAnyH_take (i := 2) (oi := _) (v := ?va2) rfl (by kernel_rfl) (by kernel_rfl) (by kernel_rfl) (fun _ _ _ h => h) (Or.inl ⟨by rfl, ?hya2⟩) (by assumption) ?resta2
              case hya2 => (intro w hSw; (try dsimp only at hSw); go_split_ands; go_simp; try (with_reducible rfl))
              try simp only [List.getElem_toArray, List.getElem_cons_zero, List.getElem_cons_succ, Act.put, List.setIfInBounds_toArray, List.set_cons_zero, List.set_cons_succ]
              refine wpAnyH_take (i := 4) (oi := _) (v := ?va4) rfl (by kernel_rfl) (by kernel_rfl) (by kernel_rfl) (fun _ _ _ h => h) (Or.inl ⟨by rfl, ?hya4⟩) (by assumption) ?resta4
              case hya4 => (intro w hSw; (try dsimp only at hSw); go_split_ands; go_simp; try (with_reducible rfl))
              try simp only [List.getElem_toArray, List.getElem_cons_zero, List.getElem_cons_succ, Act.put, List.setIfInBounds_toArray, List.set_cons_zero, List.set_cons_succ]
              refine wpAnyH_take (i := 5) (oi := _) (v := ?va5) rfl (by kernel_rfl) (by kernel_rfl) (by kernel_rfl) (fun _ _ _ h => h) (Or.inl ⟨by rfl, ?hya5⟩) (by assumption) ?resta5
              case hya5 => (intro w hSw; (try dsimp only at hSw); go_split_ands; go_simp; try (with_reducible rfl))
              try simp only [List.getElem_toArray, List.getElem_cons_zero, List.getElem_cons_succ, Act.put, List.setIfInBounds_toArray, List.set_cons_zero, List.set_cons_succ]
              refine wpAnyH_take (i := 6) (oi := _) (v := ?va6) rfl (by kernel_rfl) (by kernel_rfl) (by kernel_rfl) (fun _ _ _ h => h) (Or.inl ⟨by rfl, ?hya6⟩) (by assumption) ?resta6
              case hya6 => (intro w hSw; (try dsimp only at hSw); go_split_ands; go_simp; try (with_reducible rfl))
              try simp only [List.getElem_toArray, List.getElem_cons_zero, List.getElem_cons_succ, Act.put, List.setIfInBounds_toArray, List.set_cons_zero, List.set_cons_succ]
              refine wpAnyH_take (i := 7) (oi := _) (v := ?va7) rfl (by kernel_rfl) (by kernel_rfl) (by kernel_rfl) (fun _ _ _ h => h) (Or.inl ⟨by rfl, ?hya7⟩) (by assumption) ?resta7
              case hya7 => (intro w hSw; (try dsimp only at hSw); go_split_ands; go_simp; try (with_reducible rfl))
              try simp only [List.getElem_toArray, List.getElem_cons_zero, List.getElem_cons_succ, Act.put, List.setIfInBounds_toArray, List.set_cons_zero, List.set_cons_succ]
              refine wpAnyH_take (i := 8) (oi := _) (v := ?va8) rfl (by kernel_rfl) (by kernel_rfl) (by kernel_rfl) (fun _ _ _ h => h) (Or.inl ⟨by rfl, ?hya8⟩) (by assumption) ?resta8
              case hya8 => (intro w hSw; (try dsimp only at hSw); go_split_ands; go_simp; try (with_reducible rfl))
              try simp only [List.getElem_toArray, List.getElem_cons_zero, List.getElem_cons_succ, Act.put, List.setIfInBounds_toArray, List.set_cons_zero, List.set_cons_succ]
              refine wpAnyH_ready (rs := [3]) (by kernel_rfl) (by simp) ?_
              refine AllReadyH.cons (o := _) rfl (fun K hK => ?_) AllReadyH.nil
              go_simp
              refine (rsize_any c _).mono ?_
              rintro e w6 ⟨rfl, rfl⟩
              go_wp2_with fail
              refine hK.out _ _ ⟨b1, hnc⟩ (fun hHeld => ?_)
              clear hK K
              try simp only [List.getElem_toArray, List.getElem_cons_zero, List.getElem_cons_succ, Act.put, List.setIfInBounds_toArray, List.set_cons_zero, List.set_cons_succ]
              refine wpAnyH_ready (rs := [9]) (by kernel_rfl) (by simp) ?_
              refine AllReadyH.cons (o := _) rfl (fun K hK => ?_) AllReadyH.nil
              go_simp
              refine (digits_any (szc c) z _ HSZ.out HWf.out).mono ?_
              rintro e w7 ⟨da, dk, dc, rfl, hb7, hdl⟩
              have hb7 : Below wr.heap.size wr w7 := ⟨hb7.os, hb7.tape, hb7.output, hb7.size, hb7.block⟩
              obtain ⟨hdk, hdL⟩ := hdl HOk.out
              have DL := hid hdL
              have HDK := hid hdk
              have B7 := hid (bthen hb.out hb7)
              have O7 := hid (own_below hown.out hb7)
              have d1 := (hb7.cell (p := ⟨g1, 1, none⟩) (World.block_lt_of_cell? wr _ b1)).trans b1
              have d2 := (hb7.cell (p := ⟨nb, noff + aj, none⟩) (World.block_lt_of_cell? wr _ hnc)).trans hnc
              rw [HOk.out]
              clear hdk hdL hdl hb7
              go_wp2_with fail
              refine hK.out _ _ ⟨d1, d2⟩ (fun hHeld => ?_)
              clear hK K
              try simp only [List.getElem_toArray, List.getElem_cons_zero, List.getElem_cons_succ, Act.put, List.setIfInBounds_toArray, List.set_cons_zero, List.set_cons_succ]
              refine wpAnyH_take (i := 10) (oi := _) (v := ?va10) rfl (by kernel_rfl) (by kernel_rfl) (by kernel_rfl) (fun _ _ _ h => h) (Or.inl ⟨by rfl, ?hya10⟩) (by assumption) ?resta10
              case hya10 => (intro w hSw; (try dsimp only at hSw); go_split_ands; go_simp; try (with_reducible rfl))
              try simp only [List.getElem_toArray, List.getElem_cons_zero, List.getElem_cons_succ, Act.put, List.setIfInBounds_toArray, List.set_cons_zero, List.set_cons_succ]
              refine wpAnyH_take (i := 11) (oi := _) (v := ?va11) rfl (by kernel_rfl) (by kernel_rfl) (by kernel_rfl) (fun _ _ _ h => h) (Or.inl ⟨by rfl, ?hya11⟩) (by assumption) ?resta11
              case hya11 => (intro w hSw; (try dsimp only at hSw); go_split_ands; go_simp; try (with_reducible rfl))
              try simp only [List.getElem_toArray, List.getElem_cons_zero, List.getElem_cons_succ, Act.put, List.setIfInBounds_toArray, List.set_cons_zero, List.set_cons_succ]
              refine wpAnyH_take (i := 12) (oi := _) (v := ?va12) rfl (by kernel_rfl) (by kernel_rfl) (by kernel_rfl) (fun _ _ _ h => h) (Or.inl ⟨by rfl, ?hya12⟩) (by assumption) ?resta12
              case hya12 => (intro w hSw; (try dsimp only at hSw); go_split_ands; go_simp; try (with_reducible rfl))
              try simp only [List.getElem_toArray, List.getElem_cons_zero, List.getElem_cons_succ, Act.put, List.setIfInBounds_toArray, List.set_cons_zero, List.set_cons_succ]
              refine wpAnyH_take (i := 13) (oi := _) (v := ?va13) rfl (by kernel_rfl) (by kernel_rfl) (by kernel_rfl) (fun _ _ _ h => h) (Or.inl ⟨by rfl, ?hya13⟩) (by assumption) ?resta13
              case hya13 => (intro w hSw; (try dsimp only at hSw); go_split_ands; go_simp; try (with_reducible rfl))
              try simp only [List.getElem_toArray, List.getElem_cons_zero, List.getElem_cons_succ, Act.put, List.setIfInBounds_toArray, List.set_cons_zero, List.set_cons_succ]
              refine wpAnyH_take (i := 14) (oi := _) (v := ?va14) rfl (by kernel_rfl) (by kernel_rfl) (by kernel_rfl) (fun _ _ _ h => h) (Or.inl ⟨by rfl, ?hya14⟩) (by assumption) ?resta14
              case hya14 => (intro w hSw; (try dsimp only at hSw); go_split_ands; go_simp; try (with_reducible rfl))
              try simp only [List.getElem_toArray, List.getElem_cons_zero, List.getElem_cons_succ, Act.put, List.setIfInBounds_toArray, List.set_cons_zero, List.set_cons_succ]
              refine wpAnyH_done (by kernel_rfl) ?_ _
              have hdl4 : dk ≤ 4 := by rw [HDK.out, digs_length _ _ HSZ.out]; rcases sizeB_cases HSZ.out with e | e | e <;> rw [e] <;> decide
              go_wp2_with (at_builtin; refine wpList_appB rfl _ _ rfl rfl rfl O7.out DL.out ?c5 ?c6 ?_)
              case c5 => exact B7.out.size
              case c6 => omega
              intro v8 w8 ho8 hb8
              have B9 := hid (B7.out.trans hb8)
              have O8 := hid ho8
              clear ho8 hb8
              go_wp2_with fail
              go_roundw
              case rel =>
                refine ⟨i + 1, by omega, by go_num, by rw [X4.out, HI.out, if_pos rfl]; go_num, ?_, B9.out⟩
                rw [Hid, X5.out, r1, r2, r3, if_neg (by simp), if_neg (by simp), if_neg (by simp), List.length_append, ← HDK.out]; exact O8.out
              case measure => simp [intOf]; omega
      · obtain rfl : i = (chs k).size := by omega
        rw [HCon.out] at hown
        obtain ⟨ba, bc, rfl, hbl, _⟩ := owns_lies hown.out
        have BL := hid hbl
        generalize hcl : (conP k o.p).length = cl' at *
        have HCl := hid hcl
        have hwl : IntKind.u8.wrap (cl' : Int) = (cl' : Int) := by rw [IntKind.wrap_u8]; omega
        have c0 := ((R2.out.below hb.out).cell 0).trans o.at0
        rw [HK.out] at c0
        clear hbl hcl
        have OW := hid (owns_lit (e := 5) (size := 1) (base := wr.heap.size) wr #[.int .u8 k, .int .u8 cl'] 2 (Nat.le_refl _) (by decide) (by simp))
        have BA := hid (balloc (Below.refl wr.heap.size wr) (.cells #[.int .u8 k, .int .u8 cl'] 5))
        have BL2 := hid (BL.out.below BA.out)
        go_wp2_with (at_builtin; refine wpList_appB (base := wr.heap.size) (n := 2) (xs := [(k : Int), (cl' : Int)]) rfl _ _ rfl rfl rfl OW.out BL2.out (by exact BA.out.size) ?c8 ?_)
        case c8 => omega
        intro v9 w9 ho9 hb9
        have O9 := hid ho9
        have B9 := hid (BA.out.trans hb9)
        clear ho9 hb9
        go_wp2_with fail
        go_ret
        refine ⟨_, rfl, ?_, by rw [hg1]; exact B2.out.trans ((bthen hb.out B9.out).mono (by have := B2.out.size; omega))⟩
        rw [HE.out, hg1]
        refine own_mono (b := wr.heap.size) ?_ (by have := hb.out.size; have := B2.out.size; omega)
        refine ownsRow_u8 O9.out ?_ rfl
        simp [HCl.out]; omega
end Go.Proofs.YtbgogeojdibmkaaDoor

namespace Go.Proofs.YtbgogeojdibmkaaDoor
open Go.ChangeShapes Go.WideShapes Go.ChangeAt Go.RowKit Go.Deep
set_option linter.unusedVariables false
set_option linter.unusedSimpArgs false

/-- The document's cursor, its option and its answer's place in memory. -/
structure BdAt (w wr : World) (r d g : Nat) (a : Option Addr) (len cap : Nat) (l : List Int) (at_ : Nat) (er : Int) (o : Ov) : Prop where
  ref : RefAt wr d a len cap l at_ er
  row : Row wr g 38 o.cs
  res : Row wr r 38 Ov.zero.cs
  n : wr.ownsRow w.heap.size 3 1 o.n.v o.n.l.length (i64s o.n.l)
  nn : o.n.n = o.n.l.length
  ad : Adr o.ad
  t : Lies .u8 w o.t.a o.t.n o.t.cap o.t.l
  oct : Oct o.t.l
  below : Below w.heap.size w wr
  hd : w.heap.size ≤ d
  hg : w.heap.size ≤ g
  hr : w.heap.size ≤ r
  hgr : r ≠ g
  la : ∀ x, a = some x → 0 < len → x.block < w.heap.size
theorem RefAt.row {w : World} {d : Nat} {a : Option Addr} {len cap : Nat} {l : List Int} {at_ : Nat} {er : Int} (h : RefAt w d a len cap l at_ er) : Row w d 101 #[.slice a len cap, .int .i64 at_, .int .i64 er] := h.block
section
variable {w wr w' : World} {r d g : Nat} {a : Option Addr} {len cap : Nat} {l : List Int} {at_ : Nat} {er : Int} {o : Ov}
theorem BdAt.size (h : BdAt w wr r d g a len cap l at_ er o) : w.heap.size ≤ wr.heap.size := h.below.size
theorem BdAt.ok (h : BdAt w wr r d g a len cap l at_ er o) : o.ok wr := by
  refine ⟨?_, h.ad, h.t.below h.below, h.oct⟩
  obtain ⟨a, cap, e, hl⟩ := owns_liesk h.n
  have e1 : Value.slice o.n.a o.n.n o.n.cap = .slice a o.n.l.length cap := e
  injection e1 with e2 e3 e4
  rw [e2, e3, e4]; exact hl
/-- Bytes were read. -/
theorem BdAt.read (h : BdAt w wr r d g a len cap l at_ er o) {m : Nat} {er2 : Int} (hk : RefOk wr d a len at_ l m er2 w') : ∃ a2 cap2, BdAt w w' r d g a2 (len - m) cap2 (l.drop m) (at_ + m) er2 o := by
  obtain ⟨a2, cap2, h1, hg, hs, hx⟩ := hk
  refine ⟨a2, cap2, h1, h.row.kept hg (fun e => h.row.ne h.ref.row (by decide) (Option.some.inj e)), h.res.kept hg (fun e => h.res.ne h.ref.row (by decide) (Option.some.inj e)), h.n.kept hg (.inr (own_row h.n h.ref.row (by decide))), h.nn, h.ad, h.t, h.oct,
    bgrown h.below hg h.hd, h.hd, h.hg, h.hr, h.hgr, fun x e hl => ?_⟩
  obtain ⟨y, e1, e2⟩ := hx x e
  rw [e2]; exact h.la y e1 (by omega)
theorem BdAt.on (h : BdAt w wr r d g a len cap l at_ er o) (hb : Below wr.heap.size wr w') : BdAt w w' r d g a len cap l at_ er o :=
  ⟨h.ref.below hb, h.row.below hb, h.res.below hb, own_below h.n hb, h.nn, h.ad, h.t, h.oct, bthen h.below hb, h.hd, h.hg, h.hr, h.hgr, h.la⟩
theorem BdAt.drewN (h : BdAt w wr r d g a len cap l at_ er o) (q : Nat) : BdAt w (wr.drewN q) r d g a len cap l at_ er o := h.on (bdrew (Below.refl _ _) q)
/-- The cursor is as it was where another block is written. -/
theorem RefAt.other {c : Nat} (h : RefAt wr d a len cap l at_ er) (hdc : d ≠ c) (ha : ∀ x, a = some x → 0 < len → x.block ≠ c) (hg : wr.grownBy w' (some c)) : RefAt w' d a len cap l at_ er :=
  ⟨(hg.block d h.lt (fun e => hdc (Option.some.inj e))).trans h.block, ⟨h.lies.1, h.lies.2.1, h.lies.2.2.1, h.lies.2.2.2.1, fun k hk => by
    obtain ⟨b, off, he, hc⟩ := h.lies.2.2.2.2 k hk
    exact ⟨b, off, he, hg.cell hc (fun e => ha ⟨b, off, none⟩ he (by omega) (Option.some.inj e))⟩⟩, h.oct, h.small, h.at_small⟩
/-- The option is written anew. -/
theorem BdAt.wrote (h : BdAt w wr r d g a len cap l at_ er o) {o2 : Ov} (hrow : Row w' g 38 o2.cs) (hg : wr.grownBy w' (some g)) (hn : w'.ownsRow w.heap.size 3 1 o2.n.v o2.n.l.length (i64s o2.n.l)) (hnn : o2.n.n = o2.n.l.length) (had : Adr o2.ad)
    (ht : Lies .u8 w o2.t.a o2.t.n o2.t.cap o2.t.l) (hoct : Oct o2.t.l) : BdAt w w' r d g a len cap l at_ er o2 :=
  ⟨h.ref.other (fun e => h.ref.row.ne h.row (by decide) e) (fun x e hl e2 => by have := h.la x e hl; have := h.hg; omega) hg, hrow, h.res.kept hg (fun e => h.hgr (Option.some.inj e)), hn, hnn, had, ht, hoct, bgrown h.below hg h.hg, h.hd, h.hg, h.hr, h.hgr, h.la⟩
/-- A byte of the address. -/
theorem Ov.setAt {o : Ov} (h : Adr o.ad) (j : Nat) (hj : j < 16) (x : Int) : o.cs.setIfInBounds (2 + j) (.int .u8 x) = (o.setA (o.ad.set j x)).cs := by
  apply Array.ext'
  have l1 : (u8s o.ad).length = 16 := by rw [u8s_len, h.1]
  simp only [Array.toList_setIfInBounds, Ov.cs, Ov.setA, arr, Array.toList_append]
  rw [List.set_append_right _ _ (by simp)]
  simp only [List.length_cons, List.length_nil]
  rw [show 2 + j - (0 + 1 + 1) = j by omega, List.set_append_left _ _ (by rw [l1]; exact hj)]
  simp [u8s, List.map_set]
theorem BdAt.byte (h : BdAt w wr r d g a len cap l at_ er o) (j : Nat) (hj : j < 16) (x : Int) (hx : 0 ≤ x ∧ x < 256) : BdAt w (wr.setCell ⟨g, 2 + j, none⟩ (.int .u8 x)) r d g a len cap l at_ er (o.setA (o.ad.set j x)) := by
  have hg := grownBy_setCell wr g (2 + j) (.int .u8 x)
  refine h.wrote ?_ hg (h.n.kept hg (.inr (own_row h.n h.row (by decide)))) h.nn ⟨by simp [Ov.setA, h.ad.1], ?_⟩ h.t h.oct
  · rw [← Ov.setAt h.ad j hj]; exact h.row.set _ _
  · intro y hy
    rcases List.mem_or_eq_of_mem_set hy with e | e
    · exact h.ad.2 y e
    · rw [e]; exact hx
/-- A number is appended (world w'), and the list laid in. -/
theorem BdAt.push (h : BdAt w wr r d g a len cap l at_ er o) (hg : wr.grownBy w' o.n.v.ownBlock) (na : Option Addr) (nc : Nat) (L : List Int) (m : Nat) (hm : L.length = m) (hn : w'.ownsRow w.heap.size 3 1 (.slice na m nc) m (i64s L)) :
    BdAt w (w'.setCell ⟨g, 1, none⟩ (.slice na m nc)) r d g a len cap l at_ er (o.setN ⟨na, m, nc, L⟩) ∧ Row w' g 38 o.cs := by
  subst hm
  have hrow := h.row.kept hg (fun e => own_row h.n h.row (by decide) e.symm)
  have hs := grownBy_setCell w' g 1 (.slice na L.length nc)
  have hb : Below w.heap.size w w' := Below.grown h.below hg h.size (fun k hk => (h.n.lt k hk).1)
  have href : RefAt w' d a len cap l at_ er := by
    cases hv : o.n.v.ownBlock with
    | none => rw [hv] at hg; exact ⟨(hg.block d h.ref.lt (by simp)).trans h.ref.block, ⟨h.ref.lies.1, h.ref.lies.2.1, h.ref.lies.2.2.1, h.ref.lies.2.2.2.1, fun k hk => by
        obtain ⟨b, off, he, hc⟩ := h.ref.lies.2.2.2.2 k hk
        exact ⟨b, off, he, hg.cell hc (by simp)⟩⟩, h.ref.oct, h.ref.small, h.ref.at_small⟩
    | some c => rw [hv] at hg; exact h.ref.other (fun e => own_row h.n h.ref.row (by decide) (by rw [hv, e])) (fun x e hl e2 => by have := h.la x e hl; have := (h.n.lt c hv).1; omega) hg
  have hbd : BdAt w w' r d g a len cap l at_ er (o.setN ⟨na, L.length, nc, L⟩) → True := fun _ => trivial
  refine ⟨⟨href.other (fun e => href.row.ne hrow (by decide) e) (fun x e hl e2 => by have := h.la x e hl; have := h.hg; omega) hs, ?_, (h.res.kept hg (fun e => own_row h.n h.res (by decide) e.symm)).other _ _ h.hgr, hn.kept hs (.inr (own_row hn hrow (by decide))), rfl, h.ad, h.t, h.oct, bgrown hb hs h.hg, h.hd, h.hg, h.hr, h.hgr, h.la⟩, hrow⟩
  rw [← Ov.set1]
  exact hrow.set 1 _
end

/-- The document's reading of one letter more: how many bytes were read, what is wrong, the numbers, the address. -/
def rstq (l : List Int) (s : Nat × Int × List Int × List Int) (q : Int) : Nat × Int × List Int × List Int :=
  if (q == 16) = true then (s.1 + rdN 1 16 (l.length - s.1) s.2.1, rdE 1 16 (l.length - s.1) s.2.1, s.2.2.1, (l.drop s.1).take (rdN 1 16 (l.length - s.1) s.2.1) ++ s.2.2.2.drop (rdN 1 16 (l.length - s.1) s.2.1))
  else (s.1 + rdN q 1 (l.length - s.1) s.2.1, rdE q 1 (l.length - s.1) s.2.1, s.2.2.1 ++ [numOf ((l.drop s.1).take (rdN q 1 (l.length - s.1) s.2.1))], s.2.2.2)
def szl (c : Int) : Int := if c = 97 then 16 else szc c
def rsts (l : List Int) (C : List Int) : Nat × Int × List Int × List Int := C.foldl (fun s c => rstq l s (szl c)) (0, 0, [], zeros)
theorem rsts_succ (l C : List Int) (i : Nat) (h : i < C.length) : rsts l (C.take (i + 1)) = rstq l (rsts l (C.take i)) (szl (C.getD i 0)) := by
  rw [List.take_succ_eq_append_getElem h, rsts, List.foldl_append]; simp [rsts, h]
theorem rsts_le (l C : List Int) : (rsts l C).1 ≤ l.length := by
  have : ∀ (C : List Int) (s : Nat × Int × List Int × List Int), s.1 ≤ l.length → (C.foldl (fun s c => rstq l s (szl c)) s).1 ≤ l.length := by
    intro C
    induction C with
    | nil => intro s h; exact h
    | cons c C ih =>
      intro s h
      refine ih _ ?_
      show (rstq l s (szl c)).1 ≤ l.length
      unfold rstq
      split
      · have := rdN_le 1 16 (l.length - s.1) s.2.1; simp only; omega
      · have := rdN_le (szl c) 1 (l.length - s.1) s.2.1; simp only; omega
  exact this C _ (Nat.zero_le _)
theorem rd16 (left : Nat) (h : 16 ≤ left) : rdE 1 16 left 0 = 0 ∧ rdN 1 16 left 0 = 16 := by
  have hz : sizeB 1 = true := by decide
  have h1 : rdE 1 16 left 0 = 0 := by rw [rdE, if_pos rfl, if_neg (by rw [hz]; simp), if_neg (by omega)]
  exact ⟨h1, by rw [rdN, if_pos h1]; rfl⟩
theorem rdq (q : Int) (left : Nat) (hz : sizeB q = true) (h : q ≤ left) : rdE q 1 left 0 = 0 ∧ rdN q 1 left 0 = q.toNat := by
  have h1 : rdE q 1 left 0 = 0 := by rw [rdE, if_pos rfl, if_neg (by rw [hz]; simp), if_neg (by omega)]
  exact ⟨h1, by rw [rdN, if_pos h1]; simp⟩
/-- Enough bytes: it reads as the program does. -/
theorem rst_ok (l : List Int) (P : List (Int × Int)) : (∀ p ∈ P, (p.1 == 16) = true ∨ sizeB p.1 = true) → ∀ (s : Nat) (N A : List Int), A.length = 16 → (s : Int) + sumP P ≤ l.length →
    (P.map (·.1)).foldl (rstq l) (s, 0, N, A) = ((P.foldl (stp l) (s, N, A)).1, 0, (P.foldl (stp l) (s, N, A)).2.1, (P.foldl (stp l) (s, N, A)).2.2) ∧ ((P.foldl (stp l) (s, N, A)).1 : Int) = s + sumP P := by
  induction P with
  | nil => intro _ s N A _ _; exact ⟨rfl, by simp [sumP]⟩
  | cons q P ih =>
    intro hP s N A hA hs
    have hP' : ∀ p ∈ P, (p.1 == 16) = true ∨ sizeB p.1 = true := fun p hp => hP p (by simp [hp])
    have h0 : ∀ P : List (Int × Int), (∀ p ∈ P, (p.1 == 16) = true ∨ sizeB p.1 = true) → 0 ≤ sumP P := by
      intro P
      induction P with
      | nil => intro _; simp [sumP]
      | cons r R ihR =>
        intro h
        rw [sumP_cons]
        have := ihR (fun p hp => h p (by simp [hp]))
        rcases h r (by simp) with e | e
        · have : r.1 = 16 := by simpa using e
          omega
        · rcases sizeB_cases e with e | e | e <;> omega
    have h0' := h0 P hP'
    rw [sumP_cons] at hs ⊢
    rw [List.map_cons, List.foldl_cons, List.foldl_cons]
    by_cases h16 : (q.1 == 16) = true
    · have hq : q.1 = 16 := by simpa using h16
      obtain ⟨e1, e2⟩ := rd16 (l.length - s) (by omega)
      have x1 : rstq l (s, 0, N, A) q.1 = (s + 16, 0, N, (l.drop s).take 16) := by
        rw [rstq, if_pos h16]; simp only [e1, e2]
        have hd : A.drop 16 = [] := List.drop_of_length_le (by omega)
        rw [hd, List.append_nil]
      have x2 : stp l (s, N, A) q = (s + 16, N, (l.drop s).take 16) := by rw [stp, if_pos h16]
      rw [x1, x2]
      obtain ⟨i1, i2⟩ := ih hP' (s + 16) N ((l.drop s).take 16) (by rw [List.length_take, List.length_drop]; omega) (by omega)
      exact ⟨i1, by rw [i2]; omega⟩
    · have hz : sizeB q.1 = true := (hP q (by simp)).resolve_left h16
      have hq : 0 ≤ q.1 := by rcases sizeB_cases hz with e | e | e <;> omega
      obtain ⟨e1, e2⟩ := rdq q.1 (l.length - s) hz (by omega)
      have x1 : rstq l (s, 0, N, A) q.1 = (s + q.1.toNat, 0, N ++ [numOf ((l.drop s).take q.1.toNat)], A) := by
        rw [rstq, if_neg h16]; simp only [e1, e2]
      have x2 : stp l (s, N, A) q = (s + q.1.toNat, N ++ [numOf ((l.drop s).take q.1.toNat)], A) := by rw [stp, if_neg h16]
      rw [x1, x2]
      obtain ⟨i1, i2⟩ := ih hP' (s + q.1.toNat) (N ++ [numOf ((l.drop s).take q.1.toNat)]) A hA (by omega)
      exact ⟨i1, by rw [i2]; omega⟩
theorem rdE_0 {size n : Int} {left : Nat} {er : Int} (h : rdE size n left er = 0) : er = 0 ∧ rdN size n left er = (size * n).toNat ∧ size * n ≤ left := by
  have hN : rdN size n left er = (size * n).toNat := by rw [rdN, if_pos h]
  unfold rdE at h
  split at h
  · rename_i e
    split at h
    · cases h
    · split at h
      · cases h
      · exact ⟨e, hN, by omega⟩
  · rename_i e; exact absurd h e
/-- Nothing wrong: as many bytes were read as the letters have. -/
theorem rst_0 (l : List Int) (Q : List Int) : (∀ q ∈ Q, (q == 16) = true ∨ sizeB q = true) → ∀ (s : Nat × Int × List Int × List Int), (Q.foldl (rstq l) s).2.1 = 0 → s.2.1 = 0 ∧ ((Q.foldl (rstq l) s).1 : Int) = s.1 + Q.sum := by
  induction Q with
  | nil => intro _ s h; exact ⟨h, by simp⟩
  | cons q Q ih =>
    intro hQ s h
    rw [List.foldl_cons] at h ⊢
    obtain ⟨i1, i2⟩ := ih (fun p hp => hQ p (by simp [hp])) _ h
    rw [i2, List.sum_cons]
    by_cases h16 : (q == 16) = true
    · have hq : q = 16 := by simpa using h16
      rw [rstq, if_pos h16] at i1 ⊢
      obtain ⟨e1, e2, e3⟩ := rdE_0 i1
      refine ⟨e1, ?_⟩
      simp only [e2]; omega
    · have hz : sizeB q = true := (hQ q (by simp)).resolve_left h16
      have hq : 0 ≤ q := by rcases sizeB_cases hz with e | e | e <;> omega
      rw [rstq, if_neg h16] at i1 ⊢
      obtain ⟨e1, e2, e3⟩ := rdE_0 i1
      refine ⟨e1, ?_⟩
      simp only [e2]; omega
theorem cl_prt : ∀ k, k < 10 → 3 ≤ k → (cl k).map szl = (prt k).map (·.1) ∧ (∀ i, i < (cl k).length → (cl k).getD i 0 = 97 ∨ isN ((cl k).getD i 0) = true) ∧ zer k = false ∧ txb k = false := by decide
theorem rsts_fold (l C : List Int) : rsts l C = (C.map szl).foldl (rstq l) (0, 0, [], zeros) := by rw [rsts, List.foldl_map]
/-- Whether the document's body is content, and its option then. -/
theorem rsts_fil (k : Nat) (hk : k < 10) (h3 : 3 ≤ k) (l : List Int) : (closeV (l.length - (rsts l (cl k)).1) (rsts l (cl k)).2.1 = 0 ↔ filE k l 0 = 0) ∧ (filE k l 0 = 0 → filP k l 0 = ⟨k, (rsts l (cl k)).2.2.1, (rsts l (cl k)).2.2.2, []⟩) := by
  obtain ⟨c1, _, hz, ht⟩ := cl_prt k hk h3
  have hall := (prt_all k hk).1
  have hE : filE k l 0 = if sumP (prt k) = l.length then 0 else 3 := by simp [filE, hz, ht]
  by_cases hs : sumP (prt k) = l.length
  · obtain ⟨e1, e2⟩ := rst_ok l (prt k) hall 0 [] zeros rfl (by omega)
    have hr : rsts l (cl k) = ((stps l (prt k)).1, 0, (stps l (prt k)).2.1, (stps l (prt k)).2.2) := by rw [rsts_fold, c1, e1]; rfl
    have e3 : ((stps l (prt k)).1 : Int) = l.length := by
      have : ((stps l (prt k)).1 : Int) = ((0 : Nat) : Int) + sumP (prt k) := e2
      rw [this, hs]; simp
    rw [hE, if_pos hs, hr]
    refine ⟨⟨fun _ => rfl, fun _ => ?_⟩, fun _ => by simp [filP, hz, ht, hs]⟩
    simp only
    rw [closeV, if_pos rfl, if_neg (by omega)]
  · rw [hE, if_neg hs]
    refine ⟨⟨fun h => ?_, fun h => by cases h⟩, fun h => by cases h⟩
    exfalso
    unfold closeV at h
    split at h
    · rename_i e
      split at h
      · cases h
      · rename_i e2
        have hle := rsts_le l (cl k)
        rw [rsts_fold, c1] at e e2 hle
        have hall2 : ∀ q ∈ (prt k).map (·.1), (q == 16) = true ∨ sizeB q = true := by
          intro q hq
          obtain ⟨p, hp, rfl⟩ := List.mem_map.1 hq
          exact hall p hp
        obtain ⟨_, e3⟩ := rst_0 l _ hall2 _ e
        have e4 : ((prt k).map (·.1)).sum = sumP (prt k) := rfl
        rw [e4] at e3
        apply hs
        have : ((0 : Nat) : Int) = 0 := rfl
        simp only at e3
        omega
    · rename_i e; exact absurd h e
/-- Where the document's body stands. -/
def BdS (w wr : World) (r d g : Nat) (len : Nat) (l : List Int) (k : Nat) (s : Nat × Int × List Int × List Int) : Prop :=
  ∃ a2 cap2 o, BdAt w wr r d g a2 (len - s.1) cap2 (l.drop s.1) s.1 s.2.1 o ∧ o.p = ⟨k, s.2.2.1, s.2.2.2, []⟩
theorem lies_back {kd : IntKind} {B : Nat} {w w' : World} {a : Option Addr} {n cap : Nat} {l : List Int} (h : Lies kd w' a n cap l) (hb : Below B w w') (ha : ∀ x, a = some x → 0 < n → x.block < B) : Lies kd w a n cap l :=
  ⟨h.1, h.2.1, h.2.2.1, h.2.2.2.1, fun k hk => by
    obtain ⟨b, off, e, hc⟩ := h.2.2.2.2 k hk
    exact ⟨b, off, e, (hb.cell (p := ⟨b, off + k, none⟩) (ha ⟨b, off, none⟩ e (by omega))).symm.trans hc⟩⟩
theorem refBytes_src (w : World) (d : Nat) (a : Option Addr) (len cap : Nat) (l : List Int) (at_ : Nat) (er n : Int) (h : RefAt w d a len cap l at_ er) :
    Calls Tryd.prog 55 #[.pointer (some ⟨d, 0, none⟩), .int .i64 n] w fun e w' => ∃ a1 c1, e = .returned (.slice a1 (rdN 1 n len er) c1) ∧ Lies .u8 w' a1 (rdN 1 n len er) c1 (l.take (rdN 1 n len er)) ∧ RefOk w d a len at_ l (rdN 1 n len er) (rdE 1 n len er) w' ∧ (a1 = none ∨ a1 = a) := by
  by_cases her : er = 0
  · subst her
    by_cases hn : n < 0
    · have hE : rdE 1 n len 0 = 1 := by rw [rdE_bytes, if_pos hn]
      have hN : rdN 1 n len 0 = 0 := by rw [rdN, hE]; rfl
      rw [hE, hN]
      refine (refBytes_neg w d a len cap l at_ n h hn).mono ?_
      rintro e w' ⟨rfl, rfl⟩
      exact ⟨none, 0, rfl, Lies.nil _ _, refOk_no (h.setEr 1) (grownBy_setCell ..) (by simp), .inl rfl⟩
    · by_cases hlt : (len : Int) < n
      · have hE : rdE 1 n len 0 = 4 := by rw [rdE_bytes, if_neg hn, if_pos hlt]
        have hN : rdN 1 n len 0 = 0 := by rw [rdN, hE]; rfl
        rw [hE, hN]
        refine (refBytes_end w d a len cap l at_ n h (by omega) hlt).mono ?_
        rintro e w' ⟨rfl, rfl⟩
        exact ⟨none, 0, rfl, Lies.nil _ _, refOk_no (h.setEr 4) (grownBy_setCell ..) (by simp), .inl rfl⟩
      · have hE : rdE 1 n len 0 = 0 := by rw [rdE_bytes, if_neg hn, if_neg hlt]
        obtain ⟨m, rfl⟩ := Int.eq_ofNat_of_zero_le (show 0 ≤ n by omega)
        have hN : rdN 1 m len 0 = m := by rw [rdN, if_pos hE]; omega
        rw [hE, hN]
        refine (refBytes_ok w d a len cap l at_ m h (by omega)).mono ?_
        rintro e w' ⟨rfl, a2, cap2, hr, hg, hs, hk⟩
        exact ⟨a, cap, rfl, (h.lies.pre m (by omega)).grown h.noU8 hg, ⟨a2, cap2, hr, hg, hs, hk⟩, .inr rfl⟩
  · have hE : rdE 1 n len er = er := by simp [rdE, her]
    have hN : rdN 1 n len er = 0 := by rw [rdN, hE, if_neg her]
    rw [hE, hN]
    refine (refBytes_was w d a len cap l at_ er n h her).mono ?_
    rintro e w' ⟨rfl, rfl⟩
    exact ⟨none, 0, rfl, Lies.nil _ _, refOk_no h (World.grownBy.refl _ _) rfl, .inl rfl⟩
/-- Bytes of an address, laid one by one. -/
def mixL (F A : List Int) (q : Nat) : List Int := F.take q ++ A.drop q
theorem mixL_next (F A : List Int) (q : Nat) (hF : q < F.length) (hA : q < A.length) : (mixL F A q).set q (F.getD q 0) = mixL F A (q + 1) := by
  have h1 : (F.take q).length = q := by rw [List.length_take]; omega
  rw [mixL, mixL, List.set_append_right _ _ (by omega), h1, Nat.sub_self, List.drop_eq_getElem_cons hA, List.set_cons_zero]
  have e : F.take (q + 1) = F.take q ++ [F[q]] := List.take_succ_eq_append_getElem hF
  rw [e, List.append_assoc]
  simp [hF]
theorem mixL_0 (F A : List Int) : mixL F A 0 = A := by simp [mixL]
theorem mixL_all (F A : List Int) : mixL F A F.length = F ++ A.drop F.length := by rw [mixL, List.take_length]
theorem setA_setA (o : Ov) (A B : List Int) : (o.setA A).setA B = o.setA B := rfl
theorem setA_self (o : Ov) : o.setA o.ad = o := rfl
theorem rdN_16 (left : Nat) (er : Int) : rdN 1 16 left er ≤ 16 := by
  unfold rdN; split <;> omega
end Go.Proofs.YtbgogeojdibmkaaDoor
