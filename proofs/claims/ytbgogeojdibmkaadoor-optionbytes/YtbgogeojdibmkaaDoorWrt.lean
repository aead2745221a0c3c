/- The bytes of an option that is right: written, Size. -/
import Derived.Test.YtbgogeojdibmkaaDoorCon
namespace Go.Proofs.YtbgogeojdibmkaaDoor
open Go.ChangeShapes Go.WideShapes Go.ChangeAt Go.RowKit Go.Deep
set_option linter.unusedVariables false
set_option linter.unusedSimpArgs false

/-- What is known of an option that is right. -/
theorem chk0 {o : Po} (h : chkP o = 0) : kndB o.k = true ∧ frmB o.k.toNat o = true ∧ widB (nmb (prt o.k.toNat)) o.n = true ∧ o.t.length ≤ 64 := by
  unfold chkP at h
  split at h
  · omega
  · rename_i h1
    split at h
    · omega
    · rename_i h2
      split at h
      · omega
      · rename_i h3
        split at h
        · omega
        · rename_i h4
          exact ⟨by simpa using h1, by simpa using h2, by simpa using h3, by omega⟩
theorem knd_nat {n : Int} (h : kndB n = true) : ∃ k : Nat, n = k ∧ k < 10 := by
  have : 0 ≤ n ∧ n < 10 := by simpa [kndB] using h
  exact ⟨n.toNat, by omega, by omega⟩
theorem pads_num {n : List Int} (hl : n.length = 1) (h : widB (nmb (prt 1)) n = true) : ∃ m : Nat, n = [(m : Int)] ∧ m ≤ 255 := by
  match n, hl with
  | [x], _ =>
    have : 0 ≤ x ∧ x ≤ 255 := by
      have h0 : nmb (prt 1) = [(1, 255)] := by decide
      rw [h0] at h
      simpa [widB, inB, List.range_succ] using h
    exact ⟨x.toNat, by simp; omega, by omega⟩
theorem conP_le {o : Po} {k : Nat} (hk : k < 10) (hok : o.k = k) (h : chkP o = 0) (ha : o.ad.length = 16) : (conP k o).length ≤ 255 := by
  obtain ⟨h1, h2, h3, h4⟩ := chk0 h
  rw [hok, Int.toNat_natCast] at h2 h3
  unfold conP
  split
  · rename_i hz
    have : k = 1 := by simpa [zer] using hz
    subst this
    obtain ⟨m, hm, hm2⟩ := pads_num (frm_len h2) h3
    rw [hm]; simp; omega
  · have := part_len hk (prt k).length (Nat.le_refl _) o.n o.ad ha
    rw [List.take_length] at this
    rw [List.length_append]; omega
/-- The bytes of an option. -/
def encP (o : Po) : List Int := if o.k = 0 then [0] else o.k :: ((conP o.k.toNat o).length : Int) :: conP o.k.toNat o
theorem content_any {B : Nat} (o : Ov) (k : Nat) (hk : k < 10) (hok : o.k = k) (w : World) (ho : o.ok w) (hV : Vars B w) (hc : chkP o.p = 0) :
    Calls Tryd.prog 45 #[.agg o.cs] w fun e w' => ∃ v, e = .returned v ∧ w'.ownsRow w.heap.size 5 1 v (conP k o.p).length (u8s (conP k o.p)) ∧ Below w.heap.size w w' := by
  obtain ⟨h1, h2, h3, h4⟩ := chk0 hc
  have hk' : o.p.k.toNat = k := by rw [show o.p.k = o.k from rfl, hok]; rfl
  rw [hk'] at h2 h3
  have hln : o.n.n = (nmb (prt k)).length := by rw [← ho.n.1]; exact frm_len h2
  cases hz : zer k
  · have e : conP k o.p = partsB (prt k) o.n.l o.ad ++ o.t.l := by rw [conP, hz]; rfl
    rw [e]
    exact content_parts o k hk hok hz w ho hV hln h3 (by rw [← ho.t.1]; exact h4)
  · have : k = 1 := by simpa [zer] using hz
    subst this
    obtain ⟨m, hm, hm2⟩ := pads_num (frm_len h2) h3
    have hm' : o.n.l = [(m : Int)] := hm
    have e : conP 1 o.p = List.replicate m 0 := by rw [conP, hz, if_pos rfl, hm]; simp
    rw [e, List.length_replicate]
    exact content_zeros o hok w ho hV m hm' hm2
/-- A literal is a row of the call's own. -/
theorem owns_lit {base : Nat} {e : TypeId} {size : Nat} (w : World) (cur : Array Value) (n : Nat) (hb : base ≤ w.heap.size) (hm : n ≤ maxLen) (hs : cur.size = n * size) :
    (w.alloc (.cells cur e)).ownsRow base e size (.slice (some ⟨w.heap.size, 0, none⟩) n n) n cur.toList :=
  ⟨by simpa using hs, .inr ⟨w.heap.size, n, cur, rfl, hb, heap_alloc_new w _, Nat.le_refl _, hm, hs, List.take_of_length_le (by simp [hs])⟩⟩
set_option maxHeartbeats 800000 in
theorem written_any {B : Nat} (o : Ov) (w : World) (ho : o.ok w) (hV : Vars B w) (hc : chkP o.p = 0) :
    Calls Tryd.prog 25 #[.agg o.cs] w fun e w' => ∃ v, e = .returned v ∧ w'.ownsRow w.heap.size 5 1 v (encP o.p).length (u8s (encP o.p)) ∧ Below w.heap.size w w' := by
  have HR0 := hid (Row.new w 43 o.cs)
  have B0 := hid (balloc (Below.refl w.heap.size w) (.cells o.cs 43))
  have V0 := hid (hV.below B0.out)
  have O0 := hid (ho.below B0.out)
  have HA := hid ho.ad
  have HC := hid hc
  obtain ⟨k, hok, hk⟩ := knd_nat (chk0 hc).1
  have hok : o.k = k := hok
  clear hV ho hc
  by_cases hk0 : k = 0
  · have HE : Hid (encP o.p = [0]) := by rw [Hid, encP, if_pos (by rw [show o.p.k = o.k from rfl, hok, hk0]; rfl)]
    subst hk0
    go_enter Tryd.func25, Tryd.ntmps25
    go_upto_region 1 with fail
    generalize hw1 : w.alloc (.cells o.cs 43) = w1 at *
    have c0 := (HR0.out.cell 0).trans o.at0
    rw [hok] at c0
    have c0 : w1.cell? ⟨w.heap.size, 0, none⟩ = some (.int .i64 0) := c0
    have OW := hid (owns_lit (e := 5) (size := 1) (base := w.heap.size) w1 #[.int .u8 0] 1 B0.out.size (by decide) (by simp))
    have B1 := hid (balloc B0.out (.cells #[.int .u8 0] 5))
    clear hw1
    go_wp2_with fail
    go_ret
    refine ⟨_, rfl, ?_, B1.out⟩
    rw [HE.out]
    exact OW.out
  · have HE : Hid (encP o.p = (k : Int) :: ((conP k o.p).length : Int) :: conP k o.p) := by rw [Hid, encP, if_neg (by rw [show o.p.k = o.k from rfl, hok]; omega), show o.p.k = o.k from rfl, hok]; rfl
    have hle := conP_le hk (o := o.p) hok HC.out HA.out.1
    have hk0' : ((k : Int) == 0) = false := by simp; omega
    generalize hcn : (conP k o.p).length = cl at *
    have HCN := hid hcn
    have HF : Hid (fitsB 1 [(k : Int), (cl : Int)] = true) := by rw [Hid]; simp [fitsB, sizeB, okB, top]; omega
    have HBY : Hid (bytesOf 1 [(k : Int), (cl : Int)] = [(k : Int), (cl : Int)]) := by rw [Hid]; simp [bytesOf, digs]; omega
    have HK := hid hok
    go_enter Tryd.func25, Tryd.ntmps25
    go_upto_region 1 with fail
    generalize hw1 : w.alloc (.cells o.cs 43) = w1 at *
    have c0 := (HR0.out.cell 0).trans o.at0
    rw [HK.out] at c0
    clear hw1 hok hk0 hcn
    go_wp2_with (refine ldO o43 _ rfl rfl w.heap.size 0 rfl o HA.out HR0.out.part ?_)
    refine (content_any o k hk HK.out _ O0.out V0.out HC.out).mono ?_
    rintro e w2 ⟨v2, rfl, hown2, hb2⟩
    obtain ⟨a2, cap2, rfl, hl2, _⟩ := owns_lies hown2
    rw [HCN.out] at hl2 ⊢
    have R2 := hid (HR0.out.below hb2)
    have B2 := hid (bthen B0.out hb2)
    have L2 := hid hl2
    have e0 := (R2.out.cell 0).trans o.at0
    rw [HK.out] at e0
    clear hb2 hown2 hl2 c0 B0 HR0 V0 O0
    have L3 := hid (lies_new .i64 w2 #[.int .i64 k, .int .i64 cl] 3 [(k : Int), (cl : Int)] rfl (by simp))
    have B3 := hid (balloc (Below.refl w2.heap.size w2) (.cells #[.int .i64 k, .int .i64 cl] 3))
    go_wp2_with fail
    generalize hw3 : w2.alloc (.cells #[.int .i64 k, .int .i64 cl] 3) = w3 at *
    clear hw3
    refine (put_ok none _ 0 0 2 2 1 [] [(k : Int), (cl : Int)] _ (Lies.nil _ _) L3.out HF.out (by decide)).mono ?_
    rintro e w4 ⟨v4, rfl, hown4, hb4⟩
    rw [HBY.out, List.nil_append] at hown4
    have O4 := hid hown4
    have B4 := hid (bthen B3.out hb4)
    have L4 := hid (L2.out.below B4.out)
    have B5 := hid (bthen B2.out B4.out)
    have B6 := hid hb4
    clear hown4 hb4
    go_wp2_with (at_builtin; refine wpList_appB rfl _ _ rfl rfl rfl O4.out L4.out ?c1 ?c2 ?_)
    case c1 => exact B6.out.size
    case c2 => simp; omega
    intro v5 w5 ho5 hb5
    have B7 := hid (B5.out.trans (hb5.mono (Nat.le_trans B2.out.size B3.out.size)))
    have O5 := hid ho5
    clear ho5 hb5
    go_wp2_with fail
    go_ret
    refine ⟨_, rfl, ?_, B7.out⟩
    rw [HE.out]
    refine own_mono (b' := w.heap.size) (b := w3.heap.size) ?_ (Nat.le_trans B2.out.size B3.out.size)
    refine ownsRow_u8 O5.out ?_ rfl
    simp [HCN.out]; omega
/-- How many bytes an option has. -/
def sizP (o : Po) : Int := if chkP o = 0 then ((encP o).length : Int) else 0
theorem encP_le {o : Po} (hc : chkP o = 0) (ha : o.ad.length = 16) : (encP o).length ≤ 257 := by
  obtain ⟨k, hok, hk⟩ := knd_nat (chk0 hc).1
  have := conP_le hk hok hc ha
  unfold encP
  rw [hok, Int.toNat_natCast]
  split
  · simp
  · simp; omega
theorem chkP_pos (o : Po) : 0 ≤ chkP o ∧ chkP o ≤ 6 := by
  unfold chkP
  split
  · omega
  · split
    · omega
    · split
      · omega
      · split <;> omega
set_option maxHeartbeats 800000 in
theorem size_any {B : Nat} (o : Ov) (w : World) (ho : o.ok w) (hV : Vars B w) :
    Calls Tryd.prog 17 #[.agg o.cs] w fun e w' => e = .returned (.int .i64 (sizP o.p)) ∧ Below w.heap.size w w' := by
  have HR0 := hid (Row.new w 43 o.cs)
  have B0 := hid (balloc (Below.refl w.heap.size w) (.cells o.cs 43))
  have V0 := hid (hV.below B0.out)
  have O0 := hid (ho.below B0.out)
  have HA := hid ho.ad
  have HS : Hid (sizP o.p = if chkP o.p = 0 then ((encP o.p).length : Int) else 0) := rfl
  have cW := hid (fun (w : World) (ho : o.ok w) (hV : Vars B w) => written_any o w ho hV)
  have cL := hid (fun h => encP_le (o := o.p) h ho.ad.1)
  clear hV ho
  generalize sizP o.p = sz at *
  go_enter Tryd.func17, Tryd.ntmps17
  go_upto_region 1 with fail
  generalize hw1 : w.alloc (.cells o.cs 43) = w1 at *
  clear hw1
  go_wp2_with (refine ldO o43 _ rfl rfl w.heap.size 0 rfl o HA.out HR0.out.part ?_)
  refine (check_any o _ O0.out V0.out).mono ?_
  rintro e w2 ⟨rfl, hb2⟩
  have R2 := hid (HR0.out.below hb2)
  have B2 := hid (bthen B0.out hb2)
  have V2 := hid (V0.out.below hb2)
  have O2 := hid (O0.out.below hb2)
  clear hb2 HR0 B0 V0 O0
  generalize chkP o.p = c at *
  by_cases hc : c = 0
  · subst hc
    have cW1 := hid (fun (w : World) (ho : o.ok w) (hV : Vars B w) => cW.out w ho hV rfl)
    have hle := cL.out rfl
    go_wp2_with (refine ldO o43 _ rfl rfl w.heap.size 0 rfl o HA.out R2.out.part ?_)
    refine (cW1.out _ O2.out V2.out).mono ?_
    rintro e w3 ⟨v, rfl, hown, hb3⟩
    obtain ⟨a3, c3, rfl⟩ := owns_len hown
    have B3 := hid (bthen B2.out hb3)
    clear hown hb3
    generalize (encP o.p).length = n at *
    go_wp2_with fail
    go_ret
    exact ⟨ret_int (by rw [HS.out]; rfl), B3.out⟩
  · have hc' : (c != 0) = true := by simpa using hc
    have HC := hid hc
    clear hc
    go_wp2_with fail
    go_ret
    exact ⟨ret_int (by rw [HS.out, if_neg HC.out]), B2.out⟩
end Go.Proofs.YtbgogeojdibmkaaDoor
