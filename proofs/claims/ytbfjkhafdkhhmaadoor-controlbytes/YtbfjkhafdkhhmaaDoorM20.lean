/- Reading: fill. · Reading: where next stands. -/
import Derived.Test.YtbfjkhafdkhhmaaDoorOpTk2
import Derived.Test.YtbfjkhafdkhhmaaDoorM5
import Derived.Test.YtbfjkhafdkhhmaaDoorM16
namespace Go.Proofs.YtbfjkhafdkhhmaaDoor
open Go.ChangeShapes Go.WideShapes Go.ChangeAt Go.RowKit Go.Deep
set_option linter.unusedVariables false
set_option linter.unusedSimpArgs false

def filE (k : Nat) (l : List Int) (er : Int) : Int := if er = 0 then (if zer k = true then zerE l else if txb k = true then 0 else if sumP (prt k) = l.length then 0 else 3) else er
def filP (k : Nat) (l : List Int) (er : Int) : Po := if er = 0 then (if zer k = true then ⟨k, [(l.length : Int)], zeros, []⟩ else if txb k = true then ⟨k, [], zeros, l⟩ else if sumP (prt k) = l.length then ⟨k, (stps l (prt k)).2.1, (stps l (prt k)).2.2, []⟩ else ⟨k, [], zeros, []⟩) else ⟨k, [], zeros, []⟩
def FilOk (base : Nat) (w wr : World) (p c g : Nat) (gv : Value) (a : Option Addr) (len cap : Nat) (l : List Int) (er : Int) (k : Nat) : Prop :=
  ∃ at2 er2 o2, RdAt base w wr p c g gv a len cap l at2 er2 o2 ∧ o2.p = filP k l er ∧ closeV (len - at2) er2 = filE k l er
theorem Vars.rd {B base : Nat} {w w0 w1 : World} (hV : Vars B w0) (h0 : Below base w w0) (h1 : Below base w w1) (hB : B ≤ base) (hs : base ≤ w1.heap.size) : Vars B w1 := by
  have hc : ∀ b o, b < B → w1.cell? ⟨b, o, none⟩ = w0.cell? ⟨b, o, none⟩ := fun b o hb => (h1.cell (p := ⟨b, o, none⟩) (Nat.lt_of_lt_of_le hb hB)).trans (h0.cell (p := ⟨b, o, none⟩) (Nat.lt_of_lt_of_le hb hB)).symm
  exact ⟨hV.pos, Nat.le_trans hB hs, fun k hk => (hc _ _ hV.pos).trans (hV.word k hk), fun k hk => by
    obtain ⟨a, n, cap, h1, h2⟩ := hV.parts k hk
    exact ⟨a, n, cap, (hc _ _ hV.pos).trans h1, h2.same hc⟩, fun k hk => (hc _ _ hV.pos).trans (hV.zeros k hk), fun k hk => (hc _ _ hV.pos).trans (hV.text k hk)⟩
theorem fill_was {B base : Nat} (k : Nat) (hk : k < 10) (w w0 : World) (p c g : Nat) (gv : Value) (a : Option Addr) (len cap : Nat) (l : List Int) (o : Ov) (er : Int) (h : RdAt base w w0 p c g gv a len cap l 0 er o) (hop : o.p = ⟨k, [], zeros, []⟩) (hV : Vars B w0) (hB : B ≤ base) (her : er ≠ 0) :
    Calls Tryd.prog 105 #[.pointer (some ⟨p, 0, none⟩), .pointer (some ⟨g, 0, none⟩)] w0 fun e w' => e = .returned (.tuple #[]) ∧ Hid (FilOk base w w' p c g gv a len cap l er k) := by
  have H := hid h
  have HV := hid hV
  have HO := hid hop
  have c0 : w0.cell? ⟨g, 0, none⟩ = some (.int .i64 k) := by rw [(h.row.cell 0).trans o.at0, show o.k = k from congrArg Po.k hop]
  have p0 := h.r.cell 0
  simp only [List.getElem?_toArray, List.getElem?_cons_zero] at p0
  have HLl : Hid (l.length = len) := h.cur.lies.1
  clear h hV hop

  have he : (er != 0) = true := by rw [bne_iff_ne]; exact her
  have HE : Hid (filE k l er = er) := by simp [Hid, filE, her]
  have HP : Hid (filP k l er = ⟨k, [], zeros, []⟩) := by simp [Hid, filP, her]
  have HC : Hid (closeV (len - 0) er = er) := by simp [Hid, closeV, her]
  have HER := hid her
  clear her
  go_enter Tryd.func105, Tryd.ntmps105
  go_wp2_with fail
  refine (err_any _ c er H.out.cur.cell2).mono ?_
  rintro e w1 ⟨rfl, rfl⟩
  go_wp2_with fail
  go_returns
  exact ⟨rfl, 0, er, o, H.out, by rw [HP.out, HO.out], by rw [HC.out, HE.out]⟩
theorem fill_zeros {B base : Nat} (k : Nat) (hk : k < 10) (w w0 : World) (p c g : Nat) (gv : Value) (a : Option Addr) (len cap : Nat) (l : List Int) (o : Ov) (h : RdAt base w w0 p c g gv a len cap l 0 0 o) (hop : o.p = ⟨k, [], zeros, []⟩) (hV : Vars B w0) (hB : B ≤ base) (hzk : zer k = true) :
    Calls Tryd.prog 105 #[.pointer (some ⟨p, 0, none⟩), .pointer (some ⟨g, 0, none⟩)] w0 fun e w' => e = .returned (.tuple #[]) ∧ Hid (FilOk base w w' p c g gv a len cap l 0 k) := by
  have H := hid h
  have HV := hid hV
  have HO := hid hop
  have c0 : w0.cell? ⟨g, 0, none⟩ = some (.int .i64 k) := by rw [(h.row.cell 0).trans o.at0, show o.k = k from congrArg Po.k hop]
  have p0 := h.r.cell 0
  simp only [List.getElem?_toArray, List.getElem?_cons_zero] at p0
  have HLl : Hid (l.length = len) := h.cur.lies.1
  clear h hV hop

  have HE : Hid (filE k l 0 = zerE l) := by simp [Hid, filE, hzk]
  have HP : Hid (filP k l 0 = ⟨k, [(len : Int)], zeros, []⟩) := by simp [Hid, filP, hzk, HLl.out]
  have z0 := (HV.out.zeros k hk)
  rw [hzk] at z0
  go_enter Tryd.func105, Tryd.ntmps105
  go_wp2_with fail
  refine (err_any _ c 0 H.out.cur.cell2).mono ?_
  rintro e w1 ⟨rfl, rfl⟩
  go_wp2_with fail
  refine (left_any _ c a len cap 0 l 0 H.out.cur).mono ?_
  rintro e w2 ⟨rfl, q, rfl⟩
  have HL : Hid ((len : Int) - ((0 : Nat) : Int) = len) := by rw [Hid]; omega
  rw [HL.out]
  have H1 := hid (H.out.drewN q)
  have H2 := hid (H1.out.on (balloc (Below.refl _ _) (.cells #[.int .i64 len] 3)))
  have O2 := hid (owns_lit (e := 3) (size := 1) (base := base) (w1.drewN q) #[.int .i64 len] 1 H1.out.size (by decide) (by simp))
  have H3 := hid (H2.out.setN _ _ [(len : Int)] O2.out)
  have f1 := H2.out.row.frozen 1
  have n1 := (H2.out.row.cell 1).trans o.at1
  have f1' : (w1.drewN q).frozen? ⟨g, 1, none⟩ = false := H1.out.row.frozen 1
  have H4 : Hid (RdAt base w (((w1.drewN q).alloc (.cells #[.int .i64 len] 3)).setCell ⟨g, 1, none⟩ (.slice (some ⟨w1.heap.size, 0, none⟩) 1 1)) p c g gv a len cap l 0 0 (o.setN ⟨some ⟨w1.heap.size, 0, none⟩, 1, 1, [(len : Int)]⟩)) := H3.out
  clear H2 O2 H3
  go_upto_region 4 with fail
  generalize (((w1.drewN q).alloc (.cells #[.int .i64 len] 3)).setCell ⟨g, 1, none⟩ (.slice (some ⟨w1.heap.size, 0, none⟩) 1 1)) = w5 at *
  have PP : Hid ((o.setN ⟨some ⟨w1.heap.size, 0, none⟩, 1, 1, [(len : Int)]⟩).p = ⟨k, [(len : Int)], zeros, []⟩) := by
    have := HO.out
    simp only [Ov.p, Po.mk.injEq] at this
    simp only [Hid, Ov.p, Ov.setN, this]
  generalize o.setN ⟨some ⟨w1.heap.size, 0, none⟩, 1, 1, [(len : Int)]⟩ = o5 at *
  go_wp2_with fail
  refine (skipZeros_any _ p c a len cap 0 l gv H4.out.r H4.out.cur).mono ?_
  rintro e w6 ⟨rfl, hc, hg⟩
  have H6 := hid (H4.out.read hc hg)
  clear hc hg
  go_wp2_with fail
  go_returns
  refine ⟨rfl, len, _, o5, H6.out, by rw [HP.out, PP.out], ?_⟩
  rw [HE.out, List.drop_zero, Nat.sub_self]
  unfold closeV zerE
  split <;> rfl

set_option maxRecDepth 100000 in
theorem fill_text {B base : Nat} (k : Nat) (hk : k < 10) (w w0 : World) (p c g : Nat) (gv : Value) (a : Option Addr) (len cap : Nat) (l : List Int) (o : Ov) (h : RdAt base w w0 p c g gv a len cap l 0 0 o) (hop : o.p = ⟨k, [], zeros, []⟩) (hV : Vars B w0) (hB : B ≤ base) (hzk : zer k = false) (htk : txb k = true) :
    Calls Tryd.prog 105 #[.pointer (some ⟨p, 0, none⟩), .pointer (some ⟨g, 0, none⟩)] w0 fun e w' => e = .returned (.tuple #[]) ∧ Hid (FilOk base w w' p c g gv a len cap l 0 k) := by
  have H := hid h
  have HV := hid hV
  have HO := hid hop
  have c0 : w0.cell? ⟨g, 0, none⟩ = some (.int .i64 k) := by rw [(h.row.cell 0).trans o.at0, show o.k = k from congrArg Po.k hop]
  have p0 := h.r.cell 0
  simp only [List.getElem?_toArray, List.getElem?_cons_zero] at p0
  have HLl : Hid (l.length = len) := h.cur.lies.1
  clear h hV hop

  have HE : Hid (filE k l 0 = 0) := by simp [Hid, filE, hzk, htk]
  have HP : Hid (filP k l 0 = ⟨k, [], zeros, l⟩) := by simp [Hid, filP, hzk, htk]
  have z0 := (HV.out.zeros k hk)
  rw [hzk] at z0
  have t0 := (HV.out.text k hk)
  rw [htk] at t0
  go_enter Tryd.func105, Tryd.ntmps105
  go_wp2_with fail
  refine (err_any _ c 0 H.out.cur.cell2).mono ?_
  rintro e w1 ⟨rfl, rfl⟩
  go_wp2_with fail
  refine wp_region_held_drew (S := fun w' => w'.cell? ⟨p, 0, none⟩ = some (.pointer (some ⟨c, 0, none⟩))) (by kernel_rfl) ?_ (fun hHeld => ?_)
  · exact H.out.r.cell 0
  refine wpAnyH_take (i := 0) (oi := _) (v := ?va0) rfl (by kernel_rfl) (by kernel_rfl) (by kernel_rfl) (fun _ _ _ h => h) (Or.inl ⟨by rfl, ?hya0⟩) (by assumption) ?resta0
  case hya0 => (intro w hSw; (try dsimp only at hSw); go_split_ands; go_simp; try (with_reducible rfl))
  try simp only [List.getElem_toArray, List.getElem_cons_zero, List.getElem_cons_succ, Act.put, List.setIfInBounds_toArray, List.set_cons_zero, List.set_cons_succ]
  refine wpAnyH_take (i := 1) (oi := _) (v := ?va1) rfl (by kernel_rfl) (by kernel_rfl) (by kernel_rfl) (fun _ _ _ h => h) (Or.inl ⟨by rfl, ?hya1⟩) (by assumption) ?resta1
  case hya1 => (intro w hSw; (try dsimp only at hSw); go_split_ands; go_simp; try (with_reducible rfl))
  try simp only [List.getElem_toArray, List.getElem_cons_zero, List.getElem_cons_succ, Act.put, List.setIfInBounds_toArray, List.set_cons_zero, List.set_cons_succ]
  refine wpAnyH_take (i := 2) (oi := _) (v := ?va2) rfl (by kernel_rfl) (by kernel_rfl) (by kernel_rfl) (fun _ _ _ h => h) (Or.inl ⟨by rfl, ?hya2⟩) (by assumption) ?resta2
  case hya2 => (intro w hSw; (try dsimp only at hSw); go_split_ands; go_simp; try (with_reducible rfl))
  try simp only [List.getElem_toArray, List.getElem_cons_zero, List.getElem_cons_succ, Act.put, List.setIfInBounds_toArray, List.set_cons_zero, List.set_cons_succ]
  refine wpAnyH_take (i := 3) (oi := _) (v := ?va3) rfl (by kernel_rfl) (by kernel_rfl) (by kernel_rfl) (fun _ _ _ h => h) (Or.inl ⟨by rfl, ?hya3⟩) (by assumption) ?resta3
  case hya3 => (intro w hSw; (try dsimp only at hSw); go_split_ands; go_simp; try (with_reducible rfl))
  try simp only [List.getElem_toArray, List.getElem_cons_zero, List.getElem_cons_succ, Act.put, List.setIfInBounds_toArray, List.set_cons_zero, List.set_cons_succ]
  refine wpAnyH_take (i := 4) (oi := _) (v := ?va4) rfl (by kernel_rfl) (by kernel_rfl) (by kernel_rfl) (fun _ _ _ h => h) (Or.inl ⟨by rfl, ?hya4⟩) (by assumption) ?resta4
  case hya4 => (intro w hSw; (try dsimp only at hSw); go_split_ands; go_simp; try (with_reducible rfl))
  try simp only [List.getElem_toArray, List.getElem_cons_zero, List.getElem_cons_succ, Act.put, List.setIfInBounds_toArray, List.set_cons_zero, List.set_cons_succ]
  refine wpAnyH_take (i := 5) (oi := _) (v := ?va5) rfl (by kernel_rfl) (by kernel_rfl) (by kernel_rfl) (fun _ _ _ h => h) (Or.inl ⟨by rfl, ?hya5⟩) (by assumption) ?resta5
  case hya5 => (intro w hSw; (try dsimp only at hSw); go_split_ands; go_simp; try (with_reducible rfl))
  try simp only [List.getElem_toArray, List.getElem_cons_zero, List.getElem_cons_succ, Act.put, List.setIfInBounds_toArray, List.set_cons_zero, List.set_cons_succ]
  refine wpAnyH_take (i := 6) (oi := _) (v := ?va6) rfl (by kernel_rfl) (by kernel_rfl) (by kernel_rfl) (fun _ _ _ h => h) (Or.inl ⟨by rfl, ?hya6⟩) (by assumption) ?resta6
  case hya6 => (intro w hSw; (try dsimp only at hSw); go_split_ands; go_simp; try (with_reducible rfl))
  try simp only [List.getElem_toArray, List.getElem_cons_zero, List.getElem_cons_succ, Act.put, List.setIfInBounds_toArray, List.set_cons_zero, List.set_cons_succ]
  refine wpAnyH_take (i := 7) (oi := _) (v := ?va7) rfl (by kernel_rfl) (by kernel_rfl) (by kernel_rfl) (fun _ _ _ h => h) (Or.inl ⟨by rfl, ?hya7⟩) (by assumption) ?resta7
  case hya7 => (intro w hSw; (try dsimp only at hSw); go_split_ands; go_simp; try (with_reducible rfl))
  try simp only [List.getElem_toArray, List.getElem_cons_zero, List.getElem_cons_succ, Act.put, List.setIfInBounds_toArray, List.set_cons_zero, List.set_cons_succ]
  refine wpAnyH_take (i := 8) (oi := _) (v := ?va8) rfl (by kernel_rfl) (by kernel_rfl) (by kernel_rfl) (fun _ _ _ h => h) (Or.inl ⟨by rfl, ?hya8⟩) (by assumption) ?resta8
  case hya8 => (intro w hSw; (try dsimp only at hSw); go_split_ands; go_simp; try (with_reducible rfl))
  try simp only [List.getElem_toArray, List.getElem_cons_zero, List.getElem_cons_succ, Act.put, List.setIfInBounds_toArray, List.set_cons_zero, List.set_cons_succ]
  refine wpAnyH_ready (rs := [9]) (by kernel_rfl) (by simp) ?_
  refine AllReadyH.cons (o := _) rfl (fun K hK => ?_) AllReadyH.nil
  go_simp
  refine (left_any _ c a len cap 0 l 0 (H.out.cur.drewN _)).mono ?_
  rintro e w2 ⟨rfl, q, rfl⟩
  go_wp2_with fail
  refine hK.out _ _ (H.out.r.cell 0) (fun hHeld => ?_)
  clear hK K
  try simp only [List.getElem_toArray, List.getElem_cons_zero, List.getElem_cons_succ, Act.put, List.setIfInBounds_toArray, List.set_cons_zero, List.set_cons_succ]
  refine wpAnyH_ready (rs := [10]) (by kernel_rfl) (by simp) ?_
  refine AllReadyH.cons (o := _) rfl (fun K hK => ?_) AllReadyH.nil
  go_simp
  refine (bytes_left _ c a len cap 0 l (H.out.cur.drewN _)).mono ?_
  rintro e w3 ⟨b, cp, rfl, hown, hl, hc, hg⟩
  have H3 := hid ((H.out.drewN _).read hc hg)
  have O3 : Hid (w3.ownsRow base 5 1 (.slice b l.length cp) l.length (u8s l)) := by
    rw [Hid, HLl.out]
    rw [List.drop_zero, Nat.sub_zero] at hown
    exact own_mono hown H.out.size
  clear hown hl hc hg
  rw [Nat.sub_zero]
  go_wp2_with fail
  refine hK.out _ _ (H3.out.r.cell 0) (fun hHeld => ?_)
  clear hK K
  try simp only [List.getElem_toArray, List.getElem_cons_zero, List.getElem_cons_succ, Act.put, List.setIfInBounds_toArray, List.set_cons_zero, List.set_cons_succ]
  refine wpAnyH_take (i := 11) (oi := _) (v := ?va11) rfl (by kernel_rfl) (by kernel_rfl) (by kernel_rfl) (fun _ _ _ h => h) (Or.inl ⟨by rfl, ?hya11⟩) (by assumption) ?resta11
  case hya11 => (intro w hSw; (try dsimp only at hSw); go_split_ands; go_simp; try (with_reducible rfl))
  try simp only [List.getElem_toArray, List.getElem_cons_zero, List.getElem_cons_succ, Act.put, List.setIfInBounds_toArray, List.set_cons_zero, List.set_cons_succ]
  refine wpAnyH_take (i := 12) (oi := _) (v := ?va12) rfl (by kernel_rfl) (by kernel_rfl) (by kernel_rfl) (fun _ _ _ h => h) (Or.inl ⟨by rfl, ?hya12⟩) (by assumption) ?resta12
  case hya12 => (intro w hSw; (try dsimp only at hSw); go_split_ands; go_simp; try (with_reducible rfl))
  try simp only [List.getElem_toArray, List.getElem_cons_zero, List.getElem_cons_succ, Act.put, List.setIfInBounds_toArray, List.set_cons_zero, List.set_cons_succ]
  have f1 := H3.out.row.frozen 18
  have n1 := (H3.out.row.cell 18).trans (Ov.at18 H3.out.own.ad)
  have H4 := hid (H3.out.setT b cp l O3.out H.out.cur.oct)
  rw [HLl.out] at H4
  refine wpAnyH_ready (rs := [13]) (by kernel_rfl) (by simp) ?_
  refine AllReadyH.cons (o := _) rfl (fun K hK => ?_) AllReadyH.nil
  go_simp
  go_wp2_with fail
  refine hK.out _ _ (H4.out.r.cell 0) (fun hHeld => ?_)
  clear hK K
  try simp only [List.getElem_toArray, List.getElem_cons_zero, List.getElem_cons_succ, Act.put, List.setIfInBounds_toArray, List.set_cons_zero, List.set_cons_succ]
  refine wpAnyH_done (by kernel_rfl) ?_ _
  go_wp2_with fail
  go_returns
  refine ⟨rfl, len, 0, _, H4.out, ?_, ?_⟩
  · rw [HP.out]
    have := HO.out
    simp only [Ov.p, Po.mk.injEq] at this
    simp only [Ov.p, Ov.setT, this]
  · rw [HE.out, Nat.sub_self]; rfl

set_option maxRecDepth 100000 in
theorem fill_short {B base : Nat} (k : Nat) (hk : k < 10) (w w0 : World) (p c g : Nat) (gv : Value) (a : Option Addr) (len cap : Nat) (l : List Int) (o : Ov) (h : RdAt base w w0 p c g gv a len cap l 0 0 o) (hop : o.p = ⟨k, [], zeros, []⟩) (hV : Vars B w0) (hB : B ≤ base) (hzk : zer k = false) (htk : txb k = false) (hsum : ¬ sumP (prt k) = len) :
    Calls Tryd.prog 105 #[.pointer (some ⟨p, 0, none⟩), .pointer (some ⟨g, 0, none⟩)] w0 fun e w' => e = .returned (.tuple #[]) ∧ Hid (FilOk base w w' p c g gv a len cap l 0 k) := by
  have H := hid h
  have HV := hid hV
  have HO := hid hop
  have c0 : w0.cell? ⟨g, 0, none⟩ = some (.int .i64 k) := by rw [(h.row.cell 0).trans o.at0, show o.k = k from congrArg Po.k hop]
  have p0 := h.r.cell 0
  simp only [List.getElem?_toArray, List.getElem?_cons_zero] at p0
  have HLl : Hid (l.length = len) := h.cur.lies.1
  clear h hV hop

  have HE : Hid (filE k l 0 = 3) := by simp [Hid, filE, hzk, htk, HLl.out, hsum]
  have HP : Hid (filP k l 0 = ⟨k, [], zeros, []⟩) := by simp [Hid, filP, hzk, htk, HLl.out, hsum]
  have hne : ((len : Int) != sumP (prt k)) = true := by rw [bne_iff_ne]; exact fun e => hsum e.symm
  clear hsum
  have z0 := (HV.out.zeros k hk)
  rw [hzk] at z0
  have t0 := (HV.out.text k hk)
  rw [htk] at t0
  have HK : Hid (o.k = k) := congrArg Po.k HO.out
  go_enter Tryd.func105, Tryd.ntmps105
  go_wp2_with fail
  refine (err_any _ c 0 H.out.cur.cell2).mono ?_
  rintro e w1 ⟨rfl, rfl⟩
  go_wp2_with fail
  refine wp_region_held_drew (S := fun w' => w'.cell? ⟨p, 0, none⟩ = some (.pointer (some ⟨c, 0, none⟩)) ∧ w'.cell? ⟨g, 0, none⟩ = some (.int .i64 k)) (by kernel_rfl) ?_ (fun hHeld => ?_)
  · exact ⟨H.out.r.cell 0, (H.out.row.cell 0).trans (by rw [o.at0, HK.out])⟩
  refine wpAnyH_take (i := 0) (oi := _) (v := ?va0) rfl (by kernel_rfl) (by kernel_rfl) (by kernel_rfl) (fun _ _ _ h => h) (Or.inl ⟨by rfl, ?hya0⟩) (by assumption) ?resta0
  case hya0 => (intro w hSw; (try dsimp only at hSw); go_split_ands; go_simp; try (with_reducible rfl))
  try simp only [List.getElem_toArray, List.getElem_cons_zero, List.getElem_cons_succ, Act.put, List.setIfInBounds_toArray, List.set_cons_zero, List.set_cons_succ]
  refine wpAnyH_take (i := 1) (oi := _) (v := ?va1) rfl (by kernel_rfl) (by kernel_rfl) (by kernel_rfl) (fun _ _ _ h => h) (Or.inl ⟨by rfl, ?hya1⟩) (by assumption) ?resta1
  case hya1 => (intro w hSw; (try dsimp only at hSw); go_split_ands; go_simp; try (with_reducible rfl))
  try simp only [List.getElem_toArray, List.getElem_cons_zero, List.getElem_cons_succ, Act.put, List.setIfInBounds_toArray, List.set_cons_zero, List.set_cons_succ]
  refine wpAnyH_take (i := 2) (oi := _) (v := ?va2) rfl (by kernel_rfl) (by kernel_rfl) (by kernel_rfl) (fun _ _ _ h => h) (Or.inl ⟨by rfl, ?hya2⟩) (by assumption) ?resta2
  case hya2 => (intro w hSw; (try dsimp only at hSw); go_split_ands; go_simp; try (with_reducible rfl))
  try simp only [List.getElem_toArray, List.getElem_cons_zero, List.getElem_cons_succ, Act.put, List.setIfInBounds_toArray, List.set_cons_zero, List.set_cons_succ]
  refine wpAnyH_take (i := 3) (oi := _) (v := ?va3) rfl (by kernel_rfl) (by kernel_rfl) (by kernel_rfl) (fun _ _ _ h => h) (Or.inl ⟨by rfl, ?hya3⟩) (by assumption) ?resta3
  case hya3 => (intro w hSw; (try dsimp only at hSw); go_split_ands; go_simp; try (with_reducible rfl))
  try simp only [List.getElem_toArray, List.getElem_cons_zero, List.getElem_cons_succ, Act.put, List.setIfInBounds_toArray, List.set_cons_zero, List.set_cons_succ]
  refine wpAnyH_take (i := 5) (oi := _) (v := ?va5) rfl (by kernel_rfl) (by kernel_rfl) (by kernel_rfl) (fun _ _ _ h => h) (Or.inl ⟨by rfl, ?hya5⟩) (by assumption) ?resta5
  case hya5 => (intro w hSw; (try dsimp only at hSw); go_split_ands; go_simp; try (with_reducible rfl))
  try simp only [List.getElem_toArray, List.getElem_cons_zero, List.getElem_cons_succ, Act.put, List.setIfInBounds_toArray, List.set_cons_zero, List.set_cons_succ]
  refine wpAnyH_take (i := 6) (oi := _) (v := ?va6) rfl (by kernel_rfl) (by kernel_rfl) (by kernel_rfl) (fun _ _ _ h => h) (Or.inl ⟨by rfl, ?hya6⟩) (by assumption) ?resta6
  case hya6 => (intro w hSw; (try dsimp only at hSw); go_split_ands; go_simp; try (with_reducible rfl))
  try simp only [List.getElem_toArray, List.getElem_cons_zero, List.getElem_cons_succ, Act.put, List.setIfInBounds_toArray, List.set_cons_zero, List.set_cons_succ]
  refine wpAnyH_take (i := 7) (oi := _) (v := ?va7) rfl (by kernel_rfl) (by kernel_rfl) (by kernel_rfl) (fun _ _ _ h => h) (Or.inl ⟨by rfl, ?hya7⟩) (by assumption) ?resta7
  case hya7 => (intro w hSw; (try dsimp only at hSw); go_split_ands; go_simp; try (with_reducible rfl))
  try simp only [List.getElem_toArray, List.getElem_cons_zero, List.getElem_cons_succ, Act.put, List.setIfInBounds_toArray, List.set_cons_zero, List.set_cons_succ]
  refine wpAnyH_take (i := 8) (oi := _) (v := ?va8) rfl (by kernel_rfl) (by kernel_rfl) (by kernel_rfl) (fun _ _ _ h => h) (Or.inl ⟨by rfl, ?hya8⟩) (by assumption) ?resta8
  case hya8 => (intro w hSw; (try dsimp only at hSw); go_split_ands; go_simp; try (with_reducible rfl))
  try simp only [List.getElem_toArray, List.getElem_cons_zero, List.getElem_cons_succ, Act.put, List.setIfInBounds_toArray, List.set_cons_zero, List.set_cons_succ]
  refine wpAnyH_ready (rs := [4]) (by kernel_rfl) (by simp) ?_
  refine AllReadyH.cons (o := _) rfl (fun K hK => ?_) AllReadyH.nil
  go_simp
  refine (left_any _ c a len cap 0 l 0 (H.out.cur.drewN _)).mono ?_
  rintro e w2 ⟨rfl, q, rfl⟩
  have HL : Hid ((len : Int) - ((0 : Nat) : Int) = len) := by rw [Hid]; omega
  rw [HL.out]
  go_wp2_with fail
  refine hK.out _ _ ⟨H.out.r.cell 0, (H.out.row.cell 0).trans (by rw [o.at0, HK.out])⟩ (fun hHeld => ?_)
  clear hK K
  try simp only [List.getElem_toArray, List.getElem_cons_zero, List.getElem_cons_succ, Act.put, List.setIfInBounds_toArray, List.set_cons_zero, List.set_cons_succ]
  refine wpAnyH_ready (rs := [9]) (by kernel_rfl) (by simp) ?_
  refine AllReadyH.cons (o := _) rfl (fun K hK => ?_) AllReadyH.nil
  go_simp
  refine (partsSize_any k hk _ (HV.out.drewN _)).mono ?_
  rintro e w3 ⟨rfl, hb⟩
  have H3 := hid ((H.out.drewN _).on hb)
  clear hb
  generalize hsm : sumP (prt k) = sm at *
  have HSm := hid hsm
  clear hsm
  go_wp2_with fail
  refine hK.out _ _ ⟨H3.out.r.cell 0, (H3.out.row.cell 0).trans (by rw [o.at0, HK.out])⟩ (fun hHeld => ?_)
  clear hK K
  try simp only [List.getElem_toArray, List.getElem_cons_zero, List.getElem_cons_succ, Act.put, List.setIfInBounds_toArray, List.set_cons_zero, List.set_cons_succ]
  refine wpAnyH_take (i := 10) (oi := _) (v := ?va10) rfl (by kernel_rfl) (by kernel_rfl) (by kernel_rfl) (fun _ _ _ h => h) (Or.inl ⟨by rfl, ?hya10⟩) (by assumption) ?resta10
  case hya10 => (intro w hSw; (try dsimp only at hSw); go_split_ands; go_simp; try (with_reducible rfl))
  try simp only [List.getElem_toArray, List.getElem_cons_zero, List.getElem_cons_succ, Act.put, List.setIfInBounds_toArray, List.set_cons_zero, List.set_cons_succ]
  refine wpAnyH_take (i := 11) (oi := _) (v := ?va11) rfl (by kernel_rfl) (by kernel_rfl) (by kernel_rfl) (fun _ _ _ h => h) (Or.inl ⟨by rfl, ?hya11⟩) (by assumption) ?resta11
  case hya11 => (intro w hSw; (try dsimp only at hSw); go_split_ands; go_simp; try (with_reducible rfl))
  try simp only [List.getElem_toArray, List.getElem_cons_zero, List.getElem_cons_succ, Act.put, List.setIfInBounds_toArray, List.set_cons_zero, List.set_cons_succ]
  refine wpAnyH_done (by kernel_rfl) ?_ _
  go_wp2_with fail
  refine (spoil_any _ c a len cap 0 l 0 3 H3.out.cur).mono ?_
  rintro e w4 ⟨rfl, hc, hg, hs⟩
  have H4 := hid (H3.out.read hc hg)
  clear hc hg hs
  go_wp2_with fail
  go_returns
  exact ⟨rfl, 0, _, o, H4.out, by rw [HP.out, HO.out], by rw [HE.out]; rfl⟩

set_option maxRecDepth 100000 in
theorem fill_parts {B base : Nat} (k : Nat) (hk : k < 10) (w w0 : World) (p c g : Nat) (gv : Value) (a : Option Addr) (len cap : Nat) (l : List Int) (o : Ov) (h : RdAt base w w0 p c g gv a len cap l 0 0 o) (hop : o.p = ⟨k, [], zeros, []⟩) (hV : Vars B w0) (hB : B ≤ base) (hzk : zer k = false) (htk : txb k = false) (hsum : sumP (prt k) = len) :
    Calls Tryd.prog 105 #[.pointer (some ⟨p, 0, none⟩), .pointer (some ⟨g, 0, none⟩)] w0 fun e w' => e = .returned (.tuple #[]) ∧ Hid (FilOk base w w' p c g gv a len cap l 0 k) := by
  have H := hid h
  have HV := hid hV
  have HO := hid hop
  have c0 : w0.cell? ⟨g, 0, none⟩ = some (.int .i64 k) := by rw [(h.row.cell 0).trans o.at0, show o.k = k from congrArg Po.k hop]
  have p0 := h.r.cell 0
  simp only [List.getElem?_toArray, List.getElem?_cons_zero] at p0
  have HLl : Hid (l.length = len) := h.cur.lies.1
  clear h hV hop

  have HE : Hid (filE k l 0 = 0) := by simp [Hid, filE, hzk, htk, HLl.out, hsum]
  have HP : Hid (filP k l 0 = ⟨k, (stps l (prt k)).2.1, (stps l (prt k)).2.2, []⟩) := by simp [Hid, filP, hzk, htk, HLl.out, hsum]
  have hne : ((len : Int) != sumP (prt k)) = false := by rw [hsum]; simp
  have HSum := hid hsum
  clear hsum
  have z0 := (HV.out.zeros k hk)
  rw [hzk] at z0
  have t0 := (HV.out.text k hk)
  rw [htk] at t0
  have HK : Hid (o.k = k) := congrArg Po.k HO.out
  go_enter Tryd.func105, Tryd.ntmps105
  go_wp2_with fail
  refine (err_any _ c 0 H.out.cur.cell2).mono ?_
  rintro e w1 ⟨rfl, rfl⟩
  go_wp2_with fail
  refine wp_region_held_drew (S := fun w' => w'.cell? ⟨p, 0, none⟩ = some (.pointer (some ⟨c, 0, none⟩)) ∧ w'.cell? ⟨g, 0, none⟩ = some (.int .i64 k)) (by kernel_rfl) ?_ (fun hHeld => ?_)
  · exact ⟨H.out.r.cell 0, (H.out.row.cell 0).trans (by rw [o.at0, HK.out])⟩
  refine wpAnyH_take (i := 0) (oi := _) (v := ?va0) rfl (by kernel_rfl) (by kernel_rfl) (by kernel_rfl) (fun _ _ _ h => h) (Or.inl ⟨by rfl, ?hya0⟩) (by assumption) ?resta0
  case hya0 => (intro w hSw; (try dsimp only at hSw); go_split_ands; go_simp; try (with_reducible rfl))
  try simp only [List.getElem_toArray, List.getElem_cons_zero, List.getElem_cons_succ, Act.put, List.setIfInBounds_toArray, List.set_cons_zero, List.set_cons_succ]
  refine wpAnyH_take (i := 1) (oi := _) (v := ?va1) rfl (by kernel_rfl) (by kernel_rfl) (by kernel_rfl) (fun _ _ _ h => h) (Or.inl ⟨by rfl, ?hya1⟩) (by assumption) ?resta1
  case hya1 => (intro w hSw; (try dsimp only at hSw); go_split_ands; go_simp; try (with_reducible rfl))
  try simp only [List.getElem_toArray, List.getElem_cons_zero, List.getElem_cons_succ, Act.put, List.setIfInBounds_toArray, List.set_cons_zero, List.set_cons_succ]
  refine wpAnyH_take (i := 2) (oi := _) (v := ?va2) rfl (by kernel_rfl) (by kernel_rfl) (by kernel_rfl) (fun _ _ _ h => h) (Or.inl ⟨by rfl, ?hya2⟩) (by assumption) ?resta2
  case hya2 => (intro w hSw; (try dsimp only at hSw); go_split_ands; go_simp; try (with_reducible rfl))
  try simp only [List.getElem_toArray, List.getElem_cons_zero, List.getElem_cons_succ, Act.put, List.setIfInBounds_toArray, List.set_cons_zero, List.set_cons_succ]
  refine wpAnyH_take (i := 3) (oi := _) (v := ?va3) rfl (by kernel_rfl) (by kernel_rfl) (by kernel_rfl) (fun _ _ _ h => h) (Or.inl ⟨by rfl, ?hya3⟩) (by assumption) ?resta3
  case hya3 => (intro w hSw; (try dsimp only at hSw); go_split_ands; go_simp; try (with_reducible rfl))
  try simp only [List.getElem_toArray, List.getElem_cons_zero, List.getElem_cons_succ, Act.put, List.setIfInBounds_toArray, List.set_cons_zero, List.set_cons_succ]
  refine wpAnyH_take (i := 5) (oi := _) (v := ?va5) rfl (by kernel_rfl) (by kernel_rfl) (by kernel_rfl) (fun _ _ _ h => h) (Or.inl ⟨by rfl, ?hya5⟩) (by assumption) ?resta5
  case hya5 => (intro w hSw; (try dsimp only at hSw); go_split_ands; go_simp; try (with_reducible rfl))
  try simp only [List.getElem_toArray, List.getElem_cons_zero, List.getElem_cons_succ, Act.put, List.setIfInBounds_toArray, List.set_cons_zero, List.set_cons_succ]
  refine wpAnyH_take (i := 6) (oi := _) (v := ?va6) rfl (by kernel_rfl) (by kernel_rfl) (by kernel_rfl) (fun _ _ _ h => h) (Or.inl ⟨by rfl, ?hya6⟩) (by assumption) ?resta6
  case hya6 => (intro w hSw; (try dsimp only at hSw); go_split_ands; go_simp; try (with_reducible rfl))
  try simp only [List.getElem_toArray, List.getElem_cons_zero, List.getElem_cons_succ, Act.put, List.setIfInBounds_toArray, List.set_cons_zero, List.set_cons_succ]
  refine wpAnyH_take (i := 7) (oi := _) (v := ?va7) rfl (by kernel_rfl) (by kernel_rfl) (by kernel_rfl) (fun _ _ _ h => h) (Or.inl ⟨by rfl, ?hya7⟩) (by assumption) ?resta7
  case hya7 => (intro w hSw; (try dsimp only at hSw); go_split_ands; go_simp; try (with_reducible rfl))
  try simp only [List.getElem_toArray, List.getElem_cons_zero, List.getElem_cons_succ, Act.put, List.setIfInBounds_toArray, List.set_cons_zero, List.set_cons_succ]
  refine wpAnyH_take (i := 8) (oi := _) (v := ?va8) rfl (by kernel_rfl) (by kernel_rfl) (by kernel_rfl) (fun _ _ _ h => h) (Or.inl ⟨by rfl, ?hya8⟩) (by assumption) ?resta8
  case hya8 => (intro w hSw; (try dsimp only at hSw); go_split_ands; go_simp; try (with_reducible rfl))
  try simp only [List.getElem_toArray, List.getElem_cons_zero, List.getElem_cons_succ, Act.put, List.setIfInBounds_toArray, List.set_cons_zero, List.set_cons_succ]
  refine wpAnyH_ready (rs := [4]) (by kernel_rfl) (by simp) ?_
  refine AllReadyH.cons (o := _) rfl (fun K hK => ?_) AllReadyH.nil
  go_simp
  refine (left_any _ c a len cap 0 l 0 (H.out.cur.drewN _)).mono ?_
  rintro e w2 ⟨rfl, q, rfl⟩
  have HL : Hid ((len : Int) - ((0 : Nat) : Int) = len) := by rw [Hid]; omega
  rw [HL.out]
  go_wp2_with fail
  refine hK.out _ _ ⟨H.out.r.cell 0, (H.out.row.cell 0).trans (by rw [o.at0, HK.out])⟩ (fun hHeld => ?_)
  clear hK K
  try simp only [List.getElem_toArray, List.getElem_cons_zero, List.getElem_cons_succ, Act.put, List.setIfInBounds_toArray, List.set_cons_zero, List.set_cons_succ]
  refine wpAnyH_ready (rs := [9]) (by kernel_rfl) (by simp) ?_
  refine AllReadyH.cons (o := _) rfl (fun K hK => ?_) AllReadyH.nil
  go_simp
  refine (partsSize_any k hk _ (HV.out.drewN _)).mono ?_
  rintro e w3 ⟨rfl, hb⟩
  have H3 := hid ((H.out.drewN _).on hb)
  clear hb
  generalize hsm : sumP (prt k) = sm at *
  have HSm := hid hsm
  clear hsm
  go_wp2_with fail
  refine hK.out _ _ ⟨H3.out.r.cell 0, (H3.out.row.cell 0).trans (by rw [o.at0, HK.out])⟩ (fun hHeld => ?_)
  clear hK K
  try simp only [List.getElem_toArray, List.getElem_cons_zero, List.getElem_cons_succ, Act.put, List.setIfInBounds_toArray, List.set_cons_zero, List.set_cons_succ]
  refine wpAnyH_take (i := 10) (oi := _) (v := ?va10) rfl (by kernel_rfl) (by kernel_rfl) (by kernel_rfl) (fun _ _ _ h => h) (Or.inl ⟨by rfl, ?hya10⟩) (by assumption) ?resta10
  case hya10 => (intro w hSw; (try dsimp only at hSw); go_split_ands; go_simp; try (with_reducible rfl))
  try simp only [List.getElem_toArray, List.getElem_cons_zero, List.getElem_cons_succ, Act.put, List.setIfInBounds_toArray, List.set_cons_zero, List.set_cons_succ]
  refine wpAnyH_take (i := 11) (oi := _) (v := ?va11) rfl (by kernel_rfl) (by kernel_rfl) (by kernel_rfl) (fun _ _ _ h => h) (Or.inl ⟨by rfl, ?hya11⟩) (by assumption) ?resta11
  case hya11 => (intro w hSw; (try dsimp only at hSw); go_split_ands; go_simp; try (with_reducible rfl))
  try simp only [List.getElem_toArray, List.getElem_cons_zero, List.getElem_cons_succ, Act.put, List.setIfInBounds_toArray, List.set_cons_zero, List.set_cons_succ]
  refine wpAnyH_done (by kernel_rfl) ?_ _
  go_wp2_with fail
  refine (takeParts_any k hk w _ p c g gv a len cap l o H3.out HO.out (HV.out.rd H.out.below H3.out.below hB H3.out.size) hB (HSm.out.trans HSum.out)).mono ?_
  rintro e w4 ⟨rfl, ht⟩
  go_wp2_with fail
  go_returns
  obtain ⟨o4, h4, hp4⟩ := ht.out
  refine ⟨rfl, _, 0, o4, h4, by rw [HP.out, hp4], ?_⟩
  have e1 := stps_at l (prt k) (prt_all k hk).1 (prt k).length (Nat.le_refl _)
  rw [List.take_of_length_le (Nat.le_refl _), HSm.out, HSum.out] at e1
  have e2 : (stps l (prt k)).1 = len := by omega
  rw [e2, HE.out, Nat.sub_self]; rfl

theorem fill_any {B base : Nat} (k : Nat) (hk : k < 10) (w w0 : World) (p c g : Nat) (gv : Value) (a : Option Addr) (len cap : Nat) (l : List Int) (o : Ov) (er : Int) (h : RdAt base w w0 p c g gv a len cap l 0 er o) (hop : o.p = ⟨k, [], zeros, []⟩) (hV : Vars B w0) (hB : B ≤ base) :
    Calls Tryd.prog 105 #[.pointer (some ⟨p, 0, none⟩), .pointer (some ⟨g, 0, none⟩)] w0 fun e w' => e = .returned (.tuple #[]) ∧ Hid (FilOk base w w' p c g gv a len cap l er k) := by
  by_cases her : er = 0
  · subst her
    cases hzk : zer k
    · cases htk : txb k
      · by_cases hs : sumP (prt k) = len
        · exact fill_parts k hk w w0 p c g gv a len cap l o h hop hV hB hzk htk hs
        · exact fill_short k hk w w0 p c g gv a len cap l o h hop hV hB hzk htk hs
      · exact fill_text k hk w w0 p c g gv a len cap l o h hop hV hB hzk htk
    · exact fill_zeros k hk w w0 p c g gv a len cap l o h hop hV hB hzk
  · exact fill_was k hk w w0 p c g gv a len cap l o er h hop hV hB her
end Go.Proofs.YtbfjkhafdkhhmaaDoor

namespace Go.Proofs.YtbfjkhafdkhhmaaDoor
open Go.ChangeShapes Go.WideShapes Go.ChangeAt Go.RowKit Go.Deep
set_option linter.unusedVariables false
set_option linter.unusedSimpArgs false

/-- The reader of Decode in memory. -/
structure NxAt (base : Nat) (w wr : World) (p c : Nat) (a : Option Addr) (len cap : Nat) (l : List Int) (at_ : Nat) (er : Int) (gv : Value) (L : List Ov) : Prop where
  r : Row wr p 153 #[.pointer (some ⟨c, 0, none⟩), gv]
  cur : CurAt wr c a len cap l at_ er
  win : wr.ownsRow base 5 1 (.slice a len cap) len (u8s l)
  got : wr.ownsRow base 54 19 gv L.length (ocs L)
  own : ∀ o ∈ L, Own2 base wr o
  below : Below base w wr
  hc : base ≤ c
  hp : base ≤ p
section
variable {base : Nat} {w wr w' : World} {p c : Nat} {a : Option Addr} {len cap : Nat} {l : List Int} {at_ : Nat} {er : Int} {gv : Value} {L : List Ov}
theorem NxAt.size (h : NxAt base w wr p c a len cap l at_ er gv L) : base ≤ wr.heap.size := Nat.le_of_lt (Nat.lt_of_le_of_lt h.hc h.cur.lt)
theorem NxAt.read (h : NxAt base w wr p c a len cap l at_ er gv L) {at2 : Nat} {er2 : Int} (hc : CurAt w' c a len cap l at2 er2) (hg : wr.grownBy w' (some c)) : NxAt base w w' p c a len cap l at2 er2 gv L :=
  ⟨h.r.kept hg (fun e => h.r.ne h.cur.row (by decide) (Option.some.inj e)), hc, h.win.kept hg (.inr (own_row h.win h.cur.row (by decide))), h.got.kept hg (.inr (own_row h.got h.cur.row (by decide))), fun o ho => (h.own o ho).row h.cur.row (by decide) (by decide) hg,
    Below.grown h.below hg h.size (fun k hk => by cases hk; exact h.hc), h.hc, h.hp⟩
theorem NxAt.on (h : NxAt base w wr p c a len cap l at_ er gv L) (hb : Below wr.heap.size wr w') : NxAt base w w' p c a len cap l at_ er gv L :=
  h.read (h.cur.below hb) ⟨hb.os, hb.tape, hb.output, hb.size, fun k hk _ => hb.block k hk⟩
theorem NxAt.drewN (h : NxAt base w wr p c a len cap l at_ er gv L) (q : Nat) : NxAt base w (wr.drewN q) p c a len cap l at_ er gv L := h.on (bdrew (Below.refl _ _) q)
/-- An option more is appended (world w'), and the list laid in. -/
theorem NxAt.app (h : NxAt base w wr p c a len cap l at_ er gv L) (hg : wr.grownBy w' gv.ownBlock) : Row w' p 153 #[.pointer (some ⟨c, 0, none⟩), gv] ∧ CurAt w' c a len cap l at_ er ∧ w'.ownsRow base 5 1 (.slice a len cap) len (u8s l) ∧ (∀ o ∈ L, Own2 base w' o) ∧ Below base w w' := by
  have hw := own_apart h.win h.got (by decide)
  refine ⟨h.r.kept hg (fun e => own_row h.got h.r (by decide) e.symm), h.cur.other (fun e => own_row h.got h.cur.row (by decide) e.symm) ?_ hg, h.win.kept hg hw, fun o ho => (h.own o ho).kept h.got (by decide) (by decide) hg, Below.grown h.below hg h.size (fun k hk => (h.got.lt k hk).1)⟩
  intro ad e
  rcases hw with hw | hw
  · rw [e] at hw; simp [Value.ownBlock] at hw
  · rw [e] at hw; exact hw
theorem NxAt.push (h : NxAt base w wr p c a len cap l at_ er gv L) (hg : wr.grownBy w' gv.ownBlock) (o : Ov) (ho : Own2 base wr o) (gv2 : Value) (hn : w'.ownsRow base 54 19 gv2 (L.length + 1) (ocs L ++ o.cs.toList)) :
    NxAt base w (w'.setCell ⟨p, 1, none⟩ gv2) p c a len cap l at_ er gv2 (L ++ [o]) := by
  obtain ⟨h1, h2, h3, h4, h5⟩ := h.app hg
  have hs := grownBy_setCell w' p 1 gv2
  have ho2 := ho.kept h.got (by decide) (by decide) hg
  have hown : ∀ x, Own2 base w' x → Own2 base (w'.setCell ⟨p, 1, none⟩ gv2) x := fun x hx => hx.row h1 (by decide) (by decide) hs
  refine ⟨h1.set 1 gv2, h2.other (fun e => h2.row.ne h1 (by decide) (Option.some.inj e)) (fun ad e => by have := own_row h3 h1 (by decide); rw [e] at this; exact this) hs, h3.kept hs (.inr (own_row h3 h1 (by decide))), ?_, ?_,
    Below.grown h5 hs (Nat.le_of_lt (Nat.lt_of_le_of_lt h.hp h1.lt)) (fun k hk => by cases hk; exact h.hp), h.hc, h.hp⟩
  · have := hn.kept hs (.inr (own_row hn h1 (by decide)))
    rw [List.length_append, ocs_snoc2]
    exact this
  · intro x hx
    rcases List.mem_append.1 hx with hx | hx
    · exact hown x (h4 x hx)
    · rw [List.mem_singleton.1 hx]; exact hown o ho2
end
/-- What is wrong behind one option more, what it is, and how many bytes it has. -/
def nxK (m : List Int) : Int := numOf (m.take 1)
def nxL (m : List Int) : Int := takeV 1 m 1 m.length 0
def nxE1 (m : List Int) : Int := rdE 1 1 (m.length - 1) 0
def nxE2 (m : List Int) : Int := rdE 1 (nxL m) (m.length - (1 + rdN 1 1 (m.length - 1) 0)) (nxE1 m)
def nxN2 (m : List Int) : Nat := rdN 1 (nxL m) (m.length - (1 + rdN 1 1 (m.length - 1) 0)) (nxE1 m)
def nxC (m : List Int) : List Int := (m.drop (1 + rdN 1 1 (m.length - 1) 0)).take (nxN2 m)
def nxP (m : List Int) : Po := if nxK m = 0 then ⟨0, [], zeros, []⟩ else filP (nxK m).toNat (nxC m) (nxE2 m)
def nxE (n : Nat) (m : List Int) : Int :=
  if n = 16 then 2 else if kndB (nxK m) = false then 6 else if nxK m = 0 then chkP (nxP m) else spE (spE (nxE2 m) (filE (nxK m).toNat (nxC m) (nxE2 m))) (chkP (nxP m))
def nxN (m : List Int) : Nat := if nxK m = 0 then 1 else 1 + rdN 1 1 (m.length - 1) 0 + nxN2 m
def NxOk (base : Nat) (w w' : World) (p c : Nat) (a : Option Addr) (len cap : Nat) (l : List Int) (at_ : Nat) (L : List Ov) : Prop :=
  ∃ at2 er2 gv2 L2, NxAt base w w' p c a len cap l at2 er2 gv2 L2 ∧ er2 = nxE L.length (l.drop at_) ∧ L2.length ≤ 16 ∧ (er2 = 0 → pos L2 = pos L ++ [nxP (l.drop at_)] ∧ at2 = at_ + nxN (l.drop at_))
end Go.Proofs.YtbfjkhafdkhhmaaDoor
