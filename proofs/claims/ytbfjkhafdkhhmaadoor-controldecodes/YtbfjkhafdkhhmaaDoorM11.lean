/- Reading: fill. · Options of some kinds: Find, Without. -/
import Derived.Test.YtbfjkhafdkhhmaaDoorOpTk2
import Derived.Test.YtbfjkhafdkhhmaaDoorM5
import Derived.Test.YtbfjkhafdkhhmaaDoorM7
namespace Go.Proofs.YtbfjkhafdkhhmaaDoor
open Go.ChangeShapes Go.WideShapes Go.ChangeAt Go.RowKit Go.Deep
set_option linter.unusedVariables false
set_option linter.unusedSimpArgs false

def filE (k : Nat) (l : List Int) (er : Int) : Int := if er = 0 then (if zer k = true then zerE l else if txb k = true then 0 else if sumP (prt k) = l.length then 0 else 3) else er
def filP (k : Nat) (l : List Int) (er : Int) : Po := if er = 0 then (if zer k = true then ⟨k, [(l.length : Int)], zeros, []⟩ else if txb k = true then ⟨k, [], zeros, l⟩ else if sumP (prt k) = l.length then ⟨k, (stps l (prt k)).2.1, (stps l (prt k)).2.2, []⟩ else ⟨k, [], zeros, []⟩) else ⟨k, [], zeros, []⟩
def FilOk (base : Nat) (w wr : World) (p c g : Nat) (gv : Value) (a : Option Addr) (len cap : Nat) (l : List Int) (er : Int) (k : Nat) : Prop :=
  ∃ at2 er2 o2, RdAt base w wr p c g gv a len cap l at2 er2 o2 ∧ o2.p = filP k l er ∧ closeV (len - at2) er2 = filE k l er
theorem Vars.rd {B base : Nat} {w w0 w1 : World} (hV : Vars B w0) (h0 : Below base w w0) (h1 : Below base w w1) (hB : B ≤ base) (hs : base ≤ w1.heap.size) : Vars B w1 := by
  have hc : ∀ b o, b < B → w1.cell? ⟨b, o, none⟩ = w0.cell? ⟨b, o, none⟩ := fun b o hb => (h1.cell (p := ⟨b, o, none⟩) (Nat.lt_of_lt_of_le hb hB)).trans (h0.cell (p := ⟨b, o, none⟩) (Nat.lt_of_lt_of_le hb hB)).symm
  exact ⟨hV.pos, Nat.le_trans hB hs, fun k hk => (hc _ _ hV.pos).trans (hV.word k hk), fun k hk => by
    obtain ⟨a, n, cap, h1, h2⟩ := hV.parts k hk
    exact ⟨a, n, cap, (hc _ _ hV.pos).trans h1, h2.same hc⟩, fun k hk => (hc _ _ hV.pos).trans (hV.zeros k hk), fun k hk => (hc _ _ hV.pos).trans (hV.text k hk)⟩
theorem fill_was {B base : Nat} (k : Nat) (hk : k < 10) (w w0 : World) (p c g : Nat) (gv : Value) (a : Option Addr) (len cap : Nat) (l : List Int) (o : Ov) (er : Int) (h : RdAt base w w0 p c g gv a len cap l 0 er o) (hop : o.p = ⟨k, [], zeros, []⟩) (hV : Vars B w0) (hB : B ≤ base) (her : er ≠ 0) :
    Calls Tryd.prog 105 #[.pointer (some ⟨p, 0, none⟩), .pointer (some ⟨g, 0, none⟩)] w0 fun e w' => e = .returned (.tuple #[]) ∧ Hid (FilOk base w w' p c g gv a len cap l er k) := by
  have H := hid h
  have HV := hid hV
  have HO := hid hop
  have c0 : w0.cell? ⟨g, 0, none⟩ = some (.int .i64 k) := by rw [(h.row.cell 0).trans o.at0, show o.k = k from congrArg Po.k hop]
  have p0 := h.r.cell 0
  simp only [List.getElem?_toArray, List.getElem?_cons_zero] at p0
  have HLl : Hid (l.length = len) := h.cur.lies.1
  clear h hV hop

  have he : (er != 0) = true := by rw [bne_iff_ne]; exact her
  have HE : Hid (filE k l er = er) := by simp [Hid, filE, her]
  have HP : Hid (filP k l er = ⟨k, [], zeros, []⟩) := by simp [Hid, filP, her]
  have HC : Hid (closeV (len - 0) er = er) := by simp [Hid, closeV, her]
  have HER := hid her
  clear her
  go_enter Tryd.func105, Tryd.ntmps105
  go_wp2_with fail
  refine (err_any _ c er H.out.cur.cell2).mono ?_
  rintro e w1 ⟨rfl, rfl⟩
  go_wp2_with fail
  go_returns
  exact ⟨rfl, 0, er, o, H.out, by rw [HP.out, HO.out], by rw [HC.out, HE.out]⟩
theorem fill_zeros {B base : Nat} (k : Nat) (hk : k < 10) (w w0 : World) (p c g : Nat) (gv : Value) (a : Option Addr) (len cap : Nat) (l : List Int) (o : Ov) (h : RdAt base w w0 p c g gv a len cap l 0 0 o) (hop : o.p = ⟨k, [], zeros, []⟩) (hV : Vars B w0) (hB : B ≤ base) (hzk : zer k = true) :
    Calls Tryd.prog 105 #[.pointer (some ⟨p, 0, none⟩), .pointer (some ⟨g, 0, none⟩)] w0 fun e w' => e = .returned (.tuple #[]) ∧ Hid (FilOk base w w' p c g gv a len cap l 0 k) := by
  have H := hid h
  have HV := hid hV
  have HO := hid hop
  have c0 : w0.cell? ⟨g, 0, none⟩ = some (.int .i64 k) := by rw [(h.row.cell 0).trans o.at0, show o.k = k from congrArg Po.k hop]
  have p0 := h.r.cell 0
  simp only [List.getElem?_toArray, List.getElem?_cons_zero] at p0
  have HLl : Hid (l.length = len) := h.cur.lies.1
  clear h hV hop

  have HE : Hid (filE k l 0 = zerE l) := by simp [Hid, filE, hzk]
  have HP : Hid (filP k l 0 = ⟨k, [(len : Int)], zeros, []⟩) := by simp [Hid, filP, hzk, HLl.out]
  have z0 := (HV.out.zeros k hk)
  rw [hzk] at z0
  go_enter Tryd.func105, Tryd.ntmps105
  go_wp2_with fail
  refine (err_any _ c 0 H.out.cur.cell2).mono ?_
  rintro e w1 ⟨rfl, rfl⟩
  go_wp2_with fail
  refine (left_any _ c a len cap 0 l 0 H.out.cur).mono ?_
  rintro e w2 ⟨rfl, q, rfl⟩
  have HL : Hid ((len : Int) - ((0 : Nat) : Int) = len) := by rw [Hid]; omega
  rw [HL.out]
  have H1 := hid (H.out.drewN q)
  have H2 := hid (H1.out.on (balloc (Below.refl _ _) (.cells #[.int .i64 len] 3)))
  have O2 := hid (owns_lit (e := 3) (size := 1) (base := base) (w1.drewN q) #[.int .i64 len] 1 H1.out.size (by decide) (by simp))
  have H3 := hid (H2.out.setN _ _ [(len : Int)] O2.out)
  have f1 := H2.out.row.frozen 1
  have n1 := (H2.out.row.cell 1).trans o.at1
  have f1' : (w1.drewN q).frozen? ⟨g, 1, none⟩ = false := H1.out.row.frozen 1
  have H4 : Hid (RdAt base w (((w1.drewN q).alloc (.cells #[.int .i64 len] 3)).setCell ⟨g, 1, none⟩ (.slice (some ⟨w1.heap.size, 0, none⟩) 1 1)) p c g gv a len cap l 0 0 (o.setN ⟨some ⟨w1.heap.size, 0, none⟩, 1, 1, [(len : Int)]⟩)) := H3.out
  clear H2 O2 H3
  go_upto_region 4 with fail
  generalize (((w1.drewN q).alloc (.cells #[.int .i64 len] 3)).setCell ⟨g, 1, none⟩ (.slice (some ⟨w1.heap.size, 0, none⟩) 1 1)) = w5 at *
  have PP : Hid ((o.setN ⟨some ⟨w1.heap.size, 0, none⟩, 1, 1, [(len : Int)]⟩).p = ⟨k, [(len : Int)], zeros, []⟩) := by
    have := HO.out
    simp only [Ov.p, Po.mk.injEq] at this
    simp only [Hid, Ov.p, Ov.setN, this]
  generalize o.setN ⟨some ⟨w1.heap.size, 0, none⟩, 1, 1, [(len : Int)]⟩ = o5 at *
  go_wp2_with fail
  refine (skipZeros_any _ p c a len cap 0 l gv H4.out.r H4.out.cur).mono ?_
  rintro e w6 ⟨rfl, hc, hg⟩
  have H6 := hid (H4.out.read hc hg)
  clear hc hg
  go_wp2_with fail
  go_returns
  refine ⟨rfl, len, _, o5, H6.out, by rw [HP.out, PP.out], ?_⟩
  rw [HE.out, List.drop_zero, Nat.sub_self]
  unfold closeV zerE
  split <;> rfl

set_option maxRecDepth 100000 in
theorem fill_text {B base : Nat} (k : Nat) (hk : k < 10) (w w0 : World) (p c g : Nat) (gv : Value) (a : Option Addr) (len cap : Nat) (l : List Int) (o : Ov) (h : RdAt base w w0 p c g gv a len cap l 0 0 o) (hop : o.p = ⟨k, [], zeros, []⟩) (hV : Vars B w0) (hB : B ≤ base) (hzk : zer k = false) (htk : txb k = true) :
    Calls Tryd.prog 105 #[.pointer (some ⟨p, 0, none⟩), .pointer (some ⟨g, 0, none⟩)] w0 fun e w' => e = .returned (.tuple #[]) ∧ Hid (FilOk base w w' p c g gv a len cap l 0 k) := by
  have H := hid h
  have HV := hid hV
  have HO := hid hop
  have c0 : w0.cell? ⟨g, 0, none⟩ = some (.int .i64 k) := by rw [(h.row.cell 0).trans o.at0, show o.k = k from congrArg Po.k hop]
  have p0 := h.r.cell 0
  simp only [List.getElem?_toArray, List.getElem?_cons_zero] at p0
  have HLl : Hid (l.length = len) := h.cur.lies.1
  clear h hV hop

  have HE : Hid (filE k l 0 = 0) := by simp [Hid, filE, hzk, htk]
  have HP : Hid (filP k l 0 = ⟨k, [], zeros, l⟩) := by simp [Hid, filP, hzk, htk]
  have z0 := (HV.out.zeros k hk)
  rw [hzk] at z0
  have t0 := (HV.out.text k hk)
  rw [htk] at t0
  go_enter Tryd.func105, Tryd.ntmps105
  go_wp2_with fail
  refine (err_any _ c 0 H.out.cur.cell2).mono ?_
  rintro e w1 ⟨rfl, rfl⟩
  go_wp2_with fail
  refine wp_region_held_drew (S := fun w' => w'.cell? ⟨p, 0, none⟩ = some (.pointer (some ⟨c, 0, none⟩))) (by kernel_rfl) ?_ (fun hHeld => ?_)
  · exact H.out.r.cell 0
  refine wpAnyH_take (i := 0) (oi := _) (v := ?va0) rfl (by kernel_rfl) (by kernel_rfl) (by kernel_rfl) (fun _ _ _ h => h) (Or.inl ⟨by rfl, ?hya0⟩) (by assumption) ?resta0
  case hya0 => (intro w hSw; (try dsimp only at hSw); go_split_ands; go_simp; try (with_reducible rfl))
  try simp only [List.getElem_toArray, List.getElem_cons_zero, List.getElem_cons_succ, Act.put, List.setIfInBounds_toArray, List.set_cons_zero, List.set_cons_succ]
  refine wpAnyH_take (i := 1) (oi := _) (v := ?va1) rfl (by kernel_rfl) (by kernel_rfl) (by kernel_rfl) (fun _ _ _ h => h) (Or.inl ⟨by rfl, ?hya1⟩) (by assumption) ?resta1
  case hya1 => (intro w hSw; (try dsimp only at hSw); go_split_ands; go_simp; try (with_reducible rfl))
  try simp only [List.getElem_toArray, List.getElem_cons_zero, List.getElem_cons_succ, Act.put, List.setIfInBounds_toArray, List.set_cons_zero, List.set_cons_succ]
  refine wpAnyH_take (i := 2) (oi := _) (v := ?va2) rfl (by kernel_rfl) (by kernel_rfl) (by kernel_rfl) (fun _ _ _ h => h) (Or.inl ⟨by rfl, ?hya2⟩) (by assumption) ?resta2
  case hya2 => (intro w hSw; (try dsimp only at hSw); go_split_ands; go_simp; try (with_reducible rfl))
  try simp only [List.getElem_toArray, List.getElem_cons_zero, List.getElem_cons_succ, Act.put, List.setIfInBounds_toArray, List.set_cons_zero, List.set_cons_succ]
  refine wpAnyH_take (i := 3) (oi := _) (v := ?va3) rfl (by kernel_rfl) (by kernel_rfl) (by kernel_rfl) (fun _ _ _ h => h) (Or.inl ⟨by rfl, ?hya3⟩) (by assumption) ?resta3
  case hya3 => (intro w hSw; (try dsimp only at hSw); go_split_ands; go_simp; try (with_reducible rfl))
  try simp only [List.getElem_toArray, List.getElem_cons_zero, List.getElem_cons_succ, Act.put, List.setIfInBounds_toArray, List.set_cons_zero, List.set_cons_succ]
  refine wpAnyH_take (i := 4) (oi := _) (v := ?va4) rfl (by kernel_rfl) (by kernel_rfl) (by kernel_rfl) (fun _ _ _ h => h) (Or.inl ⟨by rfl, ?hya4⟩) (by assumption) ?resta4
  case hya4 => (intro w hSw; (try dsimp only at hSw); go_split_ands; go_simp; try (with_reducible rfl))
  try simp only [List.getElem_toArray, List.getElem_cons_zero, List.getElem_cons_succ, Act.put, List.setIfInBounds_toArray, List.set_cons_zero, List.set_cons_succ]
  refine wpAnyH_take (i := 5) (oi := _) (v := ?va5) rfl (by kernel_rfl) (by kernel_rfl) (by kernel_rfl) (fun _ _ _ h => h) (Or.inl ⟨by rfl, ?hya5⟩) (by assumption) ?resta5
  case hya5 => (intro w hSw; (try dsimp only at hSw); go_split_ands; go_simp; try (with_reducible rfl))
  try simp only [List.getElem_toArray, List.getElem_cons_zero, List.getElem_cons_succ, Act.put, List.setIfInBounds_toArray, List.set_cons_zero, List.set_cons_succ]
  refine wpAnyH_take (i := 6) (oi := _) (v := ?va6) rfl (by kernel_rfl) (by kernel_rfl) (by kernel_rfl) (fun _ _ _ h => h) (Or.inl ⟨by rfl, ?hya6⟩) (by assumption) ?resta6
  case hya6 => (intro w hSw; (try dsimp only at hSw); go_split_ands; go_simp; try (with_reducible rfl))
  try simp only [List.getElem_toArray, List.getElem_cons_zero, List.getElem_cons_succ, Act.put, List.setIfInBounds_toArray, List.set_cons_zero, List.set_cons_succ]
  refine wpAnyH_take (i := 7) (oi := _) (v := ?va7) rfl (by kernel_rfl) (by kernel_rfl) (by kernel_rfl) (fun _ _ _ h => h) (Or.inl ⟨by rfl, ?hya7⟩) (by assumption) ?resta7
  case hya7 => (intro w hSw; (try dsimp only at hSw); go_split_ands; go_simp; try (with_reducible rfl))
  try simp only [List.getElem_toArray, List.getElem_cons_zero, List.getElem_cons_succ, Act.put, List.setIfInBounds_toArray, List.set_cons_zero, List.set_cons_succ]
  refine wpAnyH_take (i := 8) (oi := _) (v := ?va8) rfl (by kernel_rfl) (by kernel_rfl) (by kernel_rfl) (fun _ _ _ h => h) (Or.inl ⟨by rfl, ?hya8⟩) (by assumption) ?resta8
  case hya8 => (intro w hSw; (try dsimp only at hSw); go_split_ands; go_simp; try (with_reducible rfl))
  try simp only [List.getElem_toArray, List.getElem_cons_zero, List.getElem_cons_succ, Act.put, List.setIfInBounds_toArray, List.set_cons_zero, List.set_cons_succ]
  refine wpAnyH_ready (rs := [9]) (by kernel_rfl) (by simp) ?_
  refine AllReadyH.cons (o := _) rfl (fun K hK => ?_) AllReadyH.nil
  go_simp
  refine (left_any _ c a len cap 0 l 0 (H.out.cur.drewN _)).mono ?_
  rintro e w2 ⟨rfl, q, rfl⟩
  go_wp2_with fail
  refine hK.out _ _ (H.out.r.cell 0) (fun hHeld => ?_)
  clear hK K
  try simp only [List.getElem_toArray, List.getElem_cons_zero, List.getElem_cons_succ, Act.put, List.setIfInBounds_toArray, List.set_cons_zero, List.set_cons_succ]
  refine wpAnyH_ready (rs := [10]) (by kernel_rfl) (by simp) ?_
  refine AllReadyH.cons (o := _) rfl (fun K hK => ?_) AllReadyH.nil
  go_simp
  refine (bytes_left _ c a len cap 0 l (H.out.cur.drewN _)).mono ?_
  rintro e w3 ⟨b, cp, rfl, hown, hl, hc, hg⟩
  have H3 := hid ((H.out.drewN _).read hc hg)
  have O3 : Hid (w3.ownsRow base 5 1 (.slice b l.length cp) l.length (u8s l)) := by
    rw [Hid, HLl.out]
    rw [List.drop_zero, Nat.sub_zero] at hown
    exact own_mono hown H.out.size
  clear hown hl hc hg
  rw [Nat.sub_zero]
  go_wp2_with fail
  refine hK.out _ _ (H3.out.r.cell 0) (fun hHeld => ?_)
  clear hK K
  try simp only [List.getElem_toArray, List.getElem_cons_zero, List.getElem_cons_succ, Act.put, List.setIfInBounds_toArray, List.set_cons_zero, List.set_cons_succ]
  refine wpAnyH_take (i := 11) (oi := _) (v := ?va11) rfl (by kernel_rfl) (by kernel_rfl) (by kernel_rfl) (fun _ _ _ h => h) (Or.inl ⟨by rfl, ?hya11⟩) (by assumption) ?resta11
  case hya11 => (intro w hSw; (try dsimp only at hSw); go_split_ands; go_simp; try (with_reducible rfl))
  try simp only [List.getElem_toArray, List.getElem_cons_zero, List.getElem_cons_succ, Act.put, List.setIfInBounds_toArray, List.set_cons_zero, List.set_cons_succ]
  refine wpAnyH_take (i := 12) (oi := _) (v := ?va12) rfl (by kernel_rfl) (by kernel_rfl) (by kernel_rfl) (fun _ _ _ h => h) (Or.inl ⟨by rfl, ?hya12⟩) (by assumption) ?resta12
  case hya12 => (intro w hSw; (try dsimp only at hSw); go_split_ands; go_simp; try (with_reducible rfl))
  try simp only [List.getElem_toArray, List.getElem_cons_zero, List.getElem_cons_succ, Act.put, List.setIfInBounds_toArray, List.set_cons_zero, List.set_cons_succ]
  have f1 := H3.out.row.frozen 18
  have n1 := (H3.out.row.cell 18).trans (Ov.at18 H3.out.own.ad)
  have H4 := hid (H3.out.setT b cp l O3.out H.out.cur.oct)
  rw [HLl.out] at H4
  refine wpAnyH_ready (rs := [13]) (by kernel_rfl) (by simp) ?_
  refine AllReadyH.cons (o := _) rfl (fun K hK => ?_) AllReadyH.nil
  go_simp
  go_wp2_with fail
  refine hK.out _ _ (H4.out.r.cell 0) (fun hHeld => ?_)
  clear hK K
  try simp only [List.getElem_toArray, List.getElem_cons_zero, List.getElem_cons_succ, Act.put, List.setIfInBounds_toArray, List.set_cons_zero, List.set_cons_succ]
  refine wpAnyH_done (by kernel_rfl) ?_ _
  go_wp2_with fail
  go_returns
  refine ⟨rfl, len, 0, _, H4.out, ?_, ?_⟩
  · rw [HP.out]
    have := HO.out
    simp only [Ov.p, Po.mk.injEq] at this
    simp only [Ov.p, Ov.setT, this]
  · rw [HE.out, Nat.sub_self]; rfl

set_option maxRecDepth 100000 in
theorem fill_short {B base : Nat} (k : Nat) (hk : k < 10) (w w0 : World) (p c g : Nat) (gv : Value) (a : Option Addr) (len cap : Nat) (l : List Int) (o : Ov) (h : RdAt base w w0 p c g gv a len cap l 0 0 o) (hop : o.p = ⟨k, [], zeros, []⟩) (hV : Vars B w0) (hB : B ≤ base) (hzk : zer k = false) (htk : txb k = false) (hsum : ¬ sumP (prt k) = len) :
    Calls Tryd.prog 105 #[.pointer (some ⟨p, 0, none⟩), .pointer (some ⟨g, 0, none⟩)] w0 fun e w' => e = .returned (.tuple #[]) ∧ Hid (FilOk base w w' p c g gv a len cap l 0 k) := by
  have H := hid h
  have HV := hid hV
  have HO := hid hop
  have c0 : w0.cell? ⟨g, 0, none⟩ = some (.int .i64 k) := by rw [(h.row.cell 0).trans o.at0, show o.k = k from congrArg Po.k hop]
  have p0 := h.r.cell 0
  simp only [List.getElem?_toArray, List.getElem?_cons_zero] at p0
  have HLl : Hid (l.length = len) := h.cur.lies.1
  clear h hV hop

  have HE : Hid (filE k l 0 = 3) := by simp [Hid, filE, hzk, htk, HLl.out, hsum]
  have HP : Hid (filP k l 0 = ⟨k, [], zeros, []⟩) := by simp [Hid, filP, hzk, htk, HLl.out, hsum]
  have hne : ((len : Int) != sumP (prt k)) = true := by rw [bne_iff_ne]; exact fun e => hsum e.symm
  clear hsum
  have z0 := (HV.out.zeros k hk)
  rw [hzk] at z0
  have t0 := (HV.out.text k hk)
  rw [htk] at t0
  have HK : Hid (o.k = k) := congrArg Po.k HO.out
  go_enter Tryd.func105, Tryd.ntmps105
  go_wp2_with fail
  refine (err_any _ c 0 H.out.cur.cell2).mono ?_
  rintro e w1 ⟨rfl, rfl⟩
  go_wp2_with fail
  refine wp_region_held_drew (S := fun w' => w'.cell? ⟨p, 0, none⟩ = some (.pointer (some ⟨c, 0, none⟩)) ∧ w'.cell? ⟨g, 0, none⟩ = some (.int .i64 k)) (by kernel_rfl) ?_ (fun hHeld => ?_)
  · exact ⟨H.out.r.cell 0, (H.out.row.cell 0).trans (by rw [o.at0, HK.out])⟩
  refine wpAnyH_take (i := 0) (oi := _) (v := ?va0) rfl (by kernel_rfl) (by kernel_rfl) (by kernel_rfl) (fun _ _ _ h => h) (Or.inl ⟨by rfl, ?hya0⟩) (by assumption) ?resta0
  case hya0 => (intro w hSw; (try dsimp only at hSw); go_split_ands; go_simp; try (with_reducible rfl))
  try simp only [List.getElem_toArray, List.getElem_cons_zero, List.getElem_cons_succ, Act.put, List.setIfInBounds_toArray, List.set_cons_zero, List.set_cons_succ]
  refine wpAnyH_take (i := 1) (oi := _) (v := ?va1) rfl (by kernel_rfl) (by kernel_rfl) (by kernel_rfl) (fun _ _ _ h => h) (Or.inl ⟨by rfl, ?hya1⟩) (by assumption) ?resta1
  case hya1 => (intro w hSw; (try dsimp only at hSw); go_split_ands; go_simp; try (with_reducible rfl))
  try simp only [List.getElem_toArray, List.getElem_cons_zero, List.getElem_cons_succ, Act.put, List.setIfInBounds_toArray, List.set_cons_zero, List.set_cons_succ]
  refine wpAnyH_take (i := 2) (oi := _) (v := ?va2) rfl (by kernel_rfl) (by kernel_rfl) (by kernel_rfl) (fun _ _ _ h => h) (Or.inl ⟨by rfl, ?hya2⟩) (by assumption) ?resta2
  case hya2 => (intro w hSw; (try dsimp only at hSw); go_split_ands; go_simp; try (with_reducible rfl))
  try simp only [List.getElem_toArray, List.getElem_cons_zero, List.getElem_cons_succ, Act.put, List.setIfInBounds_toArray, List.set_cons_zero, List.set_cons_succ]
  refine wpAnyH_take (i := 3) (oi := _) (v := ?va3) rfl (by kernel_rfl) (by kernel_rfl) (by kernel_rfl) (fun _ _ _ h => h) (Or.inl ⟨by rfl, ?hya3⟩) (by assumption) ?resta3
  case hya3 => (intro w hSw; (try dsimp only at hSw); go_split_ands; go_simp; try (with_reducible rfl))
  try simp only [List.getElem_toArray, List.getElem_cons_zero, List.getElem_cons_succ, Act.put, List.setIfInBounds_toArray, List.set_cons_zero, List.set_cons_succ]
  refine wpAnyH_take (i := 5) (oi := _) (v := ?va5) rfl (by kernel_rfl) (by kernel_rfl) (by kernel_rfl) (fun _ _ _ h => h) (Or.inl ⟨by rfl, ?hya5⟩) (by assumption) ?resta5
  case hya5 => (intro w hSw; (try dsimp only at hSw); go_split_ands; go_simp; try (with_reducible rfl))
  try simp only [List.getElem_toArray, List.getElem_cons_zero, List.getElem_cons_succ, Act.put, List.setIfInBounds_toArray, List.set_cons_zero, List.set_cons_succ]
  refine wpAnyH_take (i := 6) (oi := _) (v := ?va6) rfl (by kernel_rfl) (by kernel_rfl) (by kernel_rfl) (fun _ _ _ h => h) (Or.inl ⟨by rfl, ?hya6⟩) (by assumption) ?resta6
  case hya6 => (intro w hSw; (try dsimp only at hSw); go_split_ands; go_simp; try (with_reducible rfl))
  try simp only [List.getElem_toArray, List.getElem_cons_zero, List.getElem_cons_succ, Act.put, List.setIfInBounds_toArray, List.set_cons_zero, List.set_cons_succ]
  refine wpAnyH_take (i := 7) (oi := _) (v := ?va7) rfl (by kernel_rfl) (by kernel_rfl) (by kernel_rfl) (fun _ _ _ h => h) (Or.inl ⟨by rfl, ?hya7⟩) (by assumption) ?resta7
  case hya7 => (intro w hSw; (try dsimp only at hSw); go_split_ands; go_simp; try (with_reducible rfl))
  try simp only [List.getElem_toArray, List.getElem_cons_zero, List.getElem_cons_succ, Act.put, List.setIfInBounds_toArray, List.set_cons_zero, List.set_cons_succ]
  refine wpAnyH_take (i := 8) (oi := _) (v := ?va8) rfl (by kernel_rfl) (by kernel_rfl) (by kernel_rfl) (fun _ _ _ h => h) (Or.inl ⟨by rfl, ?hya8⟩) (by assumption) ?resta8
  case hya8 => (intro w hSw; (try dsimp only at hSw); go_split_ands; go_simp; try (with_reducible rfl))
  try simp only [List.getElem_toArray, List.getElem_cons_zero, List.getElem_cons_succ, Act.put, List.setIfInBounds_toArray, List.set_cons_zero, List.set_cons_succ]
  refine wpAnyH_ready (rs := [4]) (by kernel_rfl) (by simp) ?_
  refine AllReadyH.cons (o := _) rfl (fun K hK => ?_) AllReadyH.nil
  go_simp
  refine (left_any _ c a len cap 0 l 0 (H.out.cur.drewN _)).mono ?_
  rintro e w2 ⟨rfl, q, rfl⟩
  have HL : Hid ((len : Int) - ((0 : Nat) : Int) = len) := by rw [Hid]; omega
  rw [HL.out]
  go_wp2_with fail
  refine hK.out _ _ ⟨H.out.r.cell 0, (H.out.row.cell 0).trans (by rw [o.at0, HK.out])⟩ (fun hHeld => ?_)
  clear hK K
  try simp only [List.getElem_toArray, List.getElem_cons_zero, List.getElem_cons_succ, Act.put, List.setIfInBounds_toArray, List.set_cons_zero, List.set_cons_succ]
  refine wpAnyH_ready (rs := [9]) (by kernel_rfl) (by simp) ?_
  refine AllReadyH.cons (o := _) rfl (fun K hK => ?_) AllReadyH.nil
  go_simp
  refine (partsSize_any k hk _ (HV.out.drewN _)).mono ?_
  rintro e w3 ⟨rfl, hb⟩
  have H3 := hid ((H.out.drewN _).on hb)
  clear hb
  generalize hsm : sumP (prt k) = sm at *
  have HSm := hid hsm
  clear hsm
  go_wp2_with fail
  refine hK.out _ _ ⟨H3.out.r.cell 0, (H3.out.row.cell 0).trans (by rw [o.at0, HK.out])⟩ (fun hHeld => ?_)
  clear hK K
  try simp only [List.getElem_toArray, List.getElem_cons_zero, List.getElem_cons_succ, Act.put, List.setIfInBounds_toArray, List.set_cons_zero, List.set_cons_succ]
  refine wpAnyH_take (i := 10) (oi := _) (v := ?va10) rfl (by kernel_rfl) (by kernel_rfl) (by kernel_rfl) (fun _ _ _ h => h) (Or.inl ⟨by rfl, ?hya10⟩) (by assumption) ?resta10
  case hya10 => (intro w hSw; (try dsimp only at hSw); go_split_ands; go_simp; try (with_reducible rfl))
  try simp only [List.getElem_toArray, List.getElem_cons_zero, List.getElem_cons_succ, Act.put, List.setIfInBounds_toArray, List.set_cons_zero, List.set_cons_succ]
  refine wpAnyH_take (i := 11) (oi := _) (v := ?va11) rfl (by kernel_rfl) (by kernel_rfl) (by kernel_rfl) (fun _ _ _ h => h) (Or.inl ⟨by rfl, ?hya11⟩) (by assumption) ?resta11
  case hya11 => (intro w hSw; (try dsimp only at hSw); go_split_ands; go_simp; try (with_reducible rfl))
  try simp only [List.getElem_toArray, List.getElem_cons_zero, List.getElem_cons_succ, Act.put, List.setIfInBounds_toArray, List.set_cons_zero, List.set_cons_succ]
  refine wpAnyH_done (by kernel_rfl) ?_ _
  go_wp2_with fail
  refine (spoil_any _ c a len cap 0 l 0 3 H3.out.cur).mono ?_
  rintro e w4 ⟨rfl, hc, hg, hs⟩
  have H4 := hid (H3.out.read hc hg)
  clear hc hg hs
  go_wp2_with fail
  go_returns
  exact ⟨rfl, 0, _, o, H4.out, by rw [HP.out, HO.out], by rw [HE.out]; rfl⟩

set_option maxRecDepth 100000 in
theorem fill_parts {B base : Nat} (k : Nat) (hk : k < 10) (w w0 : World) (p c g : Nat) (gv : Value) (a : Option Addr) (len cap : Nat) (l : List Int) (o : Ov) (h : RdAt base w w0 p c g gv a len cap l 0 0 o) (hop : o.p = ⟨k, [], zeros, []⟩) (hV : Vars B w0) (hB : B ≤ base) (hzk : zer k = false) (htk : txb k = false) (hsum : sumP (prt k) = len) :
    Calls Tryd.prog 105 #[.pointer (some ⟨p, 0, none⟩), .pointer (some ⟨g, 0, none⟩)] w0 fun e w' => e = .returned (.tuple #[]) ∧ Hid (FilOk base w w' p c g gv a len cap l 0 k) := by
  have H := hid h
  have HV := hid hV
  have HO := hid hop
  have c0 : w0.cell? ⟨g, 0, none⟩ = some (.int .i64 k) := by rw [(h.row.cell 0).trans o.at0, show o.k = k from congrArg Po.k hop]
  have p0 := h.r.cell 0
  simp only [List.getElem?_toArray, List.getElem?_cons_zero] at p0
  have HLl : Hid (l.length = len) := h.cur.lies.1
  clear h hV hop

  have HE : Hid (filE k l 0 = 0) := by simp [Hid, filE, hzk, htk, HLl.out, hsum]
  have HP : Hid (filP k l 0 = ⟨k, (stps l (prt k)).2.1, (stps l (prt k)).2.2, []⟩) := by simp [Hid, filP, hzk, htk, HLl.out, hsum]
  have hne : ((len : Int) != sumP (prt k)) = false := by rw [hsum]; simp
  have HSum := hid hsum
  clear hsum
  have z0 := (HV.out.zeros k hk)
  rw [hzk] at z0
  have t0 := (HV.out.text k hk)
  rw [htk] at t0
  have HK : Hid (o.k = k) := congrArg Po.k HO.out
  go_enter Tryd.func105, Tryd.ntmps105
  go_wp2_with fail
  refine (err_any _ c 0 H.out.cur.cell2).mono ?_
  rintro e w1 ⟨rfl, rfl⟩
  go_wp2_with fail
  refine wp_region_held_drew (S := fun w' => w'.cell? ⟨p, 0, none⟩ = some (.pointer (some ⟨c, 0, none⟩)) ∧ w'.cell? ⟨g, 0, none⟩ = some (.int .i64 k)) (by kernel_rfl) ?_ (fun hHeld => ?_)
  · exact ⟨H.out.r.cell 0, (H.out.row.cell 0).trans (by rw [o.at0, HK.out])⟩
  refine wpAnyH_take (i := 0) (oi := _) (v := ?va0) rfl (by kernel_rfl) (by kernel_rfl) (by kernel_rfl) (fun _ _ _ h => h) (Or.inl ⟨by rfl, ?hya0⟩) (by assumption) ?resta0
  case hya0 => (intro w hSw; (try dsimp only at hSw); go_split_ands; go_simp; try (with_reducible rfl))
  try simp only [List.getElem_toArray, List.getElem_cons_zero, List.getElem_cons_succ, Act.put, List.setIfInBounds_toArray, List.set_cons_zero, List.set_cons_succ]
  refine wpAnyH_take (i := 1) (oi := _) (v := ?va1) rfl (by kernel_rfl) (by kernel_rfl) (by kernel_rfl) (fun _ _ _ h => h) (Or.inl ⟨by rfl, ?hya1⟩) (by assumption) ?resta1
  case hya1 => (intro w hSw; (try dsimp only at hSw); go_split_ands; go_simp; try (with_reducible rfl))
  try simp only [List.getElem_toArray, List.getElem_cons_zero, List.getElem_cons_succ, Act.put, List.setIfInBounds_toArray, List.set_cons_zero, List.set_cons_succ]
  refine wpAnyH_take (i := 2) (oi := _) (v := ?va2) rfl (by kernel_rfl) (by kernel_rfl) (by kernel_rfl) (fun _ _ _ h => h) (Or.inl ⟨by rfl, ?hya2⟩) (by assumption) ?resta2
  case hya2 => (intro w hSw; (try dsimp only at hSw); go_split_ands; go_simp; try (with_reducible rfl))
  try simp only [List.getElem_toArray, List.getElem_cons_zero, List.getElem_cons_succ, Act.put, List.setIfInBounds_toArray, List.set_cons_zero, List.set_cons_succ]
  refine wpAnyH_take (i := 3) (oi := _) (v := ?va3) rfl (by kernel_rfl) (by kernel_rfl) (by kernel_rfl) (fun _ _ _ h => h) (Or.inl ⟨by rfl, ?hya3⟩) (by assumption) ?resta3
  case hya3 => (intro w hSw; (try dsimp only at hSw); go_split_ands; go_simp; try (with_reducible rfl))
  try simp only [List.getElem_toArray, List.getElem_cons_zero, List.getElem_cons_succ, Act.put, List.setIfInBounds_toArray, List.set_cons_zero, List.set_cons_succ]
  refine wpAnyH_take (i := 5) (oi := _) (v := ?va5) rfl (by kernel_rfl) (by kernel_rfl) (by kernel_rfl) (fun _ _ _ h => h) (Or.inl ⟨by rfl, ?hya5⟩) (by assumption) ?resta5
  case hya5 => (intro w hSw; (try dsimp only at hSw); go_split_ands; go_simp; try (with_reducible rfl))
  try simp only [List.getElem_toArray, List.getElem_cons_zero, List.getElem_cons_succ, Act.put, List.setIfInBounds_toArray, List.set_cons_zero, List.set_cons_succ]
  refine wpAnyH_take (i := 6) (oi := _) (v := ?va6) rfl (by kernel_rfl) (by kernel_rfl) (by kernel_rfl) (fun _ _ _ h => h) (Or.inl ⟨by rfl, ?hya6⟩) (by assumption) ?resta6
  case hya6 => (intro w hSw; (try dsimp only at hSw); go_split_ands; go_simp; try (with_reducible rfl))
  try simp only [List.getElem_toArray, List.getElem_cons_zero, List.getElem_cons_succ, Act.put, List.setIfInBounds_toArray, List.set_cons_zero, List.set_cons_succ]
  refine wpAnyH_take (i := 7) (oi := _) (v := ?va7) rfl (by kernel_rfl) (by kernel_rfl) (by kernel_rfl) (fun _ _ _ h => h) (Or.inl ⟨by rfl, ?hya7⟩) (by assumption) ?resta7
  case hya7 => (intro w hSw; (try dsimp only at hSw); go_split_ands; go_simp; try (with_reducible rfl))
  try simp only [List.getElem_toArray, List.getElem_cons_zero, List.getElem_cons_succ, Act.put, List.setIfInBounds_toArray, List.set_cons_zero, List.set_cons_succ]
  refine wpAnyH_take (i := 8) (oi := _) (v := ?va8) rfl (by kernel_rfl) (by kernel_rfl) (by kernel_rfl) (fun _ _ _ h => h) (Or.inl ⟨by rfl, ?hya8⟩) (by assumption) ?resta8
  case hya8 => (intro w hSw; (try dsimp only at hSw); go_split_ands; go_simp; try (with_reducible rfl))
  try simp only [List.getElem_toArray, List.getElem_cons_zero, List.getElem_cons_succ, Act.put, List.setIfInBounds_toArray, List.set_cons_zero, List.set_cons_succ]
  refine wpAnyH_ready (rs := [4]) (by kernel_rfl) (by simp) ?_
  refine AllReadyH.cons (o := _) rfl (fun K hK => ?_) AllReadyH.nil
  go_simp
  refine (left_any _ c a len cap 0 l 0 (H.out.cur.drewN _)).mono ?_
  rintro e w2 ⟨rfl, q, rfl⟩
  have HL : Hid ((len : Int) - ((0 : Nat) : Int) = len) := by rw [Hid]; omega
  rw [HL.out]
  go_wp2_with fail
  refine hK.out _ _ ⟨H.out.r.cell 0, (H.out.row.cell 0).trans (by rw [o.at0, HK.out])⟩ (fun hHeld => ?_)
  clear hK K
  try simp only [List.getElem_toArray, List.getElem_cons_zero, List.getElem_cons_succ, Act.put, List.setIfInBounds_toArray, List.set_cons_zero, List.set_cons_succ]
  refine wpAnyH_ready (rs := [9]) (by kernel_rfl) (by simp) ?_
  refine AllReadyH.cons (o := _) rfl (fun K hK => ?_) AllReadyH.nil
  go_simp
  refine (partsSize_any k hk _ (HV.out.drewN _)).mono ?_
  rintro e w3 ⟨rfl, hb⟩
  have H3 := hid ((H.out.drewN _).on hb)
  clear hb
  generalize hsm : sumP (prt k) = sm at *
  have HSm := hid hsm
  clear hsm
  go_wp2_with fail
  refine hK.out _ _ ⟨H3.out.r.cell 0, (H3.out.row.cell 0).trans (by rw [o.at0, HK.out])⟩ (fun hHeld => ?_)
  clear hK K
  try simp only [List.getElem_toArray, List.getElem_cons_zero, List.getElem_cons_succ, Act.put, List.setIfInBounds_toArray, List.set_cons_zero, List.set_cons_succ]
  refine wpAnyH_take (i := 10) (oi := _) (v := ?va10) rfl (by kernel_rfl) (by kernel_rfl) (by kernel_rfl) (fun _ _ _ h => h) (Or.inl ⟨by rfl, ?hya10⟩) (by assumption) ?resta10
  case hya10 => (intro w hSw; (try dsimp only at hSw); go_split_ands; go_simp; try (with_reducible rfl))
  try simp only [List.getElem_toArray, List.getElem_cons_zero, List.getElem_cons_succ, Act.put, List.setIfInBounds_toArray, List.set_cons_zero, List.set_cons_succ]
  refine wpAnyH_take (i := 11) (oi := _) (v := ?va11) rfl (by kernel_rfl) (by kernel_rfl) (by kernel_rfl) (fun _ _ _ h => h) (Or.inl ⟨by rfl, ?hya11⟩) (by assumption) ?resta11
  case hya11 => (intro w hSw; (try dsimp only at hSw); go_split_ands; go_simp; try (with_reducible rfl))
  try simp only [List.getElem_toArray, List.getElem_cons_zero, List.getElem_cons_succ, Act.put, List.setIfInBounds_toArray, List.set_cons_zero, List.set_cons_succ]
  refine wpAnyH_done (by kernel_rfl) ?_ _
  go_wp2_with fail
  refine (takeParts_any k hk w _ p c g gv a len cap l o H3.out HO.out (HV.out.rd H.out.below H3.out.below hB H3.out.size) hB (HSm.out.trans HSum.out)).mono ?_
  rintro e w4 ⟨rfl, ht⟩
  go_wp2_with fail
  go_returns
  obtain ⟨o4, h4, hp4⟩ := ht.out
  refine ⟨rfl, _, 0, o4, h4, by rw [HP.out, hp4], ?_⟩
  have e1 := stps_at l (prt k) (prt_all k hk).1 (prt k).length (Nat.le_refl _)
  rw [List.take_of_length_le (Nat.le_refl _), HSm.out, HSum.out] at e1
  have e2 : (stps l (prt k)).1 = len := by omega
  rw [e2, HE.out, Nat.sub_self]; rfl

theorem fill_any {B base : Nat} (k : Nat) (hk : k < 10) (w w0 : World) (p c g : Nat) (gv : Value) (a : Option Addr) (len cap : Nat) (l : List Int) (o : Ov) (er : Int) (h : RdAt base w w0 p c g gv a len cap l 0 er o) (hop : o.p = ⟨k, [], zeros, []⟩) (hV : Vars B w0) (hB : B ≤ base) :
    Calls Tryd.prog 105 #[.pointer (some ⟨p, 0, none⟩), .pointer (some ⟨g, 0, none⟩)] w0 fun e w' => e = .returned (.tuple #[]) ∧ Hid (FilOk base w w' p c g gv a len cap l er k) := by
  by_cases her : er = 0
  · subst her
    cases hzk : zer k
    · cases htk : txb k
      · by_cases hs : sumP (prt k) = len
        · exact fill_parts k hk w w0 p c g gv a len cap l o h hop hV hB hzk htk hs
        · exact fill_short k hk w w0 p c g gv a len cap l o h hop hV hB hzk htk hs
      · exact fill_text k hk w w0 p c g gv a len cap l o h hop hV hB hzk htk
    · exact fill_zeros k hk w w0 p c g gv a len cap l o h hop hV hB hzk
  · exact fill_was k hk w w0 p c g gv a len cap l o er h hop hV hB her
end Go.Proofs.YtbfjkhafdkhhmaaDoor

namespace Go.Proofs.YtbfjkhafdkhhmaaDoor
open Go.ChangeShapes Go.WideShapes Go.ChangeAt Go.RowKit Go.Deep
set_option linter.unusedVariables false
set_option linter.unusedSimpArgs false

/-- An option more, in a region whose order is fixed. -/
theorem wpList_pushO {ops : Array Oper} {rest : List Oper} {o : Oper} {a : Act} {w : World} {Q : Exit → Act → World → Prop} {ts t : TypeId} (hT : ST ts t) (hg : o.guard = none) (s y : Operand)
    (ho : o.op = .call { callee := .builtin .append, args := #[s, y], argTypes := #[ts, ts] }) (base m g : Nat) (v : Value) (xs : List Value) (hs : a.eval s = v) (hown : w.ownsRow base t 19 v m xs)
    (x : Ov) (hl : Adr x.ad) (hx : a.eval y = .slice (some ⟨g, 0, none⟩) 1 1) (hr : Row w g t x.cs) (hb : base ≤ w.heap.size) (hm : m ≤ 200000)
    (h : ∀ v' w', w'.ownsRow base t 19 v' (m + 1) (xs ++ x.cs.toList) → w.grownBy w' v.ownBlock → wpList Tryd.prog ops Q rest (a.put o.dst v') w') : wpList Tryd.prog ops Q (o :: rest) a w := by
  obtain ⟨ie, hi, hz, hz1, hz2⟩ := info_parts hT.ot.zero
  refine wpList_append_own w hg s y ts ho base t ie _ 19 72 hT.und hi hz hz1 hz2 cells_zero (by decide) v m xs hs hown ⟨g, 0, none⟩ 1 1 x.cs.toList hx (by rw [Array.length_toList, Ov.size hl]) (news_row hr) (one_list x) (by unfold maxLen; omega) (by omega) hb ?_
  intro v' w' h2 h3 _
  exact h v' w' h2 h3
/-- What Find tells. -/
def FindOk (w : World) (ks : List Int) (L : List Ov) (e : Ending) (w' : World) : Prop :=
  ((e = .returned (.tuple #[.agg Ov.zero.cs, .bool false]) ∧ ∀ o ∈ L, hitB ks o.k = false) ∨
    ∃ (i : Nat) (o' : Ov), i < L.length ∧ e = .returned (.tuple #[.agg o'.cs, .bool true]) ∧ hitB ks (L.getD i Ov.zero).k = true ∧ (∀ j, j < i → hitB ks (L.getD j Ov.zero).k = false) ∧ o'.p = (L.getD i Ov.zero).p ∧ o'.ok w') ∧ Below w.heap.size w w'
/-- What Find tells, with lists of its own. -/
def FindOk2 (w : World) (ks : List Int) (L : List Ov) (e : Ending) (w' : World) : Prop :=
  ((e = .returned (.tuple #[.agg Ov.zero.cs, .bool false]) ∧ ∀ o ∈ L, hitB ks o.k = false) ∨
    ∃ (i : Nat) (o' : Ov), i < L.length ∧ e = .returned (.tuple #[.agg o'.cs, .bool true]) ∧ hitB ks (L.getD i Ov.zero).k = true ∧ (∀ j, j < i → hitB ks (L.getD j Ov.zero).k = false) ∧ o'.p = (L.getD i Ov.zero).p ∧ o'.ok w' ∧ Own2 w.heap.size w' o') ∧ Below w.heap.size w w'
set_option maxRecDepth 100000 in
set_option maxHeartbeats 1600000 in
theorem optFind2_any (a : Option Addr) (n cap : Nat) (L : List Ov) (ka : Option Addr) (kn kc : Nat) (ks : List Int) (w : World) (hL : Opts w a n cap L) (hk : Lies .i64 w ka kn kc ks) (hsm : ∀ o ∈ L, o.n.n ≤ 100000 ∧ o.t.n ≤ 100000) :
    Calls Tryd.prog 44 #[.slice a n cap, .slice ka kn kc] w (FindOk2 w ks L) := by
  have hz := zov
  have Z0 := hid (Row.new w 54 Ov.zero.cs)
  have B0 := hid (balloc (Below.refl w.heap.size w) (.cells Ov.zero.cs 54))
  have L0 := hid (hL.below B0.out)
  have K0 := hid (hk.below B0.out)
  have HS := hid hsm
  have ll := hid hL.len
  have k1 := Nat.le_trans hL.le hL.max
  unfold maxLen at k1
  clear hL hk hsm
  go_enter Tryd.func44, Tryd.ntmps44
  go_upto_region 1 with fail
  generalize hw1 : w.alloc (.cells Ov.zero.cs 54) = w1 at *
  generalize hg0 : w.heap.size = g0 at *
  clear hw1 hz
  go_wp2_with fail
  have C1 := hid (Row.new w1 52 #[.slice ka kn kc])
  have B1 := hid (balloc (Below.refl w1.heap.size w1) (.cells #[.slice ka kn kc] 52))
  refine (oneOf_any ka kn kc _).mono ?_
  rintro e w2 ⟨rfl, rfl⟩
  generalize hw2 : w1.alloc (.cells #[.slice ka kn kc] 52) = w2 at *
  have L2 := hid (L0.out.below B1.out)
  have K2 := hid (K0.out.below B1.out)
  have Z2 := hid (Z0.out.below B1.out)
  have BB := hid (B0.out.trans (B1.out.mono (B := w1.heap.size) (B' := g0) (by rw [← hg0]; exact B0.out.size)))
  have D2 := hid ((C1.out.cell 0).trans rfl)
  generalize hgk : w1.heap.size = gk at *
  clear hw2 L0 K0 Z0 C1
  go_wp2_with fail
  refine (indexFunc_any a n cap L gk ka kn kc ks _ L2.out D2.out K2.out).mono ?_
  rintro e w3 ⟨⟨r, rfl, hf⟩, hb3⟩
  have L3 := hid (L2.out.below hb3)
  have Z3 := hid (Z2.out.below hb3)
  have B3 := hid (BB.out.trans (hb3.mono (by have := BB.out.size; omega)))
  clear hb3 L2 Z2 K2 D2
  rcases hf with ⟨rfl, hno⟩ | ⟨i, hi, rfl, hyes, hno⟩
  · have HN := hid hno
    clear hno
    have Z4 := hid (Z3.out.setRow Ov.zero.cs)
    have B4 := hid (below_setRow' B3.out (g := g0) (Nat.le_refl _) Ov.zero.cs)
    go_wp2_with (first | (refine bdOzo o43 rfl rfl ?_) | (refine stOo o43 _ _ rfl rfl g0 Ov.zero adr_zeros rfl rfl 54 Ov.zero adr_zeros Z3.out ?_))
    refine bodyPost_ret (resOoe o43 rfl _ _ g0 54 Ov.zero adr_zeros _ rfl rfl Z4.out) rfl ?_
    unfold FindOk2
    exact ⟨.inl ⟨rfl, HN.out⟩, by rw [hg0]; exact B4.out⟩
  · have HY := hid hyes
    have HN := hid hno
    have hin : i < n := by rw [← ll.out]; exact hi
    have hin' : (i : Int) < (n : Int) := by omega
    have HI := hid hi
    obtain ⟨b, off, rfl, hp⟩ := L3.out.cell i hin
    have hok := L3.out.at i hin
    have hmem : L.getD i Ov.zero ∈ L := by simp [show i < L.length from hi]
    have hs := HS.out _ hmem
    generalize hoo : L.getD i Ov.zero = o at *
    have HOO := hid hoo
    have PP := hid hp
    have OK := hid hok
    have HA := hid hok.ad
    clear hp hok hmem hoo hyes hno hi
    have hneg : decide ((i : Int) < 0) = false := decide_eq_false (by omega)
    go_wp2_with (refine ldOo o43 _ rfl rfl _ _ rfl o HA.out PP.out ?_)
    refine (copied_any o _ OK.out hs.1 hs.2).mono ?_
    rintro e w4 ⟨⟨o', rfl, hpp, hown⟩, hb4⟩
    have HP := hid hpp.out
    have HW := hid hown.out
    have Z4 := hid (Z3.out.below hb4)
    have B4 := hid (B3.out.trans (hb4.mono (by have := B3.out.size; omega)))
    clear hpp hown hb4
    have Z5 := hid (Z4.out.setRow o'.cs)
    have B5 := hid (below_setRow' B4.out (g := g0) (Nat.le_refl _) o'.cs)
    have HW5 : Hid (Own2 w3.heap.size (w4.setRow g0 o'.cs) o') := ⟨own_setRowT HW.out.n Z4.out (by decide), HW.out.nn, HW.out.ad, own_setRowT HW.out.t Z4.out (by decide), HW.out.tn, HW.out.oct⟩
    go_wp2_with (refine stOo o43 _ _ rfl rfl g0 o' HW.out.ad rfl rfl 54 Ov.zero adr_zeros Z4.out ?_)
    refine bodyPost_ret (resOoe o43 rfl _ _ g0 54 o' HW.out.ad _ rfl rfl Z5.out) rfl ?_
    unfold FindOk2
    exact ⟨.inr ⟨i, o', HI.out, rfl, by rw [HOO.out]; exact HY.out, HN.out, by rw [HOO.out]; exact HP.out, HW5.out.ok, HW5.out.mono B3.out.size⟩, by rw [hg0]; exact B5.out⟩
theorem optFind_any (a : Option Addr) (n cap : Nat) (L : List Ov) (ka : Option Addr) (kn kc : Nat) (ks : List Int) (w : World) (hL : Opts w a n cap L) (hk : Lies .i64 w ka kn kc ks) (hsm : ∀ o ∈ L, o.n.n ≤ 100000 ∧ o.t.n ≤ 100000) :
    Calls Tryd.prog 44 #[.slice a n cap, .slice ka kn kc] w (FindOk w ks L) := by
  refine (optFind2_any a n cap L ka kn kc ks w hL hk hsm).mono ?_
  rintro e w' ⟨h | ⟨i, o', h1, h2, h3, h4, h5, h6, _⟩, hb⟩
  · exact ⟨.inl h, hb⟩
  · exact ⟨.inr ⟨i, o', h1, h2, h3, h4, h5, h6⟩, hb⟩
/-- What is left. -/
def lft (ks : List Int) (P : List Po) : List Po := P.filter (fun p => !hitB ks p.k)
theorem lft_yes (ks : List Int) (P : List Po) (j : Nat) (hj : j < P.length) (h : hitB ks (P.getD j Po.none).k = false) : lft ks (P.take (j + 1)) = lft ks (P.take j) ++ [P.getD j Po.none] := by
  unfold lft
  rw [List.take_succ_eq_append_getElem hj, List.filter_append]
  simp [hj] at h ⊢
  simp [h]
theorem lft_no (ks : List Int) (P : List Po) (j : Nat) (hj : j < P.length) (h : hitB ks (P.getD j Po.none).k = true) : lft ks (P.take (j + 1)) = lft ks (P.take j) := by
  unfold lft
  rw [List.take_succ_eq_append_getElem hj, List.filter_append]
  simp [hj] at h ⊢
  simp [h]
/-- What Without tells. -/
def WithoutOk (w : World) (ks : List Int) (L : List Ov) (e : Ending) (w' : World) : Prop :=
  ∃ a' m cap' L', e = .returned (.slice a' m cap') ∧ Opts w' a' m cap' L' ∧ pos L' = lft ks (pos L) ∧ Below w.heap.size w w'
theorem ocs_snoc2 (L : List Ov) (o : Ov) : ocs (L ++ [o]) = ocs L ++ o.cs.toList := by simp [ocs]
end Go.Proofs.YtbfjkhafdkhhmaaDoor
