/- The options that the document's answer takes: Of. · The chapter's examples. · Are options the same? · Are lists of options the same? · Are options the same? The document's answer. -/
import Derived.Test.YtbgogeojdibmkaaDoorM6
import Derived.Deep.QuietTactic
namespace Go.Proofs.YtbgogeojdibmkaaDoor
open Go.ChangeShapes Go.WideShapes Go.ChangeAt Go.RowKit Go.Deep
set_option linter.unusedVariables false
set_option linter.unusedSimpArgs false

theorem ocs_single (o : Ov) : ocs [o] = o.cs.toList := by simp [ocs]
def OfOk (w : World) (n : Nat) (L : List Ov) (e : Ending) (w' : World) : Prop := ∃ a' cap', e = .returned (.slice a' n cap') ∧ Opts w' a' n cap' L ∧ Below w.heap.size w w'
set_option maxRecDepth 100000 in
set_option maxHeartbeats 3200000 in
theorem of_any (a : Option Addr) (n cap : Nat) (L : List Ov) (w : World) (hL : Opts w a n cap L) (hn : n ≤ 1000) :
    Calls Tryd.prog 8 #[.slice a n cap] w (OfOk w n L) := by
  have HL := hid hL
  have HLen := hid hL.len
  clear hL
  go_enter Tryd.func8, Tryd.ntmps8
  go_wp2_with fail
  go_loopw [3, 4] (fun v i wr => ∃ (k : Nat), k ≤ n ∧ i = .int .i64 k ∧ Hid (wr.ownsRow w.heap.size 38 19 v k (ocs (L.take k))) ∧ Hid (Below w.heap.size w wr)) (fun _ i _ => n - (intOf i).toNat)
  case atStart => exact ⟨0, by omega, rfl, World.ownsRow_nil _ _ _ _, Below.refl _ _⟩
  case round =>
    obtain ⟨k, hk, rfl, HO, HB⟩ := hrel
    by_cases hlt : k < n
    · have i1 : (k : Int) < (n : Int) := by omega
      obtain ⟨b, off, ha, hp0⟩ := HL.out.cell k hlt
      have hkl : k < L.length := by rw [HLen.out]; exact hlt
      have hok := HL.out.at k hlt
      have HT : Hid (L.take (k + 1) = L.take k ++ [L.getD k Ov.zero]) := by rw [Hid, List.take_succ_eq_append_getElem hkl]; simp [hkl]
      generalize hoo : L.getD k Ov.zero = o at *
      have PW := hid hp0
      have PP := hid (hp0.below HB.out)
      have HA := hid hok.ad
      subst ha
      clear hp0 hok hoo hkl
      have BA := hid (balloc (Below.refl wr.heap.size wr) (.cells o.cs 38))
      have P5 := hid (PP.out.below BA.out)
      have O5 := hid (HO.out.alloc (.cells o.cs 38))
      have B5 := hid (bthen HB.out BA.out)
      have RX := hid (Row.new wr 38 o.cs)
      go_wp2_with fail
      refine wp_region_held_drew (S := fun w' => w'.cell? ⟨b, off + k * 19, none⟩ = some (.int .i64 o.k) ∧ (w'.cell? ⟨b, off + k * 19 + 1, none⟩ = some (.slice o.n.a o.n.n o.n.cap) ∧ (w'.cell? ⟨b, off + k * 19 + 18, none⟩ = some (.slice o.t.a o.t.n o.t.cap) ∧ Hid (Part w' b (off + k * 19) o.cs)))) (by kernel_rfl) ?_ (fun hHeld => ?_)
      · exact ⟨PP.out 0 _ o.at0, PP.out 1 _ o.at1, PP.out 18 _ (Ov.at18 HA.out), PP.out⟩
      refine wpAnyH_take (i := 0) (oi := _) (v := ?va0) rfl (by kernel_rfl) (by kernel_rfl) (by kernel_rfl) (fun _ _ _ h => h) (Or.inl ⟨by rfl, ?hya0⟩) (by assumption) ?resta0
      case hya0 => (intro w hSw; (try dsimp only at hSw); go_split_ands; go_simp; try (with_reducible rfl))
      try simp only [List.getElem_toArray, List.getElem_cons_zero, List.getElem_cons_succ, Act.put, List.setIfInBounds_toArray, List.set_cons_zero, List.set_cons_succ]
      refine wpAnyH_take (i := 1) (oi := _) (v := ?va1) rfl (by kernel_rfl) (by kernel_rfl) (by kernel_rfl) (fun _ _ _ h => h) (Or.inl ⟨by rfl, ?hya1⟩) (by assumption) ?resta1
      case hya1 => (intro w hSw; (try dsimp only at hSw); go_split_ands; go_simp; try (with_reducible rfl))
      try simp only [List.getElem_toArray, List.getElem_cons_zero, List.getElem_cons_succ, Act.put, List.setIfInBounds_toArray, List.set_cons_zero, List.set_cons_succ]
      refine wpAnyH_take (i := 2) (oi := _) (v := ?va2) rfl (by kernel_rfl) (by kernel_rfl) (by kernel_rfl) (fun _ _ _ h => h) (Or.inl ⟨by rfl, ?hya2⟩) (by assumption) ?resta2
      case hya2 => (intro w hSw; (try dsimp only at hSw); go_split_ands; go_simp; try (with_reducible rfl))
      try simp only [List.getElem_toArray, List.getElem_cons_zero, List.getElem_cons_succ, Act.put, List.setIfInBounds_toArray, List.set_cons_zero, List.set_cons_succ]
      refine wpAnyH_take (i := 3) (oi := _) (v := ?va3) rfl (by kernel_rfl) (by kernel_rfl) (by kernel_rfl) (fun _ _ _ h => h) (Or.inl ⟨by rfl, ?hya3⟩) (by assumption) ?resta3
      case hya3 => (intro w hSw; (try dsimp only at hSw); go_split_ands; go_simp; try (with_reducible rfl))
      try simp only [List.getElem_toArray, List.getElem_cons_zero, List.getElem_cons_succ, Act.put, List.setIfInBounds_toArray, List.set_cons_zero, List.set_cons_succ]
      refine wpAnyH_take (i := 4) (oi := _) (v := ?va4) rfl (by kernel_rfl) (by kernel_rfl) (by kernel_rfl) (fun _ _ _ h => h) (Or.inl ⟨by rfl, ?hya4⟩) (by assumption) ?resta4
      case hya4 => (intro w hSw; (try dsimp only at hSw); go_split_ands; go_simp; try (with_reducible rfl))
      try simp only [List.getElem_toArray, List.getElem_cons_zero, List.getElem_cons_succ, Act.put, List.setIfInBounds_toArray, List.set_cons_zero, List.set_cons_succ]
      refine wpAnyH_take (i := 5) (oi := _) (v := ?va5) rfl (by kernel_rfl) (by kernel_rfl) (by kernel_rfl) (fun _ _ _ h => h) (Or.inl ⟨by rfl, ?hya5⟩) (by assumption) ?resta5
      case hya5 => (intro w hSw; (try dsimp only at hSw); go_split_ands; go_simp; try (with_reducible rfl))
      try simp only [List.getElem_toArray, List.getElem_cons_zero, List.getElem_cons_succ, Act.put, List.setIfInBounds_toArray, List.set_cons_zero, List.set_cons_succ]
      refine wpAnyH_take (i := 6) (oi := _) (v := ?va6) rfl (by kernel_rfl) (by kernel_rfl) (by kernel_rfl) (fun _ _ _ h => h) (Or.inl ⟨by rfl, ?hya6⟩) (by assumption) ?resta6
      case hya6 => (intro w hSw; (try dsimp only at hSw); go_split_ands; go_simp; try (with_reducible rfl))
      try simp only [List.getElem_toArray, List.getElem_cons_zero, List.getElem_cons_succ, Act.put, List.setIfInBounds_toArray, List.set_cons_zero, List.set_cons_succ]
      refine wpAnyH_take (i := 7) (oi := _) (v := ?va7) rfl (by kernel_rfl) (by kernel_rfl) (by kernel_rfl) (fun _ _ _ h => h) (Or.inl ⟨by rfl, ?hya7⟩) (by assumption) ?resta7
      case hya7 => (intro w hSw; (try dsimp only at hSw); go_split_ands; go_simp; try (with_reducible rfl))
      try simp only [List.getElem_toArray, List.getElem_cons_zero, List.getElem_cons_succ, Act.put, List.setIfInBounds_toArray, List.set_cons_zero, List.set_cons_succ]
      refine wpAnyH_take (i := 8) (oi := _) (v := ?va8) rfl (by kernel_rfl) (by kernel_rfl) (by kernel_rfl) (fun _ _ _ h => h) (Or.inl ⟨by rfl, ?hya8⟩) (by assumption) ?resta8
      case hya8 => (intro w hSw; (try dsimp only at hSw); go_split_ands; go_simp; try (with_reducible rfl))
      try simp only [List.getElem_toArray, List.getElem_cons_zero, List.getElem_cons_succ, Act.put, List.setIfInBounds_toArray, List.set_cons_zero, List.set_cons_succ]
      refine wpAnyH_take (i := 9) (oi := _) (v := ?va9) rfl (by kernel_rfl) (by kernel_rfl) (by kernel_rfl) (fun _ _ _ h => h) (Or.inl ⟨by rfl, ?hya9⟩) (by assumption) ?resta9
      case hya9 => (intro w hSw; (try dsimp only at hSw); go_split_ands; go_simp; try (with_reducible rfl))
      try simp only [List.getElem_toArray, List.getElem_cons_zero, List.getElem_cons_succ, Act.put, List.setIfInBounds_toArray, List.set_cons_zero, List.set_cons_succ]
      refine wpAnyH_take (i := 10) (oi := _) (v := ?va10) rfl (by kernel_rfl) (by kernel_rfl) (by kernel_rfl) (fun _ _ _ h => h) (Or.inl ⟨by rfl, ?hya10⟩) (by assumption) ?resta10
      case hya10 => (intro w hSw; (try dsimp only at hSw); go_split_ands; go_simp; try (with_reducible rfl))
      try simp only [List.getElem_toArray, List.getElem_cons_zero, List.getElem_cons_succ, Act.put, List.setIfInBounds_toArray, List.set_cons_zero, List.set_cons_succ]
      refine wpAnyH_take (i := 11) (oi := _) (v := ?va11) rfl (by kernel_rfl) (by kernel_rfl) (by kernel_rfl) (fun _ _ _ h => h) (Or.inl ⟨by rfl, ?hya11⟩) (by assumption) ?resta11
      case hya11 => (intro w hSw; (try dsimp only at hSw); go_split_ands; go_simp; try (with_reducible rfl))
      try simp only [List.getElem_toArray, List.getElem_cons_zero, List.getElem_cons_succ, Act.put, List.setIfInBounds_toArray, List.set_cons_zero, List.set_cons_succ]
      refine wpAnyH_take (i := 12) (oi := _) (v := ?va12) rfl (by kernel_rfl) (by kernel_rfl) (by kernel_rfl) (fun _ _ _ h => h) (Or.inl ⟨by rfl, ?hya12⟩) (by assumption) ?resta12
      case hya12 => (intro w hSw; (try dsimp only at hSw); go_split_ands; go_simp; try (with_reducible rfl))
      try simp only [List.getElem_toArray, List.getElem_cons_zero, List.getElem_cons_succ, Act.put, List.setIfInBounds_toArray, List.set_cons_zero, List.set_cons_succ]
      refine wpAnyH_take (i := 13) (oi := _) (v := ?va13) rfl (by kernel_rfl) (by kernel_rfl) (by kernel_rfl) (fun _ _ _ h => h) (Or.inl ⟨by rfl, ?hya13⟩) (by assumption) ?resta13
      case hya13 => (intro w hSw; (try dsimp only at hSw); go_split_ands; go_simp; try (with_reducible rfl))
      try simp only [List.getElem_toArray, List.getElem_cons_zero, List.getElem_cons_succ, Act.put, List.setIfInBounds_toArray, List.set_cons_zero, List.set_cons_succ]
      refine wpAnyH_take (i := 14) (oi := _) (v := ?va14) rfl (by kernel_rfl) (by kernel_rfl) (by kernel_rfl) (fun _ _ _ h => h) (Or.inl ⟨by rfl, ?hya14⟩) (by assumption) ?resta14
      case hya14 => (intro w hSw; (try dsimp only at hSw); go_split_ands; go_simp; try (with_reducible rfl))
      try simp only [List.getElem_toArray, List.getElem_cons_zero, List.getElem_cons_succ, Act.put, List.setIfInBounds_toArray, List.set_cons_zero, List.set_cons_succ]
      refine wpAnyH_take (i := 15) (oi := _) (v := .agg (arr o.ad)) rfl (by kernel_rfl) (by kernel_rfl) (by kernel_rfl) (fun _ _ _ h => h) (yld41 (by rfl) _ rfl b (off + k * 19 + 2) rfl o.ad HA.out (fun w h => by have := h.2.2.2.out.ovA HA.out; exact this)) (by assumption) ?_
      try simp only [List.getElem_toArray, List.getElem_cons_zero, List.getElem_cons_succ, Act.put, List.setIfInBounds_toArray, List.set_cons_zero, List.set_cons_succ]
      refine wpAnyH_take (i := 16) (oi := _) (v := ?va16) rfl (by kernel_rfl) (by kernel_rfl) (by kernel_rfl) (fun _ _ _ h => h) (Or.inl ⟨by rfl, ?hya16⟩) (by assumption) ?resta16
      case hya16 => (intro w hSw; (try dsimp only at hSw); go_split_ands; go_simp; try (with_reducible rfl))
      try simp only [List.getElem_toArray, List.getElem_cons_zero, List.getElem_cons_succ, Act.put, List.setIfInBounds_toArray, List.set_cons_zero, List.set_cons_succ]
      refine wpAnyH_take (i := 17) (oi := _) (v := ?va17) rfl (by kernel_rfl) (by kernel_rfl) (by kernel_rfl) (fun _ _ _ h => h) (Or.inl ⟨by rfl, ?hya17⟩) (by assumption) ?resta17
      case hya17 => (intro w hSw; (try dsimp only at hSw); go_split_ands; go_simp; try (with_reducible rfl))
      try simp only [List.getElem_toArray, List.getElem_cons_zero, List.getElem_cons_succ, Act.put, List.setIfInBounds_toArray, List.set_cons_zero, List.set_cons_succ]
      refine wpAnyH_take (i := 18) (oi := _) (v := ?va18) rfl (by kernel_rfl) (by kernel_rfl) (by kernel_rfl) (fun _ _ _ h => h) (Or.inl ⟨by rfl, ?hya18⟩) (by assumption) ?resta18
      case hya18 => (intro w hSw; (try dsimp only at hSw); go_split_ands; go_simp; try (with_reducible rfl))
      try simp only [List.getElem_toArray, List.getElem_cons_zero, List.getElem_cons_succ, Act.put, List.setIfInBounds_toArray, List.set_cons_zero, List.set_cons_succ]
      refine wpAnyH_take (i := 19) (oi := _) (v := ?va19) rfl (by kernel_rfl) (by kernel_rfl) (by kernel_rfl) (fun _ _ _ h => h) (Or.inl ⟨by rfl, ?hya19⟩) (by assumption) ?resta19
      case hya19 => (intro w hSw; (try dsimp only at hSw); go_split_ands; go_simp; try (with_reducible rfl))
      try simp only [List.getElem_toArray, List.getElem_cons_zero, List.getElem_cons_succ, Act.put, List.setIfInBounds_toArray, List.set_cons_zero, List.set_cons_succ]
      refine wpAnyH_take (i := 20) (oi := _) (v := ?va20) rfl (by kernel_rfl) (by kernel_rfl) (by kernel_rfl) (fun _ _ _ h => h) (Or.inl ⟨by rfl, ?hya20⟩) (by assumption) ?resta20
      case hya20 => (intro w hSw; (try dsimp only at hSw); go_split_ands; go_simp; try (with_reducible rfl))
      try simp only [List.getElem_toArray, List.getElem_cons_zero, List.getElem_cons_succ, Act.put, List.setIfInBounds_toArray, List.set_cons_zero, List.set_cons_succ]
      refine wpAnyH_take (i := 21) (oi := _) (v := .agg o.cs) rfl (by kernel_rfl) (by kernel_rfl) (by kernel_rfl) (fun _ _ _ h => h) (ybdO o38 (by rfl) _ _ _ _ rfl o HA.out rfl rfl rfl rfl) (by assumption) ?_
      try simp only [List.getElem_toArray, List.getElem_cons_zero, List.getElem_cons_succ, Act.put, List.setIfInBounds_toArray, List.set_cons_zero, List.set_cons_succ]
      refine wpAnyH_ready (rs := [22]) (by kernel_rfl) (by simp) ?_
      refine AllReadyH.cons (o := _) rfl (fun K hK => ?_) AllReadyH.nil
      refine step_bsO s22 rfl _ rfl o HA.out rfl ?_
      refine hK.out _ _ ⟨P5.out 0 _ o.at0, P5.out 1 _ o.at1, P5.out 18 _ (Ov.at18 HA.out), P5.out⟩ (fun hHeld => ?_)
      clear hK K
      try simp only [List.getElem_toArray, List.getElem_cons_zero, List.getElem_cons_succ, Act.put, List.setIfInBounds_toArray, List.set_cons_zero, List.set_cons_succ]
      refine wpAnyH_ready (rs := [23]) (by kernel_rfl) (by simp) ?_
      refine AllReadyH.cons (o := _) rfl (fun K hK => ?_) AllReadyH.nil
      refine step_pushO s22 rfl _ _ rfl w.heap.size k wr.heap.size _ (ocs (L.take k)) rfl (by exact O5.out) o HA.out rfl (by exact RX.out) (by exact B5.out.size) (by omega) ?_
      intro v6 w6 hown6 hg6
      have hg6 : (wr.alloc (.cells o.cs 38)).grownBy w6 u3.ownBlock := ⟨hg6.os, hg6.tape, hg6.output, hg6.size, hg6.block⟩
      have B7 := hid (Below.grown B5.out hg6 B5.out.size (fun j hj => (O5.out.lt j hj).1))
      have O6 := hid hown6
      have P7 := hid (PW.out.below B7.out)
      clear hown6 hg6
      refine hK.out _ _ ⟨P7.out 0 _ o.at0, P7.out 1 _ o.at1, P7.out 18 _ (Ov.at18 HA.out), P7.out⟩ (fun hHeld => ?_)
      clear hK K
      try simp only [List.getElem_toArray, List.getElem_cons_zero, List.getElem_cons_succ, Act.put, List.setIfInBounds_toArray, List.set_cons_zero, List.set_cons_succ]
      refine wpAnyH_take (i := 24) (oi := _) (v := ?va24) rfl (by kernel_rfl) (by kernel_rfl) (by kernel_rfl) (fun _ _ _ h => h) (Or.inl ⟨by rfl, ?hya24⟩) (by assumption) ?resta24
      case hya24 => (intro w hSw; (try dsimp only at hSw); go_split_ands; go_simp; try (with_reducible rfl))
      try simp only [List.getElem_toArray, List.getElem_cons_zero, List.getElem_cons_succ, Act.put, List.setIfInBounds_toArray, List.set_cons_zero, List.set_cons_succ]
      refine wpAnyH_done (by kernel_rfl) ?_ _
      go_wp2_with fail
      go_roundw
      case rel =>
        refine ⟨k + 1, by omega, by go_num, ?_, B7.out⟩
        rw [Hid, HT.out, ocs_app, ocs_single]; exact O6.out
      case measure => simp [intOf]; omega
    · obtain rfl : k = n := by omega
      rw [List.take_of_length_le (by rw [HLen.out]; exact Nat.le_refl _)] at HO
      obtain ⟨va, vc, hv, hop⟩ := owns_opts (by rw [HLen.out]; exact HO.out) (fun o ho => (HL.out.ok o ho).below HB.out)
      rw [HLen.out] at hv hop
      subst hv
      have HOP := hid hop
      clear hop
      go_wp2_with fail
      go_ret
      unfold OfOk
      exact ⟨va, vc, rfl, HOP.out, HB.out⟩
end Go.Proofs.YtbgogeojdibmkaaDoor

namespace Go.Proofs.YtbgogeojdibmkaaDoor
open Go.ChangeShapes Go.WideShapes Go.ChangeAt Go.RowKit Go.Deep
set_option linter.unusedVariables false
set_option linter.unusedSimpArgs false

/-- One option in a slice of its own. -/
theorem opts_one (w : World) (t : TypeId) (x : Ov) (h : x.ok w) : Opts (w.alloc (.cells x.cs t)) (some ⟨w.heap.size, 0, none⟩) 1 1 [x] := by
  refine ⟨rfl, Nat.le_refl _, by decide, (fun h => by cases h), fun k hk => ⟨w.heap.size, 0, rfl, ?_⟩, ?_⟩
  · obtain rfl : k = 0 := by omega
    exact (Row.new w t x.cs).part
  · intro o ho
    rw [List.mem_singleton.1 ho]
    exact h.below (balloc (Below.refl _ _) _)
def ex1 : List Int := [0, 0, 5, 255]
def po1 : Po := ⟨6, [0, 0, 5, 255], zeros, []⟩
def po2 : Po := ⟨1, [2], zeros, []⟩
theorem ex1_ok : (encE [po1], encL [po1]) = (0, [6, 4, 0, 0, 5, 255]) := by kernel_rfl
theorem ex2_ok : (encE [po2], encL [po2]) = (0, [1, 2, 0, 0]) := by kernel_rfl
theorem ex3_ok : wordOf 3 = ⟨#[114, 111, 117, 116, 101]⟩ := by kernel_rfl
theorem lies_lit (kd : IntKind) (w : World) (cs : Array Value) (t : TypeId) (l : List Int) (n : Nat) (h : cs.toList = l.map (Value.int kd)) (hn : l.length = n) (hs : n ≤ 100) : Lies kd (w.alloc (.cells cs t)) (some ⟨w.heap.size, 0, none⟩) n n l := by
  subst hn; exact lies_new kd w cs t l h hs
theorem enc_at {B : Nat} (a : Option Addr) (n cap : Nat) (L : List Ov) (P : List Po) (l : List Int) (w : World) (hL : Opts w a n cap L) (hV : Vars B w) (hn : n ≤ 1000) (hP : pos L = P) (he : (encE P, encL P) = (0, l)) :
    Calls Tryd.prog 9 #[.slice a n cap] w fun e w' => ∃ v c, e = .returned (.tuple #[.slice v l.length c, .int .i64 0]) ∧ Lies .u8 w' v l.length c l ∧ Below w.heap.size w w' := by
  refine (encode_any a n cap L w hL hV hn).mono ?_
  rintro e w' ⟨v, rfl, hown, hb⟩
  have h2 : encL P = l := congrArg Prod.snd he
  rw [hP, h2] at hown
  obtain ⟨va, vc, rfl, hl, _⟩ := owns_lies hown
  refine ⟨va, vc, ?_, hl, hb⟩
  rw [hP, show encE P = 0 from congrArg Prod.fst he]
set_option maxHeartbeats 1600000 in
theorem known_any {B : Nat} (w : World) (hV : Vars B w) : Calls Tryd.prog 18 #[] w fun e w' => e = .returned (.bool true) ∧ Below w.heap.size w w' := by
  have B1 := hid (balloc (Below.refl w.heap.size w) (.cells #[.int .i64 0, .int .i64 0, .int .i64 5, .int .i64 255] 3))
  have L1 := hid (lies_lit .i64 w #[.int .i64 0, .int .i64 0, .int .i64 5, .int .i64 255] 3 [0, 0, 5, 255] 4 rfl rfl (by decide))
  have V1 := hid (hV.below B1.out)
  have zo : Oct [] := fun x hx => by cases hx
  clear hV
  go_enter Tryd.func18, Tryd.ntmps18
  go_wp2_with (first
    | (refine bdO2 o43 _ _ rfl rfl 6 ⟨some ⟨w.heap.size, 0, none⟩, 4, 4, [0, 0, 5, 255]⟩ rfl rfl ?_)
    | (refine bsO s23 rfl _ rfl ⟨6, ⟨some ⟨w.heap.size, 0, none⟩, 4, 4, [0, 0, 5, 255]⟩, zeros, Txt.none⟩ adr_zeros rfl ?_))
  have hs1 : (w.alloc (.cells #[.int .i64 0, .int .i64 0, .int .i64 5, .int .i64 255] 3)).heap.size = w.heap.size + 1 := World.size_alloc ..
  generalize hw1 : w.alloc (.cells #[.int .i64 0, .int .i64 0, .int .i64 5, .int .i64 255] 3) = w1 at *
  have OP := hid (opts_one w1 43 ⟨6, ⟨some ⟨w.heap.size, 0, none⟩, 4, 4, [0, 0, 5, 255]⟩, zeros, Txt.none⟩ ⟨L1.out, adr_zeros, Lies.nil _ _, zo⟩)
  rw [hs1] at OP
  have BA := hid (balloc (Below.refl w1.heap.size w1) (.cells (Ov.cs ⟨6, ⟨some ⟨w.heap.size, 0, none⟩, 4, 4, [0, 0, 5, 255]⟩, zeros, Txt.none⟩) 43))
  have V2 := hid (V1.out.below BA.out)
  have B2 := hid (bthen B1.out BA.out)
  clear hw1 hs1
  refine (enc_at _ 1 1 _ [po1] _ _ OP.out V2.out (by decide) rfl ex1_ok).mono ?_
  rintro e w2 ⟨a2, c2, rfl, hl2, hb2⟩
  have L2 := hid hl2
  have B3 := hid (bthen B2.out hb2)
  have V3 := hid (V2.out.below hb2)
  clear hl2 hb2 OP BA V2 B2 V1 B1 L1
  have B4 := hid (balloc (Below.refl w2.heap.size w2) (.cells #[.int .i64 2] 3))
  have L4 := hid (lies_lit .i64 w2 #[.int .i64 2] 3 [2] 1 rfl rfl (by decide))
  have V4 := hid (V3.out.below B4.out)
  have hs4 : (w2.alloc (.cells #[.int .i64 2] 3)).heap.size = w2.heap.size + 1 := World.size_alloc ..
  go_wp2_with (first
    | (refine bdO2 o43 _ _ rfl rfl 1 ⟨some ⟨w2.heap.size, 0, none⟩, 1, 1, [2]⟩ rfl rfl ?_)
    | (refine bsO s23 rfl _ rfl ⟨1, ⟨some ⟨w2.heap.size, 0, none⟩, 1, 1, [2]⟩, zeros, Txt.none⟩ adr_zeros rfl ?_))
  generalize hw4 : w2.alloc (.cells #[.int .i64 2] 3) = w4 at *
  have OP := hid (opts_one w4 43 ⟨1, ⟨some ⟨w2.heap.size, 0, none⟩, 1, 1, [2]⟩, zeros, Txt.none⟩ ⟨L4.out, adr_zeros, Lies.nil _ _, zo⟩)
  rw [hs4] at OP
  have BA := hid (balloc (Below.refl w4.heap.size w4) (.cells (Ov.cs ⟨1, ⟨some ⟨w2.heap.size, 0, none⟩, 1, 1, [2]⟩, zeros, Txt.none⟩) 43))
  have V5 := hid (V4.out.below BA.out)
  have B5 := hid (bthen B4.out BA.out)
  clear hw4 hs4
  refine (enc_at _ 1 1 _ [po2] _ _ OP.out V5.out (by decide) rfl ex2_ok).mono ?_
  rintro e w6 ⟨a6, c6, rfl, hl6, hb6⟩
  have L6 := hid hl6
  have B6 := hid (bthen B5.out hb6)
  have B7 := hid (bthen B3.out B6.out)
  have V6 := hid (V5.out.below hb6)
  have L7 := hid (L2.out.below B6.out)
  clear hl6 hb6 OP BA V5 B5 V4 B4 L4 L2 B3 V3 B6
  have LA := hid (lies_lit .u8 w6 #[.int .u8 6, .int .u8 4, .int .u8 0, .int .u8 0, .int .u8 5, .int .u8 255] 5 [6, 4, 0, 0, 5, 255] 6 rfl rfl (by decide))
  have BA := hid (balloc (Below.refl w6.heap.size w6) (.cells #[.int .u8 6, .int .u8 4, .int .u8 0, .int .u8 0, .int .u8 5, .int .u8 255] 5))
  go_wp2_with fail
  generalize hw7 : w6.alloc (.cells #[.int .u8 6, .int .u8 4, .int .u8 0, .int .u8 0, .int .u8 5, .int .u8 255] 5) = w7 at *
  refine (same_any a2 _ 6 c2 6 6 [6, 4, 0, 0, 5, 255] [6, 4, 0, 0, 5, 255] _ (L7.out.below BA.out) LA.out).mono ?_
  rintro e w8 ⟨rfl, q, rfl⟩
  have BB := hid (bdrew (bthen B7.out BA.out) q)
  have L8 := hid ((L6.out.below BA.out).drewN q)
  have V8 := hid ((V6.out.below BA.out).drewN q)
  generalize hw9 : w7.drewN q = w9 at *
  have LC := hid (lies_lit .u8 w9 #[.int .u8 1, .int .u8 2, .int .u8 0, .int .u8 0] 5 [1, 2, 0, 0] 4 rfl rfl (by decide))
  have BC := hid (balloc (Below.refl w9.heap.size w9) (.cells #[.int .u8 1, .int .u8 2, .int .u8 0, .int .u8 0] 5))
  rw [show (([6, 4, 0, 0, 5, 255] : List Int) == [6, 4, 0, 0, 5, 255]) = true from rfl]
  clear hw9 hw7 LA L7 L6 V6 B7 BA
  go_wp2_with fail
  generalize hw10 : w9.alloc (.cells #[.int .u8 1, .int .u8 2, .int .u8 0, .int .u8 0] 5) = w10 at *
  refine (same_any a6 _ 4 c6 4 4 [1, 2, 0, 0] [1, 2, 0, 0] _ (L8.out.below BC.out) LC.out).mono ?_
  rintro e w11 ⟨rfl, q2, rfl⟩
  have BD := hid (bdrew (bthen BB.out BC.out) q2)
  have V9 := hid ((V8.out.below BC.out).drewN q2)
  rw [show (([1, 2, 0, 0] : List Int) == [1, 2, 0, 0]) = true from rfl]
  generalize hw12 : w10.drewN q2 = w12 at *
  clear hw12 hw10 LC L8 V8 BB BC
  go_wp2_with fail
  refine (word_any 3 _ V9.out).mono ?_
  rintro e w12 ⟨rfl, rfl⟩
  rw [ex3_ok]
  go_wp2_with fail
  go_ret
  exact ⟨rfl, BD.out⟩
end Go.Proofs.YtbgogeojdibmkaaDoor

namespace Go.Proofs.YtbgogeojdibmkaaDoor
open Go.ChangeShapes Go.WideShapes Go.ChangeAt Go.RowKit Go.Deep
set_option linter.unusedVariables false
set_option linter.unusedSimpArgs false

set_option maxHeartbeats 400000 in
theorem equal39_len (a b : Option Addr) (n ca cb : Nat) (l m : List Int) (w : World) (ha : Lies .i64 w a n ca l) (hb : Lies .i64 w b n cb m) :
    Calls Tryd.prog 39 #[.slice a n ca, .slice b n cb] w fun e w' => e = .returned (.bool (l == m)) ∧ ∃ q, w' = w.drewN q := by
  obtain ⟨hl, hlc, hcm, _, hc⟩ := ha
  obtain ⟨hl2, hlc2, hcm2, _, hc2⟩ := hb
  unfold maxLen at hcm hcm2
  have HC : Hid _ := hc
  have HL : Hid (l.length = n) := hl
  have HC2 : Hid _ := hc2
  have HL2 : Hid (m.length = n) := hl2
  clear hc hl hc2 hl2
  go_enter Tryd.func39, Tryd.ntmps39
  go_wp2
  go_loopw [13] (fun i wr => ∃ k : Nat, k ≤ n ∧ i = .int .i64 k ∧ Hid (l.take k = m.take k) ∧ ∃ q, wr = w.drewN q) (fun i _ => n - (intOf i).toNat)
  case atStart => exact ⟨0, Nat.zero_le _, rfl, rfl, 0, rfl⟩
  case round =>
    obtain ⟨k, hk, rfl, hall, q, rfl⟩ := hrel
    by_cases hlt : k < n
    · obtain ⟨b1, off1, rfl, hcell1⟩ := HC.out k hlt
      obtain ⟨b2, off2, rfl, hcell2⟩ := HC2.out k hlt
      have HD : Hid (l.getD k 0 ≠ m.getD k 0 → (l == m) = false) := take_differ l m k (by rw [HL.out]; exact hlt) (by rw [HL2.out]; exact hlt)
      have HS : Hid (l.getD k 0 = m.getD k 0 → l.take (k + 1) = m.take (k + 1)) := take_same l m k (by rw [HL.out]; exact hlt) (by rw [HL2.out]; exact hlt) hall.out
      have hlt' : (k : Int) < (n : Int) := by omega
      generalize l.getD k 0 = x at *
      generalize m.getD k 0 = y at *
      go_wp2
      go_quiet (fail)
      by_cases hxy : x = y
      · have hb : (x != y) = false := by simp [hxy]
        have HX : Hid (x = y) := hxy
        clear hxy
        go_wp2
        go_roundw
        case rel => exact ⟨k + 1, by omega, by go_num, HS.out HX.out, q + nq, rfl⟩
        case measure => simp [intOf]; omega
      · have hb : (x != y) = true := by rw [bne_iff_ne]; exact hxy
        go_wp2
        go_ret
        exact ⟨ret_bool (HD.out hxy).symm, q + nq, World.drewN_drewN ..⟩
    · obtain rfl : k = n := by omega
      go_wp2
      go_ret
      refine ⟨ret_bool ?_, q, rfl⟩
      have h1 : l.take k = l := List.take_of_length_le (by rw [HL.out]; exact Nat.le_refl _)
      have h2 : m.take k = m := List.take_of_length_le (by rw [HL2.out]; exact Nat.le_refl _)
      have := hall.out
      rw [h1, h2] at this
      simp [this]
theorem equal39_any (a b : Option Addr) (la ca lb cb : Nat) (l m : List Int) (w : World) (ha : Lies .i64 w a la ca l) (hb : Lies .i64 w b lb cb m) :
    Calls Tryd.prog 39 #[.slice a la ca, .slice b lb cb] w fun e w' => e = .returned (.bool (l == m)) ∧ ∃ q, w' = w.drewN q := by
  by_cases h : la = lb
  · subst h; exact equal39_len a b la ca cb l m w ha hb
  · have hne : ((la : Int) != (lb : Int)) = true := by rw [bne_iff_ne]; omega
    have HE : Hid ((l == m) = false) := by
      rw [Hid, beq_eq_false_iff_ne]
      intro e; subst e
      exact h (ha.1.symm.trans hb.1)
    clear h ha hb
    go_enter Tryd.func39, Tryd.ntmps39
    go_wp2
    go_ret
    exact ⟨ret_bool HE.out.symm, 0, rfl⟩
set_option maxHeartbeats 400000 in
theorem equal40_len (a b : Option Addr) (n ca cb : Nat) (l m : List Int) (w : World) (ha : Lies .u8 w a n ca l) (hb : Lies .u8 w b n cb m) :
    Calls Tryd.prog 40 #[.slice a n ca, .slice b n cb] w fun e w' => e = .returned (.bool (l == m)) ∧ ∃ q, w' = w.drewN q := by
  obtain ⟨hl, hlc, hcm, _, hc⟩ := ha
  obtain ⟨hl2, hlc2, hcm2, _, hc2⟩ := hb
  unfold maxLen at hcm hcm2
  have HC : Hid _ := hc
  have HL : Hid (l.length = n) := hl
  have HC2 : Hid _ := hc2
  have HL2 : Hid (m.length = n) := hl2
  clear hc hl hc2 hl2
  go_enter Tryd.func40, Tryd.ntmps40
  go_wp2
  go_loopw [13] (fun i wr => ∃ k : Nat, k ≤ n ∧ i = .int .i64 k ∧ Hid (l.take k = m.take k) ∧ ∃ q, wr = w.drewN q) (fun i _ => n - (intOf i).toNat)
  case atStart => exact ⟨0, Nat.zero_le _, rfl, rfl, 0, rfl⟩
  case round =>
    obtain ⟨k, hk, rfl, hall, q, rfl⟩ := hrel
    by_cases hlt : k < n
    · obtain ⟨b1, off1, rfl, hcell1⟩ := HC.out k hlt
      obtain ⟨b2, off2, rfl, hcell2⟩ := HC2.out k hlt
      have HD : Hid (l.getD k 0 ≠ m.getD k 0 → (l == m) = false) := take_differ l m k (by rw [HL.out]; exact hlt) (by rw [HL2.out]; exact hlt)
      have HS : Hid (l.getD k 0 = m.getD k 0 → l.take (k + 1) = m.take (k + 1)) := take_same l m k (by rw [HL.out]; exact hlt) (by rw [HL2.out]; exact hlt) hall.out
      have hlt' : (k : Int) < (n : Int) := by omega
      generalize l.getD k 0 = x at *
      generalize m.getD k 0 = y at *
      go_wp2
      go_quiet (fail)
      by_cases hxy : x = y
      · have hb : (x != y) = false := by simp [hxy]
        have HX : Hid (x = y) := hxy
        clear hxy
        go_wp2
        go_roundw
        case rel => exact ⟨k + 1, by omega, by go_num, HS.out HX.out, q + nq, rfl⟩
        case measure => simp [intOf]; omega
      · have hb : (x != y) = true := by rw [bne_iff_ne]; exact hxy
        go_wp2
        go_ret
        exact ⟨ret_bool (HD.out hxy).symm, q + nq, World.drewN_drewN ..⟩
    · obtain rfl : k = n := by omega
      go_wp2
      go_ret
      refine ⟨ret_bool ?_, q, rfl⟩
      have h1 : l.take k = l := List.take_of_length_le (by rw [HL.out]; exact Nat.le_refl _)
      have h2 : m.take k = m := List.take_of_length_le (by rw [HL2.out]; exact Nat.le_refl _)
      have := hall.out
      rw [h1, h2] at this
      simp [this]
theorem equal40_any (a b : Option Addr) (la ca lb cb : Nat) (l m : List Int) (w : World) (ha : Lies .u8 w a la ca l) (hb : Lies .u8 w b lb cb m) :
    Calls Tryd.prog 40 #[.slice a la ca, .slice b lb cb] w fun e w' => e = .returned (.bool (l == m)) ∧ ∃ q, w' = w.drewN q := by
  by_cases h : la = lb
  · subst h; exact equal40_len a b la ca cb l m w ha hb
  · have hne : ((la : Int) != (lb : Int)) = true := by rw [bne_iff_ne]; omega
    have HE : Hid ((l == m) = false) := by
      rw [Hid, beq_eq_false_iff_ne]
      intro e; subst e
      exact h (ha.1.symm.trans hb.1)
    clear h ha hb
    go_enter Tryd.func40, Tryd.ntmps40
    go_wp2
    go_ret
    exact ⟨ret_bool HE.out.symm, 0, rfl⟩
/-- Are two options the same? -/
def Po.eqB (p q : Po) : Bool := p.k == q.k && (p.ad == q.ad && (p.n == q.n && p.t == q.t))
theorem Po.eqB_self (p : Po) : p.eqB p = true := by simp [Po.eqB]
theorem Po.eq_of {p q : Po} (h : p.eqB q = true) : p = q := by
  simp [Po.eqB] at h
  obtain ⟨h1, h2, h3, h4⟩ := h
  cases p; cases q; simp_all
set_option maxHeartbeats 1600000 in
theorem same1_any (o p : Ov) (w : World) (ho : o.ok w) (hp : p.ok w) :
    Calls Tryd.prog 38 #[.agg o.cs, .agg p.cs] w fun e w' => e = .returned (.bool (o.p.eqB p.p)) ∧ Below w.heap.size w w' := by
  have B0 := hid (balloc (balloc (Below.refl w.heap.size w) (.cells o.cs 43)) (.cells p.cs 43))
  have R0 := hid ((Row.new w 43 o.cs).alloc (.cells p.cs 43))
  have R1 := hid (Row.new (w.alloc (.cells o.cs 43)) 43 p.cs)
  have hs1 : (w.alloc (.cells o.cs 43)).heap.size = w.heap.size + 1 := World.size_alloc ..
  rw [hs1] at R1
  have O0 := hid (ho.below B0.out)
  have P0 := hid (hp.below B0.out)
  have HA := hid ho.ad
  have HB := hid hp.ad
  have hq := eq41 o.ad p.ad ho.ad.1 hp.ad.1
  have HF : Hid (o.p.eqB p.p = (o.k == p.k && (o.ad == p.ad && (o.n.l == p.n.l && o.t.l == p.t.l)))) := rfl
  have cN := hid (fun w' (hb : Below w.heap.size w w') => equal39_any o.n.a p.n.a o.n.n o.n.cap p.n.n p.n.cap o.n.l p.n.l w' (ho.n.below hb) (hp.n.below hb))
  have cT := hid (fun w' (hb : Below w.heap.size w w') => equal40_any o.t.a p.t.a o.t.n o.t.cap p.t.n p.t.cap o.t.l p.t.l w' (ho.t.below hb) (hp.t.below hb))
  generalize o.p.eqB p.p = fb at *
  clear ho hp hs1
  generalize hkk : (o.k == p.k) = kb at *
  generalize (o.ad == p.ad) = ab at *
  generalize (o.n.l == p.n.l) = nb at *
  generalize (o.t.l == p.t.l) = tb at *
  go_enter Tryd.func38, Tryd.ntmps38
  go_upto_region 1 with fail
  generalize hw1 : (w.alloc (.cells o.cs 43)).alloc (.cells p.cs 43) = w1 at *
  have a0 := (R0.out.cell 0).trans o.at0
  have b0 := (R1.out.cell 0).trans p.at0
  have a1 := (R0.out.cell 1).trans o.at1
  have b1 := (R1.out.cell 1).trans p.at1
  have a18 := (R0.out.cell 18).trans (Ov.at18 HA.out)
  have b18 := (R1.out.cell 18).trans (Ov.at18 HB.out)
  have PA := hid (R0.out.part.ovA HA.out)
  have PB := hid (R1.out.part.ovA HB.out)
  clear hw1
  cases kb
  · go_wp2_with fail
    go_ret
    exact ⟨ret_bool (by rw [HF.out]; rfl), B0.out⟩
  · cases ab
    · go_wp2_with (first | (refine ld41 _ rfl rfl _ _ rfl o.ad HA.out PA.out ?_) | (refine ld41 _ rfl rfl _ _ rfl p.ad HB.out PB.out ?_))
      go_ret
      exact ⟨ret_bool (by rw [HF.out]; rfl), B0.out⟩
    · go_wp2_with (first | (refine ld41 _ rfl rfl _ _ rfl o.ad HA.out PA.out ?_) | (refine ld41 _ rfl rfl _ _ rfl p.ad HB.out PB.out ?_))
      refine (cN.out _ B0.out).mono ?_
      rintro e w2 ⟨rfl, q, rfl⟩
      have B2 := hid (bdrew B0.out q)
      cases nb
      · go_wp2_with fail
        go_ret
        exact ⟨ret_bool (by rw [HF.out]; rfl), B2.out⟩
      · go_wp2_with fail
        refine (cT.out _ B2.out).mono ?_
        rintro e w3 ⟨rfl, q3, rfl⟩
        cases tb
        · go_wp2_with fail
          go_ret
          exact ⟨ret_bool (by rw [HF.out]; rfl), bdrew B0.out _⟩
        · go_wp2_with fail
          go_ret
          exact ⟨ret_bool (by rw [HF.out]; rfl), bdrew B0.out _⟩
end Go.Proofs.YtbgogeojdibmkaaDoor

namespace Go.Proofs.YtbgogeojdibmkaaDoor
open Go.ChangeShapes Go.WideShapes Go.ChangeAt Go.RowKit Go.Deep
set_option linter.unusedVariables false
set_option linter.unusedSimpArgs false

/-- Are the first ones the same? -/
def allTo (L M : List Po) (j : Nat) : Bool := (List.range j).all fun i => (L.getD i Po.none).eqB (M.getD i Po.none)
def allB (L M : List Po) : Bool := (L.length == M.length) && allTo L M L.length
theorem allTo_succ (L M : List Po) (j : Nat) : allTo L M (j + 1) = (allTo L M j && (L.getD j Po.none).eqB (M.getD j Po.none)) := by
  unfold allTo; rw [List.range_succ, List.all_append]; simp
theorem allTo_no (L M : List Po) (j n : Nat) (hj : j < n) (h : (L.getD j Po.none).eqB (M.getD j Po.none) = false) : allTo L M n = false := by
  unfold allTo; rw [List.all_eq_false]; exact ⟨j, by simpa using hj, by simpa using h⟩
theorem allB_self (L : List Po) : allB L L = true := by
  simp [allB, allTo, Po.eqB_self]
theorem allB_one (p q : Po) : allB [p] [q] = p.eqB q := by simp [allB, allTo, List.range_succ]
set_option maxRecDepth 100000 in
set_option maxHeartbeats 1600000 in
theorem equalFunc_any (a b : Option Addr) (n ca m cb : Nat) (L M : List Ov) (w : World) (hL : Opts w a n ca L) (hM : Opts w b m cb M) :
    Calls Tryd.prog 37 #[.slice a n ca, .slice b m cb, .func (.func 38) #[] #[]] w fun e w' => e = .returned (.bool (allB (pos L) (pos M))) ∧ Below w.heap.size w w' := by
  have hz := zov
  have k1 := Nat.le_trans hL.le hL.max
  have k2 := Nat.le_trans hM.le hM.max
  unfold maxLen at k1 k2
  have HL := hid hL
  have HM := hid hM
  have HF : Hid (allB (pos L) (pos M) = ((n == m) && allTo (pos L) (pos M) n)) := by rw [Hid, allB, pos_len, pos_len, hL.len, hM.len]
  have ll := hid hL.len
  have lm := hid hM.len
  clear hL hM
  generalize allB (pos L) (pos M) = fb at *
  by_cases hnm : n = m
  · subst hnm
    have HF : Hid (fb = allTo (pos L) (pos M) n) := by rw [Hid, HF.out]; simp
    go_enter Tryd.func37, Tryd.ntmps37
    go_wp2_with fail
    go_loopw [17] (fun i wr => ∃ j : Nat, j ≤ n ∧ i = .int .i64 j ∧ Hid (allTo (pos L) (pos M) j = true) ∧ Hid (Below w.heap.size w wr)) (fun i _ => n - (intOf i).toNat)
    case atStart => exact ⟨0, Nat.zero_le _, rfl, rfl, Below.refl _ _⟩
    case round =>
      obtain ⟨j, hj, rfl, hall, hb⟩ := hrel
      by_cases hlt : j < n
      · have hlt' : (j : Int) < (n : Int) := by omega
        obtain ⟨b1, off1, rfl, hp1⟩ := (HL.out.below hb.out).cell j hlt
        obtain ⟨b2, off2, rfl, hp2⟩ := (HM.out.below hb.out).cell j hlt
        have ok1 := (HL.out.below hb.out).at j hlt
        have ok2 := (HM.out.below hb.out).at j hlt
        have HS := hid (allTo_succ (pos L) (pos M) j)
        have HN := hid (allTo_no (pos L) (pos M) j n hlt)
        rw [pos_at L j (by rw [ll.out]; exact hlt), pos_at M j (by rw [lm.out]; exact hlt)] at HS HN
        generalize L.getD j Ov.zero = o at *
        generalize M.getD j Ov.zero = p at *
        have P1 := hid hp1
        have P2 := hid hp2
        have O1 := hid ok1
        have O2 := hid ok2
        have A1 := hid ok1.ad
        have A2 := hid ok2.ad
        clear hp1 hp2 ok1 ok2
        have Ra := hid (layO_new wr 43 o)
        have Ba := hid (layO_below wr 43 o)
        go_upto_region 6 with (first | (refine ldO o43 _ rfl rfl _ _ rfl o A1.out P1.out ?_) | (refine stO o43 _ _ rfl rfl wr.heap.size o A1.out rfl rfl 43 Ov.zero adr_zeros (Row.new wr 43 _) ?_))
        generalize hw2 : (wr.alloc (.cells Ov.zero.cs 43)).setRow wr.heap.size o.cs = w2 at *
        generalize hg1 : wr.heap.size = g1 at *
        have P3 := hid (Part.below P2.out (by rw [hg1]; exact Ba.out))
        have O3 := hid (O1.out.below (by rw [hg1]; exact Ba.out))
        have O4 := hid (O2.out.below (by rw [hg1]; exact Ba.out))
        have B3 := hid (bthen hb.out (by rw [hg1]; exact Ba.out))
        clear hw2 P1 P2 O1 O2
        have Rb := hid (layO_new w2 43 p)
        have Bb := hid (layO_below w2 43 p)
        have Rc := hid (Ra.out.below Bb.out)
        go_upto_region 7 with (first | (refine ldO o43 _ rfl rfl _ _ rfl p A2.out P3.out ?_) | (refine stO o43 _ _ rfl rfl w2.heap.size p A2.out rfl rfl 43 Ov.zero adr_zeros (Row.new w2 43 _) ?_))
        generalize hw3 : (w2.alloc (.cells Ov.zero.cs 43)).setRow w2.heap.size p.cs = w3 at *
        have O5 := hid (O3.out.below Bb.out)
        have O6 := hid (O4.out.below Bb.out)
        have B4 := hid (bthen B3.out Bb.out)
        generalize hg2 : w2.heap.size = g2 at *
        clear hw3 O3 O4 P3 hg1 hg2
        go_wp2_with (first | (refine ldO o43 _ rfl rfl _ _ rfl o A1.out Rc.out.part ?_) | (refine ldO o43 _ rfl rfl _ _ rfl p A2.out Rb.out.part ?_))
        refine (same1_any o p _ O5.out O6.out).mono ?_
        rintro e w4 ⟨rfl, hb4⟩
        have B5 := hid (bthen B4.out hb4)
        clear hb4
        cases hc : o.p.eqB p.p
        · rw [hc] at HN
          go_wp2_with fail
          go_ret
          exact ⟨ret_bool (by rw [HF.out]; exact (HN.out (by simp)).symm), B5.out⟩
        · rw [hc] at HS
          go_wp2_with fail
          go_roundw
          case rel => exact ⟨j + 1, by omega, by go_num, by rw [Hid, HS.out, hall.out]; rfl, B5.out⟩
          case measure => simp [intOf]; omega
      · obtain rfl : j = n := by omega
        go_wp2_with fail
        go_ret
        exact ⟨ret_bool (by rw [HF.out]; exact hall.out.symm), hb.out⟩
  · have hne : ((n : Int) != (m : Int)) = true := by rw [bne_iff_ne]; omega
    have HF : Hid (fb = false) := by rw [Hid, HF.out]; simp [hnm]
    clear hnm
    go_enter Tryd.func37, Tryd.ntmps37
    go_wp2_with fail
    go_ret
    exact ⟨ret_bool HF.out.symm, Below.refl _ _⟩
theorem oSame_any (a b : Option Addr) (n ca m cb : Nat) (L M : List Ov) (w : World) (hL : Opts w a n ca L) (hM : Opts w b m cb M) :
    Calls Tryd.prog 21 #[.slice a n ca, .slice b m cb] w fun e w' => e = .returned (.bool (allB (pos L) (pos M))) ∧ Below w.heap.size w w' := by
  have HL := hid hL
  have HM := hid hM
  clear hL hM
  go_enter Tryd.func21, Tryd.ntmps21
  go_wp2_with fail
  refine (equalFunc_any a b n ca m cb L M _ HL.out HM.out).mono ?_
  rintro e w' ⟨rfl, hb⟩
  go_wp2_with fail
  go_ret
  exact ⟨rfl, hb⟩
end Go.Proofs.YtbgogeojdibmkaaDoor

namespace Go.Proofs.YtbgogeojdibmkaaDoor
open Go.ChangeShapes Go.WideShapes Go.ChangeAt Go.RowKit Go.Deep
set_option linter.unusedVariables false
set_option linter.unusedSimpArgs false

theorem eqB_bits (o p : Ov) : o.p.eqB p.p = (o.k == p.k && (o.ad == p.ad && (o.n.l == p.n.l && o.t.l == p.t.l))) := rfl
set_option maxRecDepth 100000 in
set_option maxHeartbeats 1600000 in
theorem refSame_any (o p : Ov) (w : World) (ho : o.ok w) (hp : p.ok w) :
    Calls Tryd.prog 36 #[.agg o.cs, .agg p.cs] w fun e w' => e = .returned (.bool (o.p.eqB p.p)) ∧ Below w.heap.size w w' := by
  have B0 := hid (balloc (balloc (Below.refl w.heap.size w) (.cells o.cs 38)) (.cells p.cs 38))
  have R0 := hid ((Row.new w 38 o.cs).alloc (.cells p.cs 38))
  have R1 := hid (Row.new (w.alloc (.cells o.cs 38)) 38 p.cs)
  have hs1 : (w.alloc (.cells o.cs 38)).heap.size = w.heap.size + 1 := World.size_alloc ..
  rw [hs1] at R1
  have O0 := hid (ho.below B0.out)
  have P0 := hid (hp.below B0.out)
  have HA := hid ho.ad
  have HB := hid hp.ad
  have hq := eq36 o.ad p.ad ho.ad.1 hp.ad.1
  have HF : Hid (o.p.eqB p.p = (o.k == p.k && (o.ad == p.ad && (o.n.l == p.n.l && o.t.l == p.t.l)))) := eqB_bits o p
  have cT := hid (fun w' (hb : Below w.heap.size w w') => same_any o.t.a p.t.a o.t.n o.t.cap p.t.n p.t.cap o.t.l p.t.l w' (ho.t.below hb) (hp.t.below hb))
  have ln := hid ho.n.1
  have lm := hid hp.n.1
  have k1 := Nat.le_trans ho.n.2.1 ho.n.2.2.1
  have k2 := Nat.le_trans hp.n.2.1 hp.n.2.2.1
  unfold maxLen at k1 k2
  generalize o.p.eqB p.p = fb at *
  clear ho hp hs1
  generalize hkk : (o.k == p.k) = kb at *
  generalize (o.ad == p.ad) = ab at *
  have hkn : (o.k != p.k) = !kb := by rw [bne, hkk]
  clear hkk
  go_enter Tryd.func36, Tryd.ntmps36
  go_upto_region 1 with fail
  generalize hw1 : (w.alloc (.cells o.cs 38)).alloc (.cells p.cs 38) = w1 at *
  have a0 := (R0.out.cell 0).trans o.at0
  have b0 := (R1.out.cell 0).trans p.at0
  have a1 := (R0.out.cell 1).trans o.at1
  have b1 := (R1.out.cell 1).trans p.at1
  have a18 := (R0.out.cell 18).trans (Ov.at18 HA.out)
  have b18 := (R1.out.cell 18).trans (Ov.at18 HB.out)
  have PA := hid (R0.out.part.ovA HA.out)
  have PB := hid (R1.out.part.ovA HB.out)
  clear hw1
  cases kb
  · go_wp2_with fail
    go_ret
    exact ⟨ret_bool (by rw [HF.out]; rfl), B0.out⟩
  · cases ab
    · go_wp2_with (first | (refine ld36 _ rfl rfl _ _ rfl o.ad HA.out PA.out ?_) | (refine ld36 _ rfl rfl _ _ rfl p.ad HB.out PB.out ?_))
      go_ret
      exact ⟨ret_bool (by rw [HF.out]; rfl), B0.out⟩
    · have HF : Hid (fb = (o.n.l == p.n.l && o.t.l == p.t.l)) := by rw [Hid, HF.out]; simp
      by_cases hnn : o.n.n = p.n.n
      · have lm2 : Hid (p.n.l.length = o.n.n) := by rw [Hid, lm.out, hnn]
        rw [← hnn] at b1
        generalize hn : o.n.n = n at *
        have L1 := hid O0.out.n
        have L2 := hid P0.out.n
        rw [hn] at L1
        rw [← hnn] at L2
        have hne : ((n : Int) != (n : Int)) = false := by simp
        clear hnn hn
        go_wp2_with (first | (refine ld36 _ rfl rfl _ _ rfl o.ad HA.out PA.out ?_) | (refine ld36 _ rfl rfl _ _ rfl p.ad HB.out PB.out ?_))
        go_loopw [5] (fun i wr => ∃ k : Nat, k ≤ n ∧ i = .int .i64 k ∧ Hid (o.n.l.take k = p.n.l.take k) ∧ ∃ q, wr = w1.drewN q) (fun i _ => n - (intOf i).toNat)
        case atStart => exact ⟨0, Nat.zero_le _, rfl, rfl, 0, rfl⟩
        case round =>
          obtain ⟨k, hk, rfl, hall, q, rfl⟩ := hrel
          by_cases hlt : k < n
          · obtain ⟨b1', off1, hna, hcell1⟩ := L1.out.2.2.2.2 k hlt
            obtain ⟨b2', off2, hpa, hcell2⟩ := L2.out.2.2.2.2 k hlt
            have HD : Hid (o.n.l.getD k 0 ≠ p.n.l.getD k 0 → (o.n.l == p.n.l) = false) := take_differ _ _ k (by rw [ln.out]; exact hlt) (by rw [lm2.out]; exact hlt)
            have HS : Hid (o.n.l.getD k 0 = p.n.l.getD k 0 → o.n.l.take (k + 1) = p.n.l.take (k + 1)) := take_same _ _ k (by rw [ln.out]; exact hlt) (by rw [lm2.out]; exact hlt) hall.out
            have hlt' : (k : Int) < (n : Int) := by omega
            rw [hna] at a1
            rw [hpa] at b1
            generalize o.n.l.getD k 0 = x at *
            generalize p.n.l.getD k 0 = y at *
            go_wp2_with fail
            go_quiet (fail)
            by_cases hxy : x = y
            · have hb : (x != y) = false := by simp [hxy]
              have HX : Hid (x = y) := hxy
              clear hxy
              go_wp2_with fail
              go_roundw
              case rel => exact ⟨k + 1, by omega, by go_num, HS.out HX.out, q + nq, rfl⟩
              case measure => simp [intOf]; omega
            · have hb : (x != y) = true := by rw [bne_iff_ne]; exact hxy
              go_wp2_with fail
              go_ret
              exact ⟨ret_bool (by rw [HF.out, HD.out hxy]; rfl), by first | exact bdrew B0.out _ | exact bdrew (bdrew B0.out _) _⟩
          · obtain rfl : k = n := by omega
            have HE : Hid ((o.n.l == p.n.l) = true) := by
              have := hall.out
              rw [List.take_of_length_le (by rw [ln.out]; exact Nat.le_refl _), List.take_of_length_le (by rw [lm2.out]; exact Nat.le_refl _)] at this
              rw [Hid, this]; simp
            have B2 := hid (bdrew B0.out q)
            generalize hw2 : w1.drewN q = w2 at *
            have a18' : w2.cell? ⟨w.heap.size, 18, none⟩ = some (.slice o.t.a o.t.n o.t.cap) := by rw [← hw2]; exact a18
            have b18' : w2.cell? ⟨w.heap.size + 1, 18, none⟩ = some (.slice p.t.a p.t.n p.t.cap) := by rw [← hw2]; exact b18
            have a1' : w2.cell? ⟨w.heap.size, 1, none⟩ = some (.slice o.n.a k o.n.cap) := by rw [← hw2]; exact a1
            clear hw2
            go_wp2_with fail
            refine (cT.out _ B2.out).mono ?_
            rintro e w3 ⟨rfl, q3, rfl⟩
            go_wp2_with fail
            go_ret
            exact ⟨ret_bool (by rw [HF.out, HE.out]; simp), bdrew B2.out _⟩
      · have hne : ((o.n.n : Int) != (p.n.n : Int)) = true := by rw [bne_iff_ne]; omega
        have HE : Hid ((o.n.l == p.n.l) = false) := by
          rw [Hid, beq_eq_false_iff_ne]
          intro e
          exact hnn (by rw [← ln.out, ← lm.out, e])
        clear hnn
        go_wp2_with (first | (refine ld36 _ rfl rfl _ _ rfl o.ad HA.out PA.out ?_) | (refine ld36 _ rfl rfl _ _ rfl p.ad HB.out PB.out ?_))
        go_ret
        exact ⟨ret_bool (by rw [HF.out, HE.out]; rfl), B0.out⟩
end Go.Proofs.YtbgogeojdibmkaaDoor
