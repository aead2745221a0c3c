/- What the methods of pack's cursor answer: contracts. · What reading with pack's cursor answers: contracts. · What the exported methods of pack's cursor answer: contracts. · What Within, Peek and Many of pack's cursor answer: contracts. · What Many of pack's cursor answers: contracts. -/
import Derived.Test.YtbfjkhafdkhhmaaDoorM1
import Derived.Deep.RegionWith
namespace Go.Proofs.YtbfjkhafdkhhmaaDoor
open Go.ChangeShapes Go.WideShapes Go.ChangeAt Go.RowKit
set_option linter.unusedVariables false
set_option linter.unusedSimpArgs false

theorem clone_nil (w : World) : Calls Tryd.prog 62 #[.slice none 0 0] w fun e w' => e = .returned (.slice none 0 0) ∧ w' = w := by
  have he := fun w => Lib.run_eql_slice_nil (P := Tryd.prog) w 33 5 none 0 0 0 0 Tryd.underlying33
  go_enter Tryd.func62, Tryd.ntmps62
  go_wp2
  go_ret
  exact ⟨rfl, rfl⟩

theorem clone_some (ad : Addr) (len cap : Nat) (l : List Int) (w : World) (h : Lies .u8 w (some ad) len cap l) (hl : len ≤ 100000) :
    Calls Tryd.prog 62 #[.slice (some ad) len cap] w fun e w' => ∃ v, e = .returned v ∧ w'.ownsRow w.heap.size 5 1 v l.length (u8s l) ∧ Below w.heap.size w w' := by
  have he := fun w => Lib.run_eql_slice_nil (P := Tryd.prog) w 33 5 (some ad) len cap 0 0 Tryd.underlying33
  obtain ⟨i0, hi, hz0, hz1, hz2⟩ := info_parts info5
  have HB : Hid (Lies .u8 w (some ad) len cap l) := h
  have hb1 : Below w.heap.size w (w.alloc (.cells #[] 5)) := (Below.refl _ _).alloc (Nat.le_refl _) _
  have hl1 := HB.out.below hb1
  have hown := World.ownsRow_made (e := 5) (size := 1) (base := w.heap.size) w #[] 0 (Nat.le_refl _) (by decide) (by simp)
  have HO : Hid _ := hown
  have HL1 : Hid _ := hl1
  clear h hown hl1 hb1
  go_enter Tryd.func62, Tryd.ntmps62
  go_wp2_with (at_builtin; refine wpList_append_own _ rfl _ _ 33 rfl w.heap.size 5 i0 (.int .u8 0) 1 1 Tryd.underlying33 hi hz0 hz1 hz2 rfl (by decide) _ _ _ rfl HO.out ad len cap (u8s l) rfl ?c1 (Lies.cells HL1.out ad rfl) (ints_oneCell8 _ _) ?c3 ?c4 ?c5 ?_)
  case c1 => have := HB.out.1; simp [u8s]; omega
  case c3 => unfold maxLen; omega
  case c4 => omega
  intro v1 w1 hown1 hg1 _
  have hb2 : Below w.heap.size w w1 := Below.grown ((Below.refl _ _).alloc (Nat.le_refl _) _) hg1 (by simp) (fun k hk => by cases hk; exact Nat.le_refl _)
  have hln := HB.out.1
  have HW : Hid _ := hown1
  clear hown1 hg1
  go_wp2
  go_ret
  exact ⟨_, rfl, ownsRow_u8 HW.out (by omega) (by simp), hb2⟩

theorem clone_any (a : Option Addr) (len cap : Nat) (l : List Int) (w : World) (h : Lies .u8 w a len cap l) (hl : len ≤ 100000) :
    Calls Tryd.prog 62 #[.slice a len cap] w fun e w' => ∃ v, e = .returned v ∧ w'.ownsRow w.heap.size 5 1 v l.length (u8s l) ∧ Below w.heap.size w w' := by
  cases a with
  | some ad => exact clone_some ad len cap l w h hl
  | none =>
    obtain ⟨rfl, rfl⟩ := h.isNil rfl
    have : l = [] := List.eq_nil_of_length_eq_zero h.1
    subst this
    refine (clone_nil w).mono ?_
    rintro e w' ⟨rfl, rfl⟩
    exact ⟨_, rfl, World.ownsRow_nil _ _ _ _, Below.refl _ _⟩

/-- A row of the call's own, as a slice of bytes. -/
theorem owns_lies {w : World} {base : Nat} {v : Value} {l : List Int} (h : w.ownsRow base 5 1 v l.length (u8s l)) : ∃ a cap, v = .slice a l.length cap ∧ Lies .u8 w a l.length cap l ∧ (∀ ad, a = some ad → base ≤ ad.block ∧ ad.off = 0 ∧ ad.block < w.heap.size ∧ ∀ k, k < cap → w.frozen? ⟨ad.block, k, none⟩ = false) := by
  rcases h.2 with ⟨rfl, hn⟩ | ⟨g, cap, cur, rfl, hb, hg, hnc, hcm, hcs, hx⟩
  · exact ⟨none, 0, by rw [hn], ⟨rfl, by omega, by decide, fun _ => rfl, fun k hk => by omega⟩, fun ad h => by cases h⟩
  · refine ⟨_, cap, rfl, ⟨rfl, hnc, hcm, (fun h => by cases h), fun k hk => ⟨g, 0, rfl, ?_⟩⟩, ?_⟩
    · rw [Nat.zero_add, cell_of_row w g k cur 5 (0, 0) hg]
      have h1 : (cur.toList.take (l.length * 1))[k]? = (u8s l)[k]? := by rw [hx]
      rw [List.getElem?_take, if_pos (by omega)] at h1
      simp [u8s, hk] at h1
      simp [h1, hk]
    · intro ad had
      obtain rfl := Option.some.inj had
      refine ⟨hb, rfl, (Array.getElem?_eq_some_iff.1 hg).1, fun k hk => ?_⟩
      simp [World.frozen?, hg]

theorem hid {p : Prop} (h : p) : Hid p := h

/-- A part of a slice. -/
theorem Lies.cut {kd : IntKind} {w : World} {a : Option Addr} {len cap : Nat} {l : List Int} (h : Lies kd w a len cap l) (lo n mx : Nat) (h1 : lo + n ≤ len) (h2 : lo + n ≤ mx) (h3 : mx ≤ cap) {a' : Option Addr} (ha : ¬ mx = lo → a' = a.map (·.add lo)) (ha' : mx = lo → a' = a) :
    Lies kd w a' n (mx - lo) ((l.drop lo).take n) := by
  obtain ⟨hl, hlc, hcm, hn, hc⟩ := h
  refine ⟨by simp; omega, by omega, by omega, ?_, fun k hk => ?_⟩
  · intro h0
    by_cases hm : mx = lo
    · omega
    · rw [ha hm] at h0
      have : a = none := by cases a <;> simp_all
      have := hn this; omega
  · obtain ⟨b, off, he, hcell⟩ := hc (lo + k) (by omega)
    refine ⟨b, off + lo, ?_, ?_⟩
    · rw [ha (by omega), he]; simp [Addr.add_lit]
    · rw [Nat.add_assoc, hcell]
      have hk2 : lo + k < l.length := by omega
      simp [List.getD, List.getElem?_take, hk, List.getElem?_drop]

/-- A cursor in memory: its window's bytes, how many were passed, what was wrong. -/
structure CurAt (w : World) (c : Nat) (a : Option Addr) (len cap : Nat) (l : List Int) (at_ : Nat) (er : Int) : Prop where
  block : w.heap[c]? = some (.cells #[.slice a len cap, .int .i64 at_, .int .i64 er] 121 (0, 0))
  lies : Lies .u8 w a len cap l
  oct : Oct l
  le : at_ ≤ len
  small : len ≤ 100000

theorem CurAt.cell0 {w : World} {c : Nat} {a : Option Addr} {len cap : Nat} {l : List Int} {at_ : Nat} {er : Int} (h : CurAt w c a len cap l at_ er) : w.cell? ⟨c, 0, none⟩ = some (.slice a len cap) := by
  rw [cell_of_row w c 0 _ _ _ h.block]; rfl
theorem CurAt.cell1 {w : World} {c : Nat} {a : Option Addr} {len cap : Nat} {l : List Int} {at_ : Nat} {er : Int} (h : CurAt w c a len cap l at_ er) : w.cell? ⟨c, 1, none⟩ = some (.int .i64 at_) := by
  rw [cell_of_row w c 1 _ _ _ h.block]; rfl
theorem CurAt.cell2 {w : World} {c : Nat} {a : Option Addr} {len cap : Nat} {l : List Int} {at_ : Nat} {er : Int} (h : CurAt w c a len cap l at_ er) : w.cell? ⟨c, 2, none⟩ = some (.int .i64 er) := by
  rw [cell_of_row w c 2 _ _ _ h.block]; rfl
theorem CurAt.soft {w : World} {c : Nat} {a : Option Addr} {len cap : Nat} {l : List Int} {at_ : Nat} {er : Int} (h : CurAt w c a len cap l at_ er) : ∀ j, w.frozen? ⟨c, j, none⟩ = false := by
  intro j; simp [World.frozen?, h.block]

/-- A block that holds none of a row's bytes. -/
def NoU8 (w : World) (d : Nat) : Prop := ∀ o x, w.cell? ⟨d, o, none⟩ ≠ some (.int .u8 x)
theorem noU8_of {w : World} {d : Nat} {a : Option Addr} {len cap : Nat} {x y : Int} {t : TypeId} {fr : Nat × Nat} (h : w.heap[d]? = some (.cells #[.slice a len cap, .int .i64 x, .int .i64 y] t fr)) : NoU8 w d := by
  intro o z hz
  rw [cell_of_row w d o _ _ _ h] at hz
  match o, hz with
  | 0, hz => simp at hz
  | 1, hz => simp at hz
  | 2, hz => simp at hz
  | o + 3, hz => simp at hz
theorem CurAt.noU8 {w : World} {c : Nat} {a : Option Addr} {len cap : Nat} {l : List Int} {at_ : Nat} {er : Int} (h : CurAt w c a len cap l at_ er) : NoU8 w c := noU8_of h.block

theorem Lies.grown {w w' : World} {d : Nat} {a : Option Addr} {len cap : Nat} {l : List Int} (h : Lies .u8 w a len cap l) (hn : NoU8 w d) (hg : w.grownBy w' (some d)) : Lies .u8 w' a len cap l := by
  refine ⟨h.1, h.2.1, h.2.2.1, h.2.2.2.1, fun k hk => ?_⟩
  obtain ⟨b, off, he, hc⟩ := h.2.2.2.2 k hk
  refine ⟨b, off, he, hg.cell hc ?_⟩
  intro e
  obtain rfl := Option.some.inj e
  exact hn _ _ hc
theorem Lies.drewN {kd : IntKind} {w : World} {a : Option Addr} {len cap : Nat} {l : List Int} (h : Lies kd w a len cap l) (q : Nat) : Lies kd (w.drewN q) a len cap l := h
theorem CurAt.drewN {w : World} {c : Nat} {a : Option Addr} {len cap : Nat} {l : List Int} {at_ : Nat} {er : Int} (h : CurAt w c a len cap l at_ er) (q : Nat) : CurAt (w.drewN q) c a len cap l at_ er := ⟨h.block, h.lies, h.oct, h.le, h.small⟩
theorem grownBy_drewN (w : World) (q : Nat) (row : Option Nat) : w.grownBy (w.drewN q) row := ⟨rfl, rfl, rfl, Nat.le_refl _, fun _ _ _ => rfl⟩
theorem grownBy_setCell (w : World) (c j : Nat) (v : Value) : w.grownBy (w.setCell ⟨c, j, none⟩ v) (some c) :=
  ⟨rfl, rfl, rfl, by simp, fun k _ hne => heap_setCell_other w _ k v (fun e => hne (by rw [e]))⟩

theorem CurAt.setAt {w : World} {c : Nat} {a : Option Addr} {len cap : Nat} {l : List Int} {at_ : Nat} {er : Int} (h : CurAt w c a len cap l at_ er) (n : Nat) (hn : n ≤ len) : CurAt (w.setCell ⟨c, 1, none⟩ (.int .i64 n)) c a len cap l n er :=
  ⟨by rw [heap_setCell_same w c 1 _ _ _ h.block]; rfl, h.lies.grown h.noU8 (grownBy_setCell ..), h.oct, hn, h.small⟩
theorem CurAt.setEr {w : World} {c : Nat} {a : Option Addr} {len cap : Nat} {l : List Int} {at_ : Nat} {er : Int} (h : CurAt w c a len cap l at_ er) (n : Int) : CurAt (w.setCell ⟨c, 2, none⟩ (.int .i64 n)) c a len cap l at_ n :=
  ⟨by rw [heap_setCell_same w c 2 _ _ _ h.block]; rfl, h.lies.grown h.noU8 (grownBy_setCell ..), h.oct, h.le, h.small⟩

theorem over_any (a : Option Addr) (len cap : Nat) (l : List Int) (w : World) (h : Lies .u8 w a len cap l) (ho : Oct l) (hl : len ≤ 100000) :
    Calls Tryd.prog 37 #[.slice a len cap] w fun e w' => ∃ c a' cap', e = .returned (.pointer (some ⟨c, 0, none⟩)) ∧ CurAt w' c a' len cap' l 0 0 ∧ Below w.heap.size w w' ∧ w.heap.size ≤ c ∧ c < w'.heap.size := by
  have HB := hid h
  have HO := hid ho
  clear h ho
  go_enter Tryd.func37, Tryd.ntmps37
  go_wp2_with (go_at_call 62; refine (clone_any _ _ _ l _ HB.out hl).mono ?_; rintro e w1 ⟨v1, rfl, hown1, hb1⟩; obtain ⟨a1, cap1, rfl, hl1, ho1⟩ := owns_lies hown1)
  have hln : l.length = len := HB.out.1
  rw [hln] at hl1
  go_ret
  have hb2 : Below w1.heap.size w1 (w1.alloc (.cells #[.slice a1 l.length cap1, .int .i64 0, .int .i64 0] 121)) := (Below.refl _ _).alloc (Nat.le_refl _) _
  refine ⟨w1.heap.size, a1, cap1, rfl, ⟨?_, hl1.below hb2, HO.out, Nat.zero_le _, hl⟩, hb1.trans (hb2.mono hb1.size), hb1.size, by simp⟩
  rw [heap_alloc_new, hln]; rfl

theorem err_nil (w : World) : Calls Tryd.prog 39 #[.pointer none] w fun e w' => e = .returned (.int .i64 13) ∧ w' = w := by
  go_enter Tryd.func39, Tryd.ntmps39
  go_wp2
  go_ret
  exact ⟨rfl, rfl⟩
theorem err_any (w : World) (c : Nat) (er : Int) (h : w.cell? ⟨c, 2, none⟩ = some (.int .i64 er)) : Calls Tryd.prog 39 #[.pointer (some ⟨c, 0, none⟩)] w fun e w' => e = .returned (.int .i64 er) ∧ w' = w := by
  go_enter Tryd.func39, Tryd.ntmps39
  go_wp2
  go_ret
  exact ⟨rfl, rfl⟩
/-- How many bytes are left. -/
theorem wleft_any (w : World) (c : Nat) (a : Option Addr) (len cap at_ : Nat) (h0 : w.cell? ⟨c, 0, none⟩ = some (.slice a len cap)) (h1 : w.cell? ⟨c, 1, none⟩ = some (.int .i64 at_)) (hle : at_ ≤ len) (hs : len ≤ 100000) :
    Calls Tryd.prog 100 #[.pointer (some ⟨c, 0, none⟩)] w fun e w' => e = .returned (.int .i64 ((len : Int) - at_)) ∧ ∃ q, w' = w.drewN q := by
  go_enter Tryd.func100, Tryd.ntmps100
  go_wp2
  go_quiet (fail)
  go_wp2
  go_ret
  exact ⟨rfl, nq, rfl⟩

/-- Where a part of a slice lies. -/
def cutA (a : Option Addr) (lo n : Nat) : Option Addr := if n = 0 then a else a.map (·.add lo)

theorem Lies.part {kd : IntKind} {w : World} {a : Option Addr} {len cap : Nat} {l : List Int} (h : Lies kd w a len cap l) (lo n : Nat) (h1 : lo + n ≤ len) :
    Lies kd w (cutA a lo n) n n ((l.drop lo).take n) := by
  have := h.cut lo n (lo + n) h1 (Nat.le_refl _) (Nat.le_trans h1 h.2.1) (a' := cutA a lo n) (fun hn => by simp [cutA, show ¬ n = 0 by omega]) (fun hn => by simp [cutA, show n = 0 by omega])
  rwa [Nat.add_sub_cancel_left] at this

theorem ret_slice {a a' : Option Addr} {n n' c c' : Nat} (h : a = a') (hn : n = n') (hc : c = c') : Ending.returned (.slice a n c) = .returned (.slice a' n' c') := by rw [h, hn, hc]

theorem wahead_any (w : World) (c : Nat) (a : Option Addr) (len cap at_ n : Nat) (h0 : w.cell? ⟨c, 0, none⟩ = some (.slice a len cap)) (h1 : w.cell? ⟨c, 1, none⟩ = some (.int .i64 at_)) (hle : at_ + n ≤ len) (hlc : len ≤ cap) (hs : len ≤ 100000) :
    Calls Tryd.prog 107 #[.pointer (some ⟨c, 0, none⟩), .int .i64 n] w fun e w' => e = .returned (.slice (cutA a at_ n) n n) ∧ ∃ q, w' = w.drewN q := by
  by_cases hn : n = 0
  · subst hn
    have HX : Hid (cutA a at_ 0 = a) := by simp [Hid, cutA]
    go_enter Tryd.func107, Tryd.ntmps107
    go_wp2
    go_quiet (fail)
    go_wp2
    all_goals
      go_ret
      exact ⟨ret_slice HX.out.symm (by omega) (by omega), nq, rfl⟩
  · have HX : Hid (cutA a at_ n = a.map (·.add at_)) := by simp [Hid, cutA, hn]
    have hne : ¬ at_ + n = at_ := by omega
    go_enter Tryd.func107, Tryd.ntmps107
    go_wp2
    go_quiet (fail)
    go_wp2
    all_goals
      go_ret
      exact ⟨ret_slice HX.out.symm (by omega) (by omega), nq, rfl⟩

theorem wpass_any (w : World) (c : Nat) (a : Option Addr) (len cap at_ n : Nat) (l : List Int) (er : Int) (h : CurAt w c a len cap l at_ er) (hle : at_ + n ≤ len) :
    Calls Tryd.prog 103 #[.pointer (some ⟨c, 0, none⟩), .int .i64 n] w fun e w' => e = .returned (.slice (cutA a at_ n) n n) ∧ CurAt w' c a len cap l (at_ + n) er ∧ w.grownBy w' (some c) ∧ w'.heap.size = w.heap.size := by
  have h0 := h.cell0
  have h1 := h.cell1
  have hsf := h.soft 1
  have hlc := h.lies.2.1
  have hs := h.small
  have H := hid h
  clear h
  go_enter Tryd.func103, Tryd.ntmps103
  go_wp2_with (go_at_call 107; refine (wahead_any _ c a len cap at_ n ?_ ?_ hle hlc hs).mono ?_; assumption; assumption; rintro e w1 ⟨rfl, q, rfl⟩)
  go_ret
  have hc2 := (H.out.drewN q).setAt (at_ + n) hle
  rw [Int.natCast_add] at hc2
  exact ⟨rfl, hc2, (grownBy_drewN w q _).trans (grownBy_setCell ..), by simp⟩

theorem spoil_nil (w : World) (e : Int) : Calls Tryd.prog 83 #[.pointer none, .int .i64 e] w fun e w' => e = .returned (.tuple #[]) ∧ w' = w := by
  go_enter Tryd.func83, Tryd.ntmps83
  go_wp2_with (go_at_call 39; refine (err_nil _).mono ?_; rintro e w1 ⟨rfl, rfl⟩)
  go_returns
  exact ⟨rfl, rfl⟩
theorem spoil_was (w : World) (c : Nat) (er e : Int) (h : w.cell? ⟨c, 2, none⟩ = some (.int .i64 er)) (he : er ≠ 0) : Calls Tryd.prog 83 #[.pointer (some ⟨c, 0, none⟩), .int .i64 e] w fun e w' => e = .returned (.tuple #[]) ∧ w' = w := by
  have he' : (er == 0) = false := by simp [he]
  go_enter Tryd.func83, Tryd.ntmps83
  go_wp2_with (go_at_call 39; refine (err_any _ _ _ h).mono ?_; rintro e w1 ⟨rfl, rfl⟩)
  go_returns
  exact ⟨rfl, rfl⟩
theorem spoil_now (w : World) (c : Nat) (a : Option Addr) (len cap at_ : Nat) (l : List Int) (e : Int) (h : CurAt w c a len cap l at_ 0) :
    Calls Tryd.prog 83 #[.pointer (some ⟨c, 0, none⟩), .int .i64 e] w fun e' w' => e' = .returned (.tuple #[]) ∧ CurAt w' c a len cap l at_ e ∧ w.grownBy w' (some c) ∧ w'.heap.size = w.heap.size := by
  have h2 := h.cell2
  have hsf := h.soft 2
  have H := hid h
  clear h
  go_enter Tryd.func83, Tryd.ntmps83
  go_wp2_with (go_at_call 39; refine (err_any _ _ _ h2).mono ?_; rintro e w1 ⟨rfl, rfl⟩)
  go_returns
  exact ⟨rfl, H.out.setEr e, grownBy_setCell .., by simp⟩
end Go.Proofs.YtbfjkhafdkhhmaaDoor

namespace Go.Proofs.YtbfjkhafdkhhmaaDoor
open Go.ChangeShapes Go.WideShapes Go.ChangeAt Go.RowKit
set_option linter.unusedVariables false
set_option linter.unusedSimpArgs false

/-- What is wrong behind reading n numbers of a size, of so many bytes that are left. -/
def rdE (size n : Int) (left : Nat) (er : Int) : Int := if er = 0 then (if n < 0 ∨ sizeB size = false then 1 else if (left : Int) < size * n then 4 else 0) else er
/-- How many bytes are read then. -/
def rdN (size n : Int) (left : Nat) (er : Int) : Nat := if rdE size n left er = 0 then (size * n).toNat else 0

theorem rdN_le (size n : Int) (left : Nat) (er : Int) : rdN size n left er ≤ left := by
  by_cases h : rdE size n left er = 0
  · rw [rdN, if_pos h]
    unfold rdE at h
    split at h
    · split at h
      · omega
      · split at h <;> omega
    · omega
  · rw [rdN, if_neg h]; omega

theorem Lies.nil (kd : IntKind) (w : World) : Lies kd w none 0 0 [] := ⟨rfl, by omega, by decide, fun _ => rfl, fun k hk => by omega⟩

/-- What a call of 'read' leaves. -/
def ReadOk (w : World) (c : Nat) (a : Option Addr) (len cap at_ : Nat) (l : List Int) (er : Int) (size n : Int) (e : Ending) (w' : World) : Prop :=
  ∃ a', e = .returned (.slice a' (rdN size n (len - at_) er) (rdN size n (len - at_) er)) ∧ Lies .u8 w' a' (rdN size n (len - at_) er) (rdN size n (len - at_) er) ((l.drop at_).take (rdN size n (len - at_) er)) ∧
    CurAt w' c a len cap l (at_ + rdN size n (len - at_) er) (rdE size n (len - at_) er) ∧ w.grownBy w' (some c) ∧ w'.heap.size = w.heap.size

theorem readOk_no {w w' : World} {c : Nat} {a : Option Addr} {len cap at_ : Nat} {l : List Int} {er size n er' : Int} (hE : rdE size n (len - at_) er = er') (hN : er' ≠ 0) (h : CurAt w' c a len cap l at_ er') (hg : w.grownBy w' (some c)) (hs : w'.heap.size = w.heap.size) :
    ReadOk w c a len cap at_ l er size n (.returned (.slice none 0 0)) w' := by
  have h0 : rdN size n (len - at_) er = 0 := by unfold rdN; rw [hE, if_neg hN]
  refine ⟨none, ?_⟩
  rw [h0, hE]
  exact ⟨rfl, by simpa using Lies.nil .u8 w', h, hg, hs⟩

theorem read_nil (w : World) (size n : Int) : Calls Tryd.prog 98 #[.pointer none, .int .i64 size, .int .i64 n] w fun e w' => e = .returned (.slice none 0 0) ∧ w' = w := by
  go_enter Tryd.func98, Tryd.ntmps98
  go_wp2_with (go_at_call 39; refine (err_nil _).mono ?_; rintro e w1 ⟨rfl, rfl⟩)
  go_ret
  exact ⟨rfl, rfl⟩

theorem read_was (w : World) (c : Nat) (a : Option Addr) (len cap at_ : Nat) (l : List Int) (er size n : Int) (h : CurAt w c a len cap l at_ er) (her : er ≠ 0) :
    Calls Tryd.prog 98 #[.pointer (some ⟨c, 0, none⟩), .int .i64 size, .int .i64 n] w (ReadOk w c a len cap at_ l er size n) := by
  have he' : (er != 0) = true := by rw [bne_iff_ne]; exact her
  have h2 := h.cell2
  have H := hid h
  clear h
  go_enter Tryd.func98, Tryd.ntmps98
  go_wp2_with (go_at_call 39; refine (err_any _ _ _ h2).mono ?_; rintro e w1 ⟨rfl, rfl⟩)
  go_ret
  exact readOk_no (by simp [rdE, her]) her H.out (World.grownBy.refl _ _) rfl

theorem read_neg (w : World) (c : Nat) (a : Option Addr) (len cap at_ : Nat) (l : List Int) (size n : Int) (h : CurAt w c a len cap l at_ 0) (hn : n < 0) :
    Calls Tryd.prog 98 #[.pointer (some ⟨c, 0, none⟩), .int .i64 size, .int .i64 n] w (ReadOk w c a len cap at_ l 0 size n) := by
  have h2 := h.cell2
  have H := hid h
  clear h
  go_enter Tryd.func98, Tryd.ntmps98
  go_wp2_with (first | (go_at_call 39; refine (err_any _ _ _ h2).mono ?_; rintro e w1 ⟨rfl, rfl⟩) | (go_at_call 83; refine (spoil_now _ c a len cap at_ l 1 H.out).mono ?_; rintro e w1 ⟨rfl, hc1, hg1, hs1⟩; have HC1 := hid hc1; have HG1 := hid hg1; have HS1 := hid hs1; clear hc1 hg1 hs1))
  go_ret
  exact readOk_no (by simp [rdE, hn]) (by omega) HC1.out HG1.out HS1.out

theorem read_bad (w : World) (c : Nat) (a : Option Addr) (len cap at_ : Nat) (l : List Int) (size n : Int) (h : CurAt w c a len cap l at_ 0) (hn : 0 ≤ n) (hz : sizeB size = false) :
    Calls Tryd.prog 98 #[.pointer (some ⟨c, 0, none⟩), .int .i64 size, .int .i64 n] w (ReadOk w c a len cap at_ l 0 size n) := by
  have h2 := h.cell2
  have H := hid h
  have hn' : decide (n < 0) = false := by simp; omega
  clear h
  go_enter Tryd.func98, Tryd.ntmps98
  go_wp2_with (first | (go_at_call 39; refine (err_any _ _ _ h2).mono ?_; rintro e w1 ⟨rfl, rfl⟩) | (go_at_call 92; refine (isSize_any _ _).mono ?_; rintro e w1 ⟨rfl, rfl⟩) | (go_at_call 83; refine (spoil_now _ c a len cap at_ l 1 H.out).mono ?_; rintro e w1 ⟨rfl, hc1, hg1, hs1⟩; have HC1 := hid hc1; have HG1 := hid hg1; have HS1 := hid hs1; clear hc1 hg1 hs1))
  go_ret
  exact readOk_no (by simp [rdE, hz]) (by omega) HC1.out HG1.out HS1.out

set_option maxHeartbeats 400000 in
theorem read_end (w : World) (c : Nat) (a : Option Addr) (len cap at_ : Nat) (l : List Int) (size n : Int) (h : CurAt w c a len cap l at_ 0) (hn : 0 ≤ n) (hz : sizeB size = true) (hlt : ((len - at_ : Nat) : Int) < size * n) :
    Calls Tryd.prog 98 #[.pointer (some ⟨c, 0, none⟩), .int .i64 size, .int .i64 n] w (ReadOk w c a len cap at_ l 0 size n) := by
  have hE : rdE size n (len - at_) 0 = 4 := by simp [rdE, hz, hlt]; omega
  have HE := hid hE
  have h0 := h.cell0
  have h1 := h.cell1
  have h2 := h.cell2
  have hle := h.le
  have hsm := h.small
  have H := hid h
  have hn' : decide (n < 0) = false := by simp; omega
  clear h hE
  rcases sizeB_cases hz with rfl | rfl | rfl
  all_goals
    clear hz
    go_enter Tryd.func98, Tryd.ntmps98
    go_wp2_with (first | (go_at_call 39; refine (err_any _ _ _ h2).mono ?_; rintro e w1 ⟨rfl, rfl⟩) | (go_at_call 92; refine (isSize_any _ _).mono ?_; rintro e w1 ⟨rfl, rfl⟩; rw [show sizeB _ = true from rfl]) | (go_at_call 100; refine (wleft_any _ c a len cap at_ h0 h1 hle hsm).mono ?_; rintro e w1 ⟨rfl, q, rfl⟩) | (go_at_call 83; refine (spoil_now _ c a len cap at_ l 4 (H.out.drewN q)).mono ?_; rintro e w1 ⟨rfl, hc1, hg1, hs1⟩; have HC1 := hid hc1; have HG1 := hid hg1; have HS1 := hid hs1; clear hc1 hg1 hs1))
    go_ret
    exact readOk_no HE.out (by omega) HC1.out ((grownBy_drewN _ q _).trans HG1.out) HS1.out

theorem wpass_int (w : World) (c : Nat) (a : Option Addr) (len cap at_ n : Nat) (l : List Int) (er z : Int) (hz : z = n) (h : CurAt w c a len cap l at_ er) (hle : at_ + n ≤ len) :
    Calls Tryd.prog 103 #[.pointer (some ⟨c, 0, none⟩), .int .i64 z] w fun e w' => e = .returned (.slice (cutA a at_ n) n n) ∧ CurAt w' c a len cap l (at_ + n) er ∧ w.grownBy w' (some c) ∧ w'.heap.size = w.heap.size := by
  subst hz; exact wpass_any w c a len cap at_ n l er h hle

set_option maxHeartbeats 400000 in
theorem read_ok (w : World) (c : Nat) (a : Option Addr) (len cap at_ : Nat) (l : List Int) (size n : Int) (h : CurAt w c a len cap l at_ 0) (hn : 0 ≤ n) (hz : sizeB size = true) (hlt : size * n ≤ ((len - at_ : Nat) : Int)) :
    Calls Tryd.prog 98 #[.pointer (some ⟨c, 0, none⟩), .int .i64 size, .int .i64 n] w (ReadOk w c a len cap at_ l 0 size n) := by
  have hE : rdE size n (len - at_) 0 = 0 := by simp [rdE, hz, Int.not_lt.2 hlt]; omega
  have hN : rdN size n (len - at_) 0 = (size * n).toNat := by rw [rdN, if_pos hE]
  have HE := hid hE
  have HN := hid hN
  have h0 := h.cell0
  have h1 := h.cell1
  have h2 := h.cell2
  have hle := h.le
  have hsm := h.small
  have H := hid h
  have hn' : decide (n < 0) = false := by simp; omega
  clear h hE hN
  rcases sizeB_cases hz with rfl | rfl | rfl
  all_goals
    clear hz
    go_enter Tryd.func98, Tryd.ntmps98
    go_wp2_with (first | (go_at_call 39; refine (err_any _ _ _ h2).mono ?_; rintro e w1 ⟨rfl, rfl⟩) | (go_at_call 92; refine (isSize_any _ _).mono ?_; rintro e w1 ⟨rfl, rfl⟩; rw [show sizeB _ = true from rfl]) | (go_at_call 100; refine (wleft_any _ c a len cap at_ h0 h1 hle hsm).mono ?_; rintro e w1 ⟨rfl, q, rfl⟩))
    generalize hm : rdN _ n (len - at_) 0 = m at HN
    have HM := hid hm
    have hm2 := HN.out
    refine (wpass_int _ c a len cap at_ m l 0 _ (by rw [hm2]; omega) (H.out.drewN q) (by omega)).mono ?_
    clear hm hm2
    rintro e w1 ⟨rfl, hc1, hg1, hs1⟩
    have HC1 := hid hc1
    have HG1 := hid hg1
    have HS1 := hid hs1
    clear hc1 hg1 hs1
    go_wp2
    go_ret
    refine ⟨cutA a at_ m, ?_⟩
    rw [HM.out, HE.out]
    have hl1 := HC1.out.lies.part at_ m (by have := HC1.out.le; omega)
    exact ⟨rfl, hl1, HC1.out, (grownBy_drewN _ q _).trans HG1.out, HS1.out⟩

theorem read_any (w : World) (c : Nat) (a : Option Addr) (len cap at_ : Nat) (l : List Int) (er size n : Int) (h : CurAt w c a len cap l at_ er) :
    Calls Tryd.prog 98 #[.pointer (some ⟨c, 0, none⟩), .int .i64 size, .int .i64 n] w (ReadOk w c a len cap at_ l er size n) := by
  by_cases her : er = 0
  · subst her
    by_cases hn : n < 0
    · exact read_neg w c a len cap at_ l size n h hn
    · cases hz : sizeB size
      · exact read_bad w c a len cap at_ l size n h (by omega) hz
      · by_cases hlt : ((len - at_ : Nat) : Int) < size * n
        · exact read_end w c a len cap at_ l size n h (by omega) hz hlt
        · exact read_ok w c a len cap at_ l size n h (by omega) hz (by omega)
  · exact read_was w c a len cap at_ l er size n h her
end Go.Proofs.YtbfjkhafdkhhmaaDoor

namespace Go.Proofs.YtbfjkhafdkhhmaaDoor
open Go.ChangeShapes Go.WideShapes Go.ChangeAt Go.RowKit
set_option linter.unusedVariables false
set_option linter.unusedSimpArgs false

theorem Oct.cut {l : List Int} (h : Oct l) (lo n : Nat) : Oct ((l.drop lo).take n) := fun x hx => h x (List.mem_of_mem_drop (List.mem_of_mem_take hx))
theorem CurAt.below {w w' : World} {c : Nat} {a : Option Addr} {len cap : Nat} {l : List Int} {at_ : Nat} {er : Int} (h : CurAt w c a len cap l at_ er) (hb : Below w.heap.size w w') : CurAt w' c a len cap l at_ er :=
  ⟨(hb.block c (Array.getElem?_eq_some_iff.1 h.block).1).trans h.block, h.lies.below hb, h.oct, h.le, h.small⟩
theorem CurAt.lt {w : World} {c : Nat} {a : Option Addr} {len cap : Nat} {l : List Int} {at_ : Nat} {er : Int} (h : CurAt w c a len cap l at_ er) : c < w.heap.size := (Array.getElem?_eq_some_iff.1 h.block).1
theorem CurAt.grown {w w' : World} {c d : Nat} {a : Option Addr} {len cap : Nat} {l : List Int} {at_ : Nat} {er : Int} (h : CurAt w c a len cap l at_ er) (hn : NoU8 w d) (hcd : c ≠ d) (hg : w.grownBy w' (some d)) : CurAt w' c a len cap l at_ er :=
  ⟨(hg.block c h.lt (fun e => hcd (Option.some.inj e))).trans h.block, h.lies.grown hn hg, h.oct, h.le, h.small⟩
theorem grownBy_below {w w1 w2 : World} {c : Option Nat} (h : w.grownBy w1 c) (hb : Below w1.heap.size w1 w2) : w.grownBy w2 c :=
  ⟨hb.os.trans h.os, hb.tape.trans h.tape, hb.output.trans h.output, Nat.le_trans h.size hb.size, fun k hk hne => (hb.block k (Nat.lt_of_lt_of_le hk h.size)).trans (h.block k hk hne)⟩

theorem rdN_one (size : Int) (left : Nat) (er : Int) : rdN size 1 left er ≤ 4 := by
  unfold rdN
  split
  · rename_i h
    cases hz : sizeB size
    · exfalso
      unfold rdE at h
      split at h
      · rw [if_pos (Or.inr hz)] at h; omega
      · omega
    · rcases sizeB_cases hz with rfl | rfl | rfl <;> omega
  · omega

theorem take_nil (w : World) (size : Int) : Calls Tryd.prog 82 #[.pointer none, .int .i64 size] w fun e w' => e = .returned (.int .i64 0) ∧ w' = w := by
  go_enter Tryd.func82, Tryd.ntmps82
  go_wp2_with (first | (go_at_call 98; refine (read_nil _ _ _).mono ?_; rintro e w1 ⟨rfl, rfl⟩) | (go_at_call 97; refine (number_any none 0 0 [] _ (Lies.nil _ _) (by omega) (fun x hx => by cases hx)).mono ?_; rintro e w1 ⟨rfl, rfl⟩))
  go_ret
  exact ⟨rfl, rfl⟩

/-- The number that is read. -/
def takeV (size : Int) (l : List Int) (at_ len : Nat) (er : Int) : Int := numOf ((l.drop at_).take (rdN size 1 (len - at_) er))

theorem take_any (w : World) (c : Nat) (a : Option Addr) (len cap at_ : Nat) (l : List Int) (er size : Int) (h : CurAt w c a len cap l at_ er) :
    Calls Tryd.prog 82 #[.pointer (some ⟨c, 0, none⟩), .int .i64 size] w fun e w' => e = .returned (.int .i64 (takeV size l at_ len er)) ∧
      CurAt w' c a len cap l (at_ + rdN size 1 (len - at_) er) (rdE size 1 (len - at_) er) ∧ w.grownBy w' (some c) ∧ w'.heap.size = w.heap.size := by
  have H := hid h
  have h4 := rdN_one size (len - at_) er
  have ho := hid (h.oct.cut at_ (rdN size 1 (len - at_) er))
  have HT : Hid (takeV size l at_ len er = _) := rfl
  clear h
  go_enter Tryd.func82, Tryd.ntmps82
  go_wp2_with fail
  refine (read_any _ c a len cap at_ l er size 1 H.out).mono ?_
  rintro e w1 ⟨a1, rfl, hl1, hc1, hg1, hs1⟩
  have HL1 := hid hl1
  have HC1 := hid hc1
  have HG1 := hid hg1
  have HS1 := hid hs1
  clear hl1 hc1 hg1 hs1
  go_wp2_with fail
  refine (number_any _ _ _ _ _ HL1.out h4 ho.out).mono ?_
  rintro e w1 ⟨rfl, rfl⟩
  go_wp2
  go_ret
  exact ⟨rfl, HC1.out, HG1.out, HS1.out⟩

theorem bytes_nil (w : World) (n : Int) : Calls Tryd.prog 84 #[.pointer none, .int .i64 n] w fun e w' => e = .returned (.slice none 0 0) ∧ w' = w := by
  go_enter Tryd.func84, Tryd.ntmps84
  go_wp2_with (first | (go_at_call 98; refine (read_nil _ _ _).mono ?_; rintro e w1 ⟨rfl, rfl⟩) | (go_at_call 62; refine (clone_nil _).mono ?_; rintro e w1 ⟨rfl, rfl⟩))
  go_ret
  exact ⟨rfl, rfl⟩

theorem bytes_any (w : World) (c : Nat) (a : Option Addr) (len cap at_ : Nat) (l : List Int) (er n : Int) (h : CurAt w c a len cap l at_ er) :
    Calls Tryd.prog 84 #[.pointer (some ⟨c, 0, none⟩), .int .i64 n] w fun e w' => ∃ v, e = .returned v ∧ w'.ownsRow w.heap.size 5 1 v (rdN 1 n (len - at_) er) (u8s ((l.drop at_).take (rdN 1 n (len - at_) er))) ∧
      CurAt w' c a len cap l (at_ + rdN 1 n (len - at_) er) (rdE 1 n (len - at_) er) ∧ w.grownBy w' (some c) := by
  have H := hid h
  have hm := rdN_le 1 n (len - at_) er
  have hs := h.small
  clear h
  go_enter Tryd.func84, Tryd.ntmps84
  go_wp2_with fail
  refine (read_any _ c a len cap at_ l er 1 n H.out).mono ?_
  rintro e w1 ⟨a1, rfl, hl1, hc1, hg1, hs1⟩
  have HL1 := hid hl1
  have HC1 := hid hc1
  have HG1 := hid hg1
  have HS1 := hid hs1
  clear hl1 hc1 hg1 hs1
  go_wp2_with fail
  refine (clone_any _ _ _ _ _ HL1.out (by omega)).mono ?_
  rintro e w2 ⟨v2, rfl, hown2, hb2⟩
  have HO2 := hid hown2
  have HB2 := hid hb2
  clear hown2 hb2
  go_wp2
  go_ret
  refine ⟨v2, rfl, ?_, HC1.out.below HB2.out, grownBy_below HG1.out HB2.out⟩
  have := HO2.out
  rw [HS1.out, HL1.out.1] at this
  exact this

theorem left_nil (w : World) : Calls Tryd.prog 86 #[.pointer none] w fun e w' => e = .returned (.int .i64 0) ∧ w' = w := by
  go_enter Tryd.func86, Tryd.ntmps86
  go_wp2
  go_ret
  exact ⟨rfl, rfl⟩
theorem left_any (w : World) (c : Nat) (a : Option Addr) (len cap at_ : Nat) (l : List Int) (er : Int) (h : CurAt w c a len cap l at_ er) :
    Calls Tryd.prog 86 #[.pointer (some ⟨c, 0, none⟩)] w fun e w' => e = .returned (.int .i64 ((len : Int) - at_)) ∧ ∃ q, w' = w.drewN q := by
  have h0 := h.cell0
  have h1 := h.cell1
  have hle := h.le
  have hsm := h.small
  clear h
  go_enter Tryd.func86, Tryd.ntmps86
  go_wp2_with (go_at_call 100; refine (wleft_any _ c a len cap at_ h0 h1 hle hsm).mono ?_; rintro e w1 ⟨rfl, q, rfl⟩)
  go_ret
  exact ⟨rfl, q, rfl⟩

theorem close_nil (w : World) : Calls Tryd.prog 106 #[.pointer none] w fun e w' => e = .returned (.int .i64 13) ∧ w' = w := by
  go_enter Tryd.func106, Tryd.ntmps106
  go_wp2_with (go_at_call 39; refine (err_nil _).mono ?_; rintro e w1 ⟨rfl, rfl⟩)
  go_ret
  exact ⟨rfl, rfl⟩
/-- What 'Close' tells. -/
def closeV (left : Nat) (er : Int) : Int := if er = 0 then (if 0 < left then 3 else 0) else er
theorem close_any (w : World) (c : Nat) (a : Option Addr) (len cap at_ : Nat) (l : List Int) (er : Int) (h : CurAt w c a len cap l at_ er) :
    Calls Tryd.prog 106 #[.pointer (some ⟨c, 0, none⟩)] w fun e w' => e = .returned (.int .i64 (closeV (len - at_) er)) ∧ ∃ q, w' = w.drewN q := by
  have h0 := h.cell0
  have h1 := h.cell1
  have h2 := h.cell2
  have hle := h.le
  have hsm := h.small
  clear h
  by_cases her : er = 0
  · subst her
    by_cases hlt : at_ < len
    · have HV : Hid (closeV (len - at_) 0 = 3) := by simp [Hid, closeV]; omega
      go_enter Tryd.func106, Tryd.ntmps106
      go_wp2_with (first | (go_at_call 39; refine (err_any _ _ _ h2).mono ?_; rintro e w1 ⟨rfl, rfl⟩) | (go_at_call 100; refine (wleft_any _ c a len cap at_ h0 h1 hle hsm).mono ?_; rintro e w1 ⟨rfl, q, rfl⟩))
      go_ret
      exact ⟨ret_int HV.out.symm, q, rfl⟩
    · have HV : Hid (closeV (len - at_) 0 = 0) := by simp [Hid, closeV]; omega
      go_enter Tryd.func106, Tryd.ntmps106
      go_wp2_with (first | (go_at_call 39; refine (err_any _ _ _ h2).mono ?_; rintro e w1 ⟨rfl, rfl⟩) | (go_at_call 100; refine (wleft_any _ c a len cap at_ h0 h1 hle hsm).mono ?_; rintro e w1 ⟨rfl, q, rfl⟩))
      go_ret
      exact ⟨ret_int HV.out.symm, q, rfl⟩
  · have HV : Hid (closeV (len - at_) er = er) := by simp [Hid, closeV, her]
    have her' : (er != 0) = true := by rw [bne_iff_ne]; exact her
    go_enter Tryd.func106, Tryd.ntmps106
    go_wp2_with (first | (go_at_call 39; refine (err_any _ _ _ h2).mono ?_; rintro e w1 ⟨rfl, rfl⟩))
    go_ret
    exact ⟨ret_int HV.out.symm, 0, rfl⟩
end Go.Proofs.YtbfjkhafdkhhmaaDoor

namespace Go.Proofs.YtbfjkhafdkhhmaaDoor
open Go.ChangeShapes Go.WideShapes Go.ChangeAt Go.RowKit
set_option linter.unusedVariables false
set_option linter.unusedSimpArgs false

theorem within_nil (w : World) (n : Int) :
    Calls Tryd.prog 104 #[.pointer none, .int .i64 n] w fun e w' => ∃ c a cap, e = .returned (.pointer (some ⟨c, 0, none⟩)) ∧ CurAt w' c a 0 cap [] 0 13 ∧ Below w.heap.size w w' ∧ w.heap.size ≤ c := by
  go_enter Tryd.func104, Tryd.ntmps104
  go_wp2_with fail
  refine (read_nil _ _ _).mono ?_
  rintro e w1 ⟨rfl, rfl⟩
  go_wp2_with fail
  refine (over_any none 0 0 [] _ (Lies.nil _ _) (fun x hx => by cases hx) (by omega)).mono ?_
  rintro e w1 ⟨c, a, cap, rfl, hc1, hb1, hc2, hc3⟩
  have HC1 := hid hc1
  have HB1 := hid hb1
  clear hc1 hb1
  go_wp2_with fail
  refine (err_nil _).mono ?_
  rintro e w1 ⟨rfl, rfl⟩
  go_wp2_with fail
  refine (spoil_now _ c a 0 cap 0 [] 13 HC1.out).mono ?_
  rintro e w2 ⟨rfl, hc4, hg4, hs4⟩
  have HC4 := hid hc4
  have HG4 := hid hg4
  clear hc4 hg4 hs4
  go_wp2
  go_ret
  exact ⟨c, a, cap, rfl, HC4.out, Below.grown HB1.out HG4.out HB1.out.size (fun k hk => by cases hk; exact hc2), hc2⟩

set_option maxHeartbeats 400000 in
theorem within_any (w : World) (c : Nat) (a : Option Addr) (len cap at_ : Nat) (l : List Int) (er n : Int) (h : CurAt w c a len cap l at_ er) :
    Calls Tryd.prog 104 #[.pointer (some ⟨c, 0, none⟩), .int .i64 n] w fun e w' => ∃ c2 a2 cap2, e = .returned (.pointer (some ⟨c2, 0, none⟩)) ∧
      CurAt w' c2 a2 (rdN 1 n (len - at_) er) cap2 ((l.drop at_).take (rdN 1 n (len - at_) er)) 0 (rdE 1 n (len - at_) er) ∧
      CurAt w' c a len cap l (at_ + rdN 1 n (len - at_) er) (rdE 1 n (len - at_) er) ∧ w.grownBy w' (some c) ∧ w.heap.size ≤ c2 := by
  have H := hid h
  have hm0 := rdN_le 1 n (len - at_) er
  have hs := h.small
  have ho := hid (h.oct.cut at_ (rdN 1 n (len - at_) er))
  clear h
  go_enter Tryd.func104, Tryd.ntmps104
  go_wp2_with fail
  refine (read_any _ c a len cap at_ l er 1 n H.out).mono ?_
  rintro e w1 ⟨a1, rfl, hl1, hc1, hg1, hs1⟩
  have HL1 := hid hl1
  have HC1 := hid hc1
  have HG1 := hid hg1
  have HS1 := hid hs1
  clear hl1 hc1 hg1 hs1
  generalize hm : rdN 1 n (len - at_) er = m at *
  generalize he : rdE 1 n (len - at_) er = er' at *
  have HM := hid hm
  have HE := hid he
  clear hm he
  go_wp2_with fail
  refine (over_any _ _ _ _ _ HL1.out ho.out (by omega)).mono ?_
  rintro e w2 ⟨c2, a2, cap2, rfl, hc2, hb2, hlo2, hhi2⟩
  have HC2 := hid hc2
  have HB2 := hid hb2
  have hcc := HC1.out.below HB2.out
  have HCC := hid hcc
  have h2 := hcc.cell2
  clear hc2 hb2 hcc
  go_wp2_with fail
  refine (err_any _ _ _ h2).mono ?_
  rintro e w2 ⟨rfl, rfl⟩
  go_wp2_with fail
  refine (spoil_now _ c2 a2 m cap2 0 _ er' HC2.out).mono ?_
  rintro e w3 ⟨rfl, hc4, hg4, hs4⟩
  have HC4 := hid hc4
  have HG4 := hid hg4
  clear hc4 hg4 hs4
  go_wp2
  go_ret
  have hlt1 : c < w1.heap.size := HC1.out.lt
  rw [HM.out, HE.out]
  refine ⟨c2, a2, cap2, rfl, HC4.out, HCC.out.grown HC2.out.noU8 (by omega) HG4.out, ?_, by have := HS1.out; omega⟩
  have hb3 : Below w1.heap.size w1 w3 := Below.grown HB2.out HG4.out HB2.out.size (fun k hk => by cases hk; exact hlo2)
  exact grownBy_below HG1.out hb3

/-- How many bytes 'Peek' tells. -/
def pkN (n : Int) (left : Nat) (er : Int) : Nat := if er = 0 ∧ 1 ≤ n then min n.toNat left else 0
theorem pkN_le (n : Int) (left : Nat) (er : Int) : pkN n left er ≤ left := by unfold pkN; split <;> omega

theorem wahead_int (w : World) (c : Nat) (a : Option Addr) (len cap at_ n : Nat) (z : Int) (hz : z = n) (h0 : w.cell? ⟨c, 0, none⟩ = some (.slice a len cap)) (h1 : w.cell? ⟨c, 1, none⟩ = some (.int .i64 at_)) (hle : at_ + n ≤ len) (hlc : len ≤ cap) (hs : len ≤ 100000) :
    Calls Tryd.prog 107 #[.pointer (some ⟨c, 0, none⟩), .int .i64 z] w fun e w' => e = .returned (.slice (cutA a at_ n) n n) ∧ ∃ q, w' = w.drewN q := by
  subst hz; exact wahead_any w c a len cap at_ n h0 h1 hle hlc hs

end Go.Proofs.YtbfjkhafdkhhmaaDoor

namespace Go.Proofs.YtbfjkhafdkhhmaaDoor
open Go.ChangeShapes Go.WideShapes Go.ChangeAt Go.RowKit
set_option linter.unusedVariables false
set_option linter.unusedSimpArgs false

def i64s (l : List Int) : List Value := l.map (Value.int .i64)

/-- The first k numbers of bytes. -/
def numsTo (s : Nat) (l : List Int) (k : Nat) : List Int := (List.range k).map fun i => numOf ((l.drop (s * i)).take s)
theorem numsTo_succ (s : Nat) (l : List Int) (k : Nat) : numsTo s l (k + 1) = numsTo s l k ++ [numOf ((l.drop (s * k)).take s)] := by
  unfold numsTo; rw [List.range_succ, List.map_append]; rfl
theorem numsTo_length (s : Nat) (l : List Int) (k : Nat) : (numsTo s l k).length = k := by simp [numsTo]

/-- An append of what was just laid down, number by number, onto a row of the call's own. -/
theorem wpList_push3 {ops : Array Oper} {rest : List Oper} {o : Oper} {a : Act} {Q : Exit → Act → World → Prop} {w : World} {cs : Array Value} {base m : Nat} {v : Value} {xs : List Value} (hgd : o.guard = none) (s x : Operand)
    (ho : o.op = .call { callee := .builtin .append, args := #[s, x], argTypes := #[52, 52] }) (hs : a.eval s = v) (hx : a.eval x = .slice (some ⟨w.heap.size, 0, none⟩) cs.size cs.size)
    (hown : w.ownsRow base 3 1 v m xs) (h1 : ∀ u ∈ cs.toList, u.oneCell' = true) (hb : base ≤ w.heap.size) (hm : m + cs.size ≤ 200000)
    (h : ∀ v' w', w'.ownsRow base 3 1 v' (m + cs.size) (xs ++ cs.toList) → Below base w w' → wpList Tryd.prog ops Q rest (a.put o.dst v') w') :
    wpList Tryd.prog ops Q (o :: rest) a (w.alloc (.cells cs 3)) := by
  obtain ⟨i0, hi, hz0, hz1, hz2⟩ := info_parts info3
  refine wpList_append_own _ hgd s x 52 ho base 3 i0 (.int .i64 0) 1 8 Tryd.underlying52 hi hz0 hz1 hz2 rfl (by decide) v m xs hs (hown.alloc _) ⟨w.heap.size, 0, none⟩ cs.size cs.size cs.toList hx (by simp) ?_ h1 (by unfold maxLen; omega) (by omega) (by simp; omega) ?_
  · intro j u hj
    exact World.news_of_block (heap_alloc_new w _) j u hj
  · intro v' w' h2 h3 _
    refine h v' w' h2 (Below.grown ((Below.refl _ _).alloc hb _) h3 (by simp; omega) ?_)
    intro k hk
    exact (hown.lt k hk).1
theorem ownsRow_i64 {w : World} {base base' n m : Nat} {v : Value} {xs ys : List Value} (h : w.ownsRow base 3 1 v n xs) (hb : base = base') (hn : n = m) (hx : xs = ys) : w.ownsRow base' 3 1 v m ys := by subst hb; subst hn; subst hx; exact h
theorem cut_cut (L : List Int) (m p s : Nat) (h : p + s ≤ m) : ((L.take m).drop p).take s = (L.drop p).take s := by
  rw [List.drop_take, List.take_take]; congr 1; omega

/-- The numbers that are read. -/
def manyL (size n : Int) (l : List Int) (at_ len : Nat) (er : Int) : List Int := numsTo size.toNat (l.drop at_) (if rdE size n (len - at_) er = 0 then n.toNat else 0)

end Go.Proofs.YtbfjkhafdkhhmaaDoor
