/- What the methods of pack's cursor answer: contracts. -/
import Derived.Test.YtbgogeojdibmkaaDoorPackPut
namespace Go.Proofs.YtbgogeojdibmkaaDoor
open Go.ChangeShapes Go.WideShapes Go.ChangeAt Go.RowKit
set_option linter.unusedVariables false
set_option linter.unusedSimpArgs false

theorem clone_nil (w : World) : Calls Tryd.prog 48 #[.slice none 0 0] w fun e w' => e = .returned (.slice none 0 0) ∧ w' = w := by
  have he := fun w => Lib.run_eql_slice_nil (P := Tryd.prog) w 26 5 none 0 0 0 0 Tryd.underlying26
  go_enter Tryd.func48, Tryd.ntmps48
  go_wp2
  go_ret
  exact ⟨rfl, rfl⟩

theorem clone_some (ad : Addr) (len cap : Nat) (l : List Int) (w : World) (h : Lies .u8 w (some ad) len cap l) (hl : len ≤ 100000) :
    Calls Tryd.prog 48 #[.slice (some ad) len cap] w fun e w' => ∃ v, e = .returned v ∧ w'.ownsRow w.heap.size 5 1 v l.length (u8s l) ∧ Below w.heap.size w w' := by
  have he := fun w => Lib.run_eql_slice_nil (P := Tryd.prog) w 26 5 (some ad) len cap 0 0 Tryd.underlying26
  obtain ⟨i0, hi, hz0, hz1, hz2⟩ := info_parts info5
  have HB : Hid (Lies .u8 w (some ad) len cap l) := h
  have hb1 : Below w.heap.size w (w.alloc (.cells #[] 5)) := (Below.refl _ _).alloc (Nat.le_refl _) _
  have hl1 := HB.out.below hb1
  have hown := World.ownsRow_made (e := 5) (size := 1) (base := w.heap.size) w #[] 0 (Nat.le_refl _) (by decide) (by simp)
  have HO : Hid _ := hown
  have HL1 : Hid _ := hl1
  clear h hown hl1 hb1
  go_enter Tryd.func48, Tryd.ntmps48
  go_wp2_with (at_builtin; refine wpList_append_own _ rfl _ _ 26 rfl w.heap.size 5 i0 (.int .u8 0) 1 1 Tryd.underlying26 hi hz0 hz1 hz2 rfl (by decide) _ _ _ rfl HO.out ad len cap (u8s l) rfl ?c1 (Lies.cells HL1.out ad rfl) (ints_oneCell8 _ _) ?c3 ?c4 ?c5 ?_)
  case c1 => have := HB.out.1; simp [u8s]; omega
  case c3 => unfold maxLen; omega
  case c4 => omega
  intro v1 w1 hown1 hg1 _
  have hb2 : Below w.heap.size w w1 := Below.grown ((Below.refl _ _).alloc (Nat.le_refl _) _) hg1 (by simp) (fun k hk => by cases hk; exact Nat.le_refl _)
  have hln := HB.out.1
  have HW : Hid _ := hown1
  clear hown1 hg1
  go_wp2
  go_ret
  exact ⟨_, rfl, ownsRow_u8 HW.out (by omega) (by simp), hb2⟩

theorem clone_any (a : Option Addr) (len cap : Nat) (l : List Int) (w : World) (h : Lies .u8 w a len cap l) (hl : len ≤ 100000) :
    Calls Tryd.prog 48 #[.slice a len cap] w fun e w' => ∃ v, e = .returned v ∧ w'.ownsRow w.heap.size 5 1 v l.length (u8s l) ∧ Below w.heap.size w w' := by
  cases a with
  | some ad => exact clone_some ad len cap l w h hl
  | none =>
    obtain ⟨rfl, rfl⟩ := h.isNil rfl
    have : l = [] := List.eq_nil_of_length_eq_zero h.1
    subst this
    refine (clone_nil w).mono ?_
    rintro e w' ⟨rfl, rfl⟩
    exact ⟨_, rfl, World.ownsRow_nil _ _ _ _, Below.refl _ _⟩

/-- A row of the call's own, as a slice of bytes. -/
theorem owns_lies {w : World} {base : Nat} {v : Value} {l : List Int} (h : w.ownsRow base 5 1 v l.length (u8s l)) : ∃ a cap, v = .slice a l.length cap ∧ Lies .u8 w a l.length cap l ∧ (∀ ad, a = some ad → base ≤ ad.block ∧ ad.off = 0 ∧ ad.block < w.heap.size ∧ ∀ k, k < cap → w.frozen? ⟨ad.block, k, none⟩ = false) := by
  rcases h.2 with ⟨rfl, hn⟩ | ⟨g, cap, cur, rfl, hb, hg, hnc, hcm, hcs, hx⟩
  · exact ⟨none, 0, by rw [hn], ⟨rfl, by omega, by decide, fun _ => rfl, fun k hk => by omega⟩, fun ad h => by cases h⟩
  · refine ⟨_, cap, rfl, ⟨rfl, hnc, hcm, (fun h => by cases h), fun k hk => ⟨g, 0, rfl, ?_⟩⟩, ?_⟩
    · rw [Nat.zero_add, cell_of_row w g k cur 5 (0, 0) hg]
      have h1 : (cur.toList.take (l.length * 1))[k]? = (u8s l)[k]? := by rw [hx]
      rw [List.getElem?_take, if_pos (by omega)] at h1
      simp [u8s, hk] at h1
      simp [h1, hk]
    · intro ad had
      obtain rfl := Option.some.inj had
      refine ⟨hb, rfl, (Array.getElem?_eq_some_iff.1 hg).1, fun k hk => ?_⟩
      simp [World.frozen?, hg]

theorem hid {p : Prop} (h : p) : Hid p := h

/-- A part of a slice. -/
theorem Lies.cut {kd : IntKind} {w : World} {a : Option Addr} {len cap : Nat} {l : List Int} (h : Lies kd w a len cap l) (lo n mx : Nat) (h1 : lo + n ≤ len) (h2 : lo + n ≤ mx) (h3 : mx ≤ cap) {a' : Option Addr} (ha : ¬ mx = lo → a' = a.map (·.add lo)) (ha' : mx = lo → a' = a) :
    Lies kd w a' n (mx - lo) ((l.drop lo).take n) := by
  obtain ⟨hl, hlc, hcm, hn, hc⟩ := h
  refine ⟨by simp; omega, by omega, by omega, ?_, fun k hk => ?_⟩
  · intro h0
    by_cases hm : mx = lo
    · omega
    · rw [ha hm] at h0
      have : a = none := by cases a <;> simp_all
      have := hn this; omega
  · obtain ⟨b, off, he, hcell⟩ := hc (lo + k) (by omega)
    refine ⟨b, off + lo, ?_, ?_⟩
    · rw [ha (by omega), he]; simp [Addr.add_lit]
    · rw [Nat.add_assoc, hcell]
      have hk2 : lo + k < l.length := by omega
      simp [List.getD, List.getElem?_take, hk, List.getElem?_drop]

/-- A cursor in memory: its window's bytes, how many were passed, what was wrong. -/
structure CurAt (w : World) (c : Nat) (a : Option Addr) (len cap : Nat) (l : List Int) (at_ : Nat) (er : Int) : Prop where
  block : w.heap[c]? = some (.cells #[.slice a len cap, .int .i64 at_, .int .i64 er] 92 (0, 0))
  lies : Lies .u8 w a len cap l
  oct : Oct l
  le : at_ ≤ len
  small : len ≤ 100000

theorem CurAt.cell0 {w : World} {c : Nat} {a : Option Addr} {len cap : Nat} {l : List Int} {at_ : Nat} {er : Int} (h : CurAt w c a len cap l at_ er) : w.cell? ⟨c, 0, none⟩ = some (.slice a len cap) := by
  rw [cell_of_row w c 0 _ _ _ h.block]; rfl
theorem CurAt.cell1 {w : World} {c : Nat} {a : Option Addr} {len cap : Nat} {l : List Int} {at_ : Nat} {er : Int} (h : CurAt w c a len cap l at_ er) : w.cell? ⟨c, 1, none⟩ = some (.int .i64 at_) := by
  rw [cell_of_row w c 1 _ _ _ h.block]; rfl
theorem CurAt.cell2 {w : World} {c : Nat} {a : Option Addr} {len cap : Nat} {l : List Int} {at_ : Nat} {er : Int} (h : CurAt w c a len cap l at_ er) : w.cell? ⟨c, 2, none⟩ = some (.int .i64 er) := by
  rw [cell_of_row w c 2 _ _ _ h.block]; rfl
theorem CurAt.soft {w : World} {c : Nat} {a : Option Addr} {len cap : Nat} {l : List Int} {at_ : Nat} {er : Int} (h : CurAt w c a len cap l at_ er) : ∀ j, w.frozen? ⟨c, j, none⟩ = false := by
  intro j; simp [World.frozen?, h.block]

/-- A block that holds none of a row's bytes. -/
def NoU8 (w : World) (d : Nat) : Prop := ∀ o x, w.cell? ⟨d, o, none⟩ ≠ some (.int .u8 x)
theorem noU8_of {w : World} {d : Nat} {a : Option Addr} {len cap : Nat} {x y : Int} {t : TypeId} {fr : Nat × Nat} (h : w.heap[d]? = some (.cells #[.slice a len cap, .int .i64 x, .int .i64 y] t fr)) : NoU8 w d := by
  intro o z hz
  rw [cell_of_row w d o _ _ _ h] at hz
  match o, hz with
  | 0, hz => simp at hz
  | 1, hz => simp at hz
  | 2, hz => simp at hz
  | o + 3, hz => simp at hz
theorem CurAt.noU8 {w : World} {c : Nat} {a : Option Addr} {len cap : Nat} {l : List Int} {at_ : Nat} {er : Int} (h : CurAt w c a len cap l at_ er) : NoU8 w c := noU8_of h.block

theorem Lies.grown {w w' : World} {d : Nat} {a : Option Addr} {len cap : Nat} {l : List Int} (h : Lies .u8 w a len cap l) (hn : NoU8 w d) (hg : w.grownBy w' (some d)) : Lies .u8 w' a len cap l := by
  refine ⟨h.1, h.2.1, h.2.2.1, h.2.2.2.1, fun k hk => ?_⟩
  obtain ⟨b, off, he, hc⟩ := h.2.2.2.2 k hk
  refine ⟨b, off, he, hg.cell hc ?_⟩
  intro e
  obtain rfl := Option.some.inj e
  exact hn _ _ hc
theorem Lies.drewN {kd : IntKind} {w : World} {a : Option Addr} {len cap : Nat} {l : List Int} (h : Lies kd w a len cap l) (q : Nat) : Lies kd (w.drewN q) a len cap l := h
theorem CurAt.drewN {w : World} {c : Nat} {a : Option Addr} {len cap : Nat} {l : List Int} {at_ : Nat} {er : Int} (h : CurAt w c a len cap l at_ er) (q : Nat) : CurAt (w.drewN q) c a len cap l at_ er := ⟨h.block, h.lies, h.oct, h.le, h.small⟩
theorem grownBy_drewN (w : World) (q : Nat) (row : Option Nat) : w.grownBy (w.drewN q) row := ⟨rfl, rfl, rfl, Nat.le_refl _, fun _ _ _ => rfl⟩
theorem grownBy_setCell (w : World) (c j : Nat) (v : Value) : w.grownBy (w.setCell ⟨c, j, none⟩ v) (some c) :=
  ⟨rfl, rfl, rfl, by simp, fun k _ hne => heap_setCell_other w _ k v (fun e => hne (by rw [e]))⟩

theorem CurAt.setAt {w : World} {c : Nat} {a : Option Addr} {len cap : Nat} {l : List Int} {at_ : Nat} {er : Int} (h : CurAt w c a len cap l at_ er) (n : Nat) (hn : n ≤ len) : CurAt (w.setCell ⟨c, 1, none⟩ (.int .i64 n)) c a len cap l n er :=
  ⟨by rw [heap_setCell_same w c 1 _ _ _ h.block]; rfl, h.lies.grown h.noU8 (grownBy_setCell ..), h.oct, hn, h.small⟩
theorem CurAt.setEr {w : World} {c : Nat} {a : Option Addr} {len cap : Nat} {l : List Int} {at_ : Nat} {er : Int} (h : CurAt w c a len cap l at_ er) (n : Int) : CurAt (w.setCell ⟨c, 2, none⟩ (.int .i64 n)) c a len cap l at_ n :=
  ⟨by rw [heap_setCell_same w c 2 _ _ _ h.block]; rfl, h.lies.grown h.noU8 (grownBy_setCell ..), h.oct, h.le, h.small⟩

theorem over_any (a : Option Addr) (len cap : Nat) (l : List Int) (w : World) (h : Lies .u8 w a len cap l) (ho : Oct l) (hl : len ≤ 100000) :
    Calls Tryd.prog 32 #[.slice a len cap] w fun e w' => ∃ c a' cap', e = .returned (.pointer (some ⟨c, 0, none⟩)) ∧ CurAt w' c a' len cap' l 0 0 ∧ Below w.heap.size w w' ∧ w.heap.size ≤ c ∧ c < w'.heap.size := by
  have HB := hid h
  have HO := hid ho
  clear h ho
  go_enter Tryd.func32, Tryd.ntmps32
  go_wp2_with (go_at_call 48; refine (clone_any _ _ _ l _ HB.out hl).mono ?_; rintro e w1 ⟨v1, rfl, hown1, hb1⟩; obtain ⟨a1, cap1, rfl, hl1, ho1⟩ := owns_lies hown1)
  have hln : l.length = len := HB.out.1
  rw [hln] at hl1
  go_ret
  have hb2 : Below w1.heap.size w1 (w1.alloc (.cells #[.slice a1 l.length cap1, .int .i64 0, .int .i64 0] 92)) := (Below.refl _ _).alloc (Nat.le_refl _) _
  refine ⟨w1.heap.size, a1, cap1, rfl, ⟨?_, hl1.below hb2, HO.out, Nat.zero_le _, hl⟩, hb1.trans (hb2.mono hb1.size), hb1.size, by simp⟩
  rw [heap_alloc_new, hln]; rfl

theorem err_nil (w : World) : Calls Tryd.prog 33 #[.pointer none] w fun e w' => e = .returned (.int .i64 13) ∧ w' = w := by
  go_enter Tryd.func33, Tryd.ntmps33
  go_wp2
  go_ret
  exact ⟨rfl, rfl⟩
theorem err_any (w : World) (c : Nat) (er : Int) (h : w.cell? ⟨c, 2, none⟩ = some (.int .i64 er)) : Calls Tryd.prog 33 #[.pointer (some ⟨c, 0, none⟩)] w fun e w' => e = .returned (.int .i64 er) ∧ w' = w := by
  go_enter Tryd.func33, Tryd.ntmps33
  go_wp2
  go_ret
  exact ⟨rfl, rfl⟩
/-- How many bytes are left. -/
theorem wleft_any (w : World) (c : Nat) (a : Option Addr) (len cap at_ : Nat) (h0 : w.cell? ⟨c, 0, none⟩ = some (.slice a len cap)) (h1 : w.cell? ⟨c, 1, none⟩ = some (.int .i64 at_)) (hle : at_ ≤ len) (hs : len ≤ 100000) :
    Calls Tryd.prog 49 #[.pointer (some ⟨c, 0, none⟩)] w fun e w' => e = .returned (.int .i64 ((len : Int) - at_)) ∧ ∃ q, w' = w.drewN q := by
  go_enter Tryd.func49, Tryd.ntmps49
  go_wp2
  go_quiet (fail)
  go_wp2
  go_ret
  exact ⟨rfl, nq, rfl⟩

/-- Where a part of a slice lies. -/
def cutA (a : Option Addr) (lo n : Nat) : Option Addr := if n = 0 then a else a.map (·.add lo)

theorem Lies.part {kd : IntKind} {w : World} {a : Option Addr} {len cap : Nat} {l : List Int} (h : Lies kd w a len cap l) (lo n : Nat) (h1 : lo + n ≤ len) :
    Lies kd w (cutA a lo n) n n ((l.drop lo).take n) := by
  have := h.cut lo n (lo + n) h1 (Nat.le_refl _) (Nat.le_trans h1 h.2.1) (a' := cutA a lo n) (fun hn => by simp [cutA, show ¬ n = 0 by omega]) (fun hn => by simp [cutA, show n = 0 by omega])
  rwa [Nat.add_sub_cancel_left] at this

theorem ret_slice {a a' : Option Addr} {n n' c c' : Nat} (h : a = a') (hn : n = n') (hc : c = c') : Ending.returned (.slice a n c) = .returned (.slice a' n' c') := by rw [h, hn, hc]

theorem wahead_any (w : World) (c : Nat) (a : Option Addr) (len cap at_ n : Nat) (h0 : w.cell? ⟨c, 0, none⟩ = some (.slice a len cap)) (h1 : w.cell? ⟨c, 1, none⟩ = some (.int .i64 at_)) (hle : at_ + n ≤ len) (hlc : len ≤ cap) (hs : len ≤ 100000) :
    Calls Tryd.prog 76 #[.pointer (some ⟨c, 0, none⟩), .int .i64 n] w fun e w' => e = .returned (.slice (cutA a at_ n) n n) ∧ ∃ q, w' = w.drewN q := by
  by_cases hn : n = 0
  · subst hn
    have HX : Hid (cutA a at_ 0 = a) := by simp [Hid, cutA]
    go_enter Tryd.func76, Tryd.ntmps76
    go_wp2
    go_quiet (fail)
    go_wp2
    all_goals
      go_ret
      exact ⟨ret_slice HX.out.symm (by omega) (by omega), nq, rfl⟩
  · have HX : Hid (cutA a at_ n = a.map (·.add at_)) := by simp [Hid, cutA, hn]
    have hne : ¬ at_ + n = at_ := by omega
    go_enter Tryd.func76, Tryd.ntmps76
    go_wp2
    go_quiet (fail)
    go_wp2
    all_goals
      go_ret
      exact ⟨ret_slice HX.out.symm (by omega) (by omega), nq, rfl⟩

theorem wpass_any (w : World) (c : Nat) (a : Option Addr) (len cap at_ n : Nat) (l : List Int) (er : Int) (h : CurAt w c a len cap l at_ er) (hle : at_ + n ≤ len) :
    Calls Tryd.prog 73 #[.pointer (some ⟨c, 0, none⟩), .int .i64 n] w fun e w' => e = .returned (.slice (cutA a at_ n) n n) ∧ CurAt w' c a len cap l (at_ + n) er ∧ w.grownBy w' (some c) ∧ w'.heap.size = w.heap.size := by
  have h0 := h.cell0
  have h1 := h.cell1
  have hsf := h.soft 1
  have hlc := h.lies.2.1
  have hs := h.small
  have H := hid h
  clear h
  go_enter Tryd.func73, Tryd.ntmps73
  go_wp2_with (go_at_call 76; refine (wahead_any _ c a len cap at_ n ?_ ?_ hle hlc hs).mono ?_; assumption; assumption; rintro e w1 ⟨rfl, q, rfl⟩)
  go_ret
  have hc2 := (H.out.drewN q).setAt (at_ + n) hle
  rw [Int.natCast_add] at hc2
  exact ⟨rfl, hc2, (grownBy_drewN w q _).trans (grownBy_setCell ..), by simp⟩

theorem spoil_nil (w : World) (e : Int) : Calls Tryd.prog 50 #[.pointer none, .int .i64 e] w fun e w' => e = .returned (.tuple #[]) ∧ w' = w := by
  go_enter Tryd.func50, Tryd.ntmps50
  go_wp2_with (go_at_call 33; refine (err_nil _).mono ?_; rintro e w1 ⟨rfl, rfl⟩)
  go_returns
  exact ⟨rfl, rfl⟩
theorem spoil_was (w : World) (c : Nat) (er e : Int) (h : w.cell? ⟨c, 2, none⟩ = some (.int .i64 er)) (he : er ≠ 0) : Calls Tryd.prog 50 #[.pointer (some ⟨c, 0, none⟩), .int .i64 e] w fun e w' => e = .returned (.tuple #[]) ∧ w' = w := by
  have he' : (er == 0) = false := by simp [he]
  go_enter Tryd.func50, Tryd.ntmps50
  go_wp2_with (go_at_call 33; refine (err_any _ _ _ h).mono ?_; rintro e w1 ⟨rfl, rfl⟩)
  go_returns
  exact ⟨rfl, rfl⟩
theorem spoil_now (w : World) (c : Nat) (a : Option Addr) (len cap at_ : Nat) (l : List Int) (e : Int) (h : CurAt w c a len cap l at_ 0) :
    Calls Tryd.prog 50 #[.pointer (some ⟨c, 0, none⟩), .int .i64 e] w fun e' w' => e' = .returned (.tuple #[]) ∧ CurAt w' c a len cap l at_ e ∧ w.grownBy w' (some c) ∧ w'.heap.size = w.heap.size := by
  have h2 := h.cell2
  have hsf := h.soft 2
  have H := hid h
  clear h
  go_enter Tryd.func50, Tryd.ntmps50
  go_wp2_with (go_at_call 33; refine (err_any _ _ _ h2).mono ?_; rintro e w1 ⟨rfl, rfl⟩)
  go_returns
  exact ⟨rfl, H.out.setEr e, grownBy_setCell .., by simp⟩
end Go.Proofs.YtbgogeojdibmkaaDoor
