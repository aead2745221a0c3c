/- Rows of the call's own beside each other: bytes, texts, headers; a slice of texts, as it came in. -/
import Derived.Test.YtmpkemlnpmephaaPrr
import Derived.Test.YtmpkemlnpmephaaRde
import Derived.Test.YtmpkemlnpmephaaDecWalk
import Derived.Test.YtmpkemlnpmephaaRck
import Derived.Deep.Strs
import Derived.Deep.RegionWith
namespace Go.Proofs.Ytmpkemlnpmephaa
open Go.ChangeShapes Go.WideShapes Go.ChangeAt Go.RowKit Go.Deep
set_option linter.unusedVariables false
set_option linter.unusedSimpArgs false

theorem info30 : (Try.prog.info? 30).map (fun i => (i.zero, i.size, i.bytes)) = some (some (.slice none 0 0), 1, 24) := by kernel_rfl
theorem cells30 : Try.prog.cellsOf 30 = 1 := by kernel_rfl

/-- Rows of different kinds lie apart. -/
theorem own_apart {w : World} {base base' : Nat} {e e' : TypeId} {size size' : Nat} {v v' : Value} {n n' : Nat} {xs xs' : List Value} (h : w.ownsRow base e size v n xs) (h' : w.ownsRow base' e' size' v' n' xs') (hne : e ≠ e') : v.ownBlock = none ∨ v.ownBlock ≠ v'.ownBlock := by
  rcases h.2 with ⟨rfl, _⟩ | ⟨g, cap, cur, rfl, _, hg, _⟩
  · exact .inl rfl
  · refine .inr ?_
    rcases h'.2 with ⟨rfl, _⟩ | ⟨g', cap', cur', rfl, _, hg', _⟩
    · simp [Value.ownBlock]
    · simp only [Value.ownBlock]
      intro he
      obtain rfl := Option.some.inj he
      rw [hg] at hg'
      simp at hg'
      exact hne hg'.2
/-- A row of texts of the call's own. -/
theorem owns_texts {w : World} {base : Nat} {v : Value} {T : List Txt} (h : w.ownsRow base 30 1 v T.length (T.map Txt.v)) (hok : ∀ t ∈ T, t.ok w) : ∃ a cap, v = .slice a T.length cap ∧ Texts w a T.length cap T := by
  rcases h.2 with ⟨rfl, hn⟩ | ⟨g, cap, cur, rfl, hb, hg, hnc, hcm, hcs, hx⟩
  · exact ⟨none, 0, by rw [hn], rfl, by omega, by decide, fun k hk => by omega, hok⟩
  · refine ⟨_, cap, rfl, rfl, hnc, hcm, fun k hk => ⟨g, 0, rfl, ?_⟩, hok⟩
    rw [Nat.zero_add, cell_of_row w g k cur 30 (0, 0) hg]
    have h1 : (cur.toList.take (T.length * 1))[k]? = (T.map Txt.v)[k]? := by rw [hx]
    rw [List.getElem?_take, if_pos (by omega)] at h1
    simp [hk] at h1
    simp [h1, hk]

def cutT (t : Txt) : Txt := ⟨t.a, min t.n 700, t.cap, t.l.take (min t.n 700)⟩
def cutL (L : List Txt) (k : Nat) : List Txt := (L.take k).map cutT
theorem cutT_ok {w : World} {t : Txt} (h : t.ok w) : (cutT t).ok w := ⟨h.1.pre (min t.n 700) (Nat.min_le_left ..), oct_take h.2 _⟩
theorem cutL_snoc (L : List Txt) (k : Nat) (h : k < L.length) : cutL L (k + 1) = cutL L k ++ [cutT (L.getD k Txt.none)] := by
  rw [cutL, cutL, List.take_succ_eq_append_getElem h, List.map_append]; simp [h]
theorem cutL_length (L : List Txt) (k : Nat) (h : k ≤ L.length) : (cutL L k).length = k := by simp [cutL]; omega
theorem bytes_cutL (L : List Txt) (k : Nat) : (bytes (cutL L k)).length ≤ 700 * k := by
  induction k with
  | zero => simp [cutL, bytes]
  | succ k ih =>
    by_cases h : k < L.length
    · rw [cutL_snoc L k h, bytes_app, List.length_append]
      have : (bytes [cutT (L.getD k Txt.none)]).length ≤ 700 := by simp [bytes, cutT]; omega
      omega
    · have : cutL L (k + 1) = cutL L k := by unfold cutL; rw [List.take_of_length_le (by omega), List.take_of_length_le (by omega)]
      rw [this]; omega

theorem own_below {w w' : World} {b : Nat} {e : TypeId} {size : Nat} {v : Value} {n : Nat} {xs : List Value} (h : w.ownsRow b e size v n xs) (hb : Below w.heap.size w w') : w'.ownsRow b e size v n xs :=
  h.kept (row := none) ⟨hb.os, hb.tape, hb.output, hb.size, fun k hk _ => hb.block k hk⟩ (by cases hv : v.ownBlock <;> simp)
/-- What stands in memory between two rounds of HeaderBytes. -/
structure LoopAt (w wr : World) (h : Hd) (gx : Nat) (v12 v13 : Value) (T : List Txt) : Prop where
  hd : Row wr w.heap.size 24 h.cs
  x : Row wr gx 28 h.cs
  all : wr.ownsRow w.heap.size 5 1 v13 (bytes T).length (u8s (bytes T))
  txt : wr.ownsRow w.heap.size 30 1 v12 T.length (T.map Txt.v)
  oks : ∀ t ∈ T, t.ok w
  bel : Below w.heap.size w wr

def TextsIn (w : World) (a : Option Addr) (len cap : Nat) : Prop := ∃ L, Texts w a len cap L

theorem open_texts {H : Type} {enc : TypeId × Value → H} {w : World} {held : Bool} {fuel : Nat} {a : Option Addr} {len cap : Nat} {x : DataW H × List MemPlace}
    (h : DataW.trod enc Try.prog w 0 (fun _ => true) held fuel 25 [.slice a len cap] = some x) : TextsIn w a len cap := by
  rcases open_slice Try.underlying25 h with ⟨hcs, _⟩ | ⟨ad, l, c, m, n, D, Pl, hcs, _, hl, hm, hmm, _, hx⟩
  · simp at hcs
    obtain ⟨rfl, rfl, rfl⟩ := hcs
    exact ⟨[], texts_nil w⟩
  · simp at hcs
    obtain ⟨rfl, rfl, rfl⟩ := hcs
    have hm' : m = cap := by simpa using hmm
    subst hm'
    have key : ∀ i, ∃ t : Txt, i < len → w.cell? (ad.add i) = some t.v ∧ t.ok w := by
      intro i
      by_cases hi : i < len
      · obtain ⟨cs', h1, h2⟩ := hx i (by omega)
        rw [cells30] at h1
        obtain ⟨_, hlen, hcell⟩ := World.cells?_some h1
        match cs', hlen with
        | [v0], _ =>
          have e0 := hcell 0 (by omega)
          rw [add_add] at e0
          simp at e0
          rcases open_ints Try.underlying30 Try.underlying5 c5 h2 with ⟨hcs, _⟩ | ⟨y, l', c', zs, hcs, _, hl', hm', hz', _, hc', hwz⟩
          · simp at hcs
            subst hcs
            exact ⟨Txt.none, fun _ => ⟨e0, Lies.nil _ _, fun x hx => by cases hx⟩⟩
          · simp at hcs
            subst hcs
            have hr : IsRow .u8 w (some y) l' c' zs := .inr ⟨y, rfl, hl', hm', by simpa using hz', hc', hwz⟩
            exact ⟨⟨some y, l', c', zs.take l'⟩, fun _ => ⟨e0, hr.lies, oct_take hr.oct _⟩⟩
      · exact ⟨Txt.none, fun h => absurd h hi⟩
    obtain ⟨f, hf⟩ := Classical.axiomOfChoice key
    refine ⟨(List.range len).map f, by simp, hl, hm, ?_, ?_⟩
    · intro k hk
      have hspot : ad.spot = none := by
        have := (hf 0 (by omega)).1
        exact World.cell?_spot (by simpa [Addr.add] using this)
      obtain ⟨b, off, spot⟩ := ad
      simp at hspot
      subst hspot
      refine ⟨b, off, rfl, ?_⟩
      have := (hf k hk).1
      rw [Addr.add_lit] at this
      rw [this]
      simp [hk]
    · intro t ht
      simp at ht
      obtain ⟨i, hi, rfl⟩ := ht
      exact (hf i hi).2

end Go.Proofs.Ytmpkemlnpmephaa
