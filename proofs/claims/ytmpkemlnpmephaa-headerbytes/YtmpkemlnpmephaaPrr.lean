/- What is decoded is encoded as it was, and the other way round: pure. -/
import Derived.Test.YtmpkemlnpmephaaRdc
import Derived.Test.YtmpkemlnpmephaaRen
import Derived.Test.YtmpkemlnpmephaaWit
namespace Go.Proofs.Ytmpkemlnpmephaa
open Go.ChangeShapes Go.WideShapes Go.ChangeAt Go.RowKit
set_option linter.unusedVariables false
set_option linter.unusedSimpArgs false

theorem take8 {l : List Int} (h : 8 ≤ l.length) : l.take 8 = [l.getD 0 0, l.getD 1 0, l.getD 2 0, l.getD 3 0, l.getD 4 0, l.getD 5 0, l.getD 6 0, l.getD 7 0] := by
  match l, h with
  | a :: b :: c :: d :: e :: f :: g :: i :: _, _ => rfl
theorem decH_yes {l : List Int} (ho : Oct l) (h : 40 ≤ l.length) : okH (decH l) = true := by
  have h0 := ho.at 0 (by omega); have h1 := ho.at 1 (by omega); have h2 := ho.at 2 (by omega); have h3 := ho.at 3 (by omega)
  have h4 := ho.at 4 (by omega); have h5 := ho.at 5 (by omega); have h6 := ho.at 6 (by omega); have h7 := ho.at 7 (by omega)
  rw [decH_eq ho h]
  apply decide_eq_true
  simp only []
  omega
theorem decH_back {l : List Int} (ho : Oct l) (h : 40 ≤ l.length) (h6 : l.getD 0 0 / 16 = 6) : hdrL (decH l) = l.take 40 := by
  have e : hd8 (decH l) = l.take 8 := by
    rw [hd8_ref (decH_yes ho h), decH_eq ho h, take8 (by omega), ref8]
    have h0 := ho.at 0 (by omega); have h1 := ho.at 1 (by omega); have h2 := ho.at 2 (by omega); have h3 := ho.at 3 (by omega)
    have h4 := ho.at 4 (by omega); have h5 := ho.at 5 (by omega)
    generalize l.getD 0 0 = a at *
    generalize l.getD 1 0 = b at *
    generalize l.getD 2 0 = c at *
    generalize l.getD 3 0 = d at *
    generalize l.getD 4 0 = x at *
    generalize l.getD 5 0 = y at *
    simp
    omega
  rw [hdrL, e]
  show l.take 8 ++ ((l.drop 8).take 16 ++ (l.drop 24).take 16) = l.take 40
  have e1 : (l.drop 8).take 16 ++ (l.drop 24).take 16 = (l.drop 8).take 32 := by
    have := List.take_append_drop 16 ((l.drop 8).take 32)
    rw [List.take_take, List.drop_take, List.drop_drop] at this
    simpa using this
  rw [e1]
  have := List.take_append_drop 8 (l.take 40)
  rw [List.take_take, List.drop_take] at this
  simpa using this
theorem with_back {l : List Int} (ho : Oct l) (hE : decE l = 0) : withE (decV l) (decR l) = 0 ∧ withL (decV l) (decR l) = l := by
  obtain ⟨h1, h2, h3, h4⟩ := decE_zero hE
  have hV : decV l = decH l := by rw [decV, if_pos hE]
  have hR : decR l = l.drop 40 := by rw [decR, if_pos hE]
  have hk := decH_yes ho h1
  have h0 : okH ((decH l).setLn 0) = true := by
    obtain ⟨a, b, c, d, e⟩ := okH_yes hk
    exact decide_eq_true ⟨a, b, ⟨by show (0 : Int) ≤ 0; omega, by show (0 : Int) ≤ 65535; omega⟩, d, e⟩
  have hw : withE (decH l) (l.drop 40) = 0 := by
    unfold withE
    rw [if_pos h0, if_neg (by simp; omega)]
  rw [hV, hR]
  refine ⟨hw, ?_⟩
  rw [withL, if_pos hw]
  have e : (decH l).setLn ((l.drop 40).length : Nat) = decH l := by
    have : ((l.drop 40).length : Int) = (decH l).ln := by rw [h4]; simp
    rw [this]; rfl
  rw [e, decH_back ho h1 h2, List.take_append_drop]

/-- A datagram of a header and bytes is decoded as it was. -/
theorem hdr_get {h : Hd} (k : h.ok) (hy : okH h = true) (B : List Int) (hB : Oct B) : decH (hdrL h ++ B) = h ∧ (hdrL h ++ B).getD 0 0 / 16 = 6 := by
  have ho : Oct (hdrL h ++ B) := (hdrL_oct k).app hB
  have hl : 40 ≤ (hdrL h ++ B).length := by rw [List.length_append, hdrL_len k]; omega
  obtain ⟨⟨a0, a1⟩, ⟨b0, b1⟩, ⟨c0, c1⟩, ⟨d0, d1⟩, e0, e1⟩ := okH_yes hy
  have hf : h.f.length = 16 := k.1.1
  have ht : h.t.length = 16 := k.2.1
  have e : hdrL h ++ B = ref8 h ++ (h.f ++ (h.t ++ B)) := by rw [hdrL, hd8_ref hy]; simp
  have g : ∀ i x, (ref8 h)[i]? = some x → (hdrL h ++ B).getD i 0 = x := by
    intro i x hx
    have hi : i < (ref8 h).length := (List.getElem?_eq_some_iff.1 hx).1
    rw [e, List.getD_eq_getElem?_getD, List.getElem?_append_left hi, hx]; rfl
  have g0 := g 0 _ rfl
  have g1 := g 1 _ rfl
  have g2 := g 2 _ rfl
  have g3 := g 3 _ rfl
  have g4 := g 4 _ rfl
  have g5 := g 5 _ rfl
  have g6 := g 6 _ rfl
  have g7 := g 7 _ rfl
  have d8 : (hdrL h ++ B).drop 8 = h.f ++ (h.t ++ B) := by rw [e]; exact List.drop_left' rfl
  have d24 : (hdrL h ++ B).drop 24 = h.t ++ B := by
    have : (hdrL h ++ B).drop 24 = ((hdrL h ++ B).drop 8).drop 16 := by rw [List.drop_drop]
    rw [this, d8]; exact List.drop_left' hf
  have x8 : ((hdrL h ++ B).drop 8).take 16 = h.f := by rw [d8]; exact List.take_left' hf
  have x24 : ((hdrL h ++ B).drop 24).take 16 = h.t := by rw [d24]; exact List.take_left' ht
  refine ⟨?_, by rw [g0]; omega⟩
  rw [decH_eq ho hl, g0, g1, g2, g3, g4, g5, g6, g7, x8, x24]
  obtain ⟨c, fl, ln, nx, hp, f, t⟩ := h
  simp only [Hd.mk.injEq, and_true, true_and] at *
  omega
theorem dec_with {h : Hd} (k : h.ok) (hy : okH h = true) (B : List Int) (hB : Oct B) (hl : h.ln = (B.length : Nat)) (hs : B.length ≤ 1240) :
    decE (hdrL h ++ B) = 0 ∧ decV (hdrL h ++ B) = h ∧ decR (hdrL h ++ B) = B := by
  obtain ⟨h1, h2⟩ := hdr_get k hy B hB
  have hn : (hdrL h ++ B).length = 40 + B.length := by rw [List.length_append, hdrL_len k]
  have hE : decE (hdrL h ++ B) = 0 := by
    unfold decE
    rw [if_neg (by omega), if_neg (by simpa using h2), if_neg (by omega), h1, hl, hn, if_neg (by omega), if_neg (by omega)]
  refine ⟨hE, by rw [decV, if_pos hE, h1], ?_⟩
  rw [decR, if_pos hE]
  have : 40 = (hdrL h).length := (hdrL_len k).symm
  rw [this, List.drop_left]
end Go.Proofs.Ytmpkemlnpmephaa
