/- Reading with pack's cursor where there is enough, beside rows of the call's own. -/
import Derived.Test.YtmpkemlnpmephaaHd
namespace Go.Proofs.Ytmpkemlnpmephaa
open Go.ChangeShapes Go.WideShapes Go.ChangeAt Go.RowKit
set_option linter.unusedVariables false
set_option linter.unusedSimpArgs false

theorem rd_ok {size n : Int} {left : Nat} (hz : sizeB size = true) (hn : 0 ≤ n) (h : size * n ≤ left) : rdE size n left 0 = 0 ∧ rdN size n left 0 = (size * n).toNat := by
  have hE : rdE size n left 0 = 0 := by
    unfold rdE
    rw [if_pos rfl, if_neg (by rw [hz]; simp; omega), if_neg (by omega)]
  exact ⟨hE, by rw [rdN, if_pos hE]⟩

theorem take_ok (w : World) (c : Nat) (a : Option Addr) (len cap at_ : Nat) (l : List Int) (size : Int) (sz : Nat) (h : CurAt w c a len cap l at_ 0) (hs : size = sz) (hz : sizeB size = true) (hle : at_ + sz ≤ len) :
    Calls Try.prog 27 #[.pointer (some ⟨c, 0, none⟩), .int .i64 size] w fun e w' => e = .returned (.int .i64 (numOf ((l.drop at_).take sz))) ∧
      CurAt w' c a len cap l (at_ + sz) 0 ∧ w.grownBy w' (some c) ∧ w'.heap.size = w.heap.size := by
  obtain ⟨h1, h2⟩ := rd_ok (size := size) (n := 1) (left := len - at_) hz (by omega) (by omega)
  have h3 : rdN size 1 (len - at_) 0 = sz := by rw [h2]; omega
  refine (take_any w c a len cap at_ l 0 size h).mono ?_
  rintro e w' ⟨rfl, hc, hg, hz'⟩
  rw [h1, h3] at hc
  exact ⟨by rw [takeV, h3], hc, hg, hz'⟩

theorem bytes_ok (w : World) (c : Nat) (a : Option Addr) (len cap at_ : Nat) (l : List Int) (n : Int) (m : Nat) (h : CurAt w c a len cap l at_ 0) (hn : n = m) (hle : at_ + m ≤ len) :
    Calls Try.prog 22 #[.pointer (some ⟨c, 0, none⟩), .int .i64 n] w fun e w' => ∃ v, e = .returned v ∧ w'.ownsRow w.heap.size 5 1 v m (u8s ((l.drop at_).take m)) ∧
      CurAt w' c a len cap l (at_ + m) 0 ∧ w.grownBy w' (some c) := by
  obtain ⟨h1, h2⟩ := rd_ok (size := 1) (n := n) (left := len - at_) (by decide) (by omega) (by omega)
  have h3 : rdN 1 n (len - at_) 0 = m := by rw [h2]; omega
  refine (bytes_any w c a len cap at_ l 0 n h).mono ?_
  rintro e w' ⟨v, rfl, ho, hc, hg⟩
  rw [h1, h3] at hc
  rw [h3] at ho
  exact ⟨v, rfl, ho, hc, hg⟩

theorem grown_then {w w1 w2 : World} {c : Option Nat} (h : w.grownBy w1 c) (hb : Below w.heap.size w1 w2) : w.grownBy w2 c :=
  ⟨hb.os.trans h.os, hb.tape.trans h.tape, hb.output.trans h.output, Nat.le_trans h.size hb.size, fun k hk hne => (hb.block k hk).trans (h.block k hk hne)⟩
theorem CurAt.own {w w1 w2 : World} {c : Nat} {a : Option Addr} {len cap : Nat} {l : List Int} {at0 at_ : Nat} {er0 er : Int} (h0 : CurAt w c a len cap l at0 er0) (h1 : CurAt w1 c a len cap l at_ er) (hg : w.grownBy w1 (some c)) (hb : Below w.heap.size w1 w2) :
    CurAt w2 c a len cap l at_ er := ⟨(hb.block c h0.lt).trans h1.block, h0.lies.grown h0.noU8 (grown_then hg hb), h1.oct, h1.le, h1.small⟩

/-- Bytes laid over the middle of a header. -/
theorem splice_F {h : Hd} (k : h.ok) {x : List Int} (hx : x.length = 16) : splice h.cs.toList 5 (u8s x) = (h.setF x).cs.toList := by
  have : h.f.length = 16 := k.1.1
  simp [splice, Hd.cs, Hd.setF, arr, u8s, hx, List.drop_append, this]
theorem splice_T {h : Hd} (k : h.ok) {x : List Int} (hx : x.length = 16) : splice h.cs.toList 21 (u8s x) = (h.setT x).cs.toList := by
  have h1 : h.f.length = 16 := k.1.1
  have h2 : h.t.length = 16 := k.2.1
  simp [splice, Hd.cs, Hd.setT, arr, u8s, hx, List.drop_append, List.take_append, h1, h2]

theorem and8 (x : Int) (h0 : 0 ≤ x) (h1 : x < 4294967296) : bits .and .i64 (x / 1048576) 255 = x / 1048576 % 256 :=
  bits_mask .i64 62 (by decide) wraps_i64 8 (by decide) (x / 1048576) (by omega) (by omega)
theorem and20 (x : Int) (h0 : 0 ≤ x) (h1 : x < 4294967296) : bits .and .i64 x 1048575 = x % 1048576 :=
  bits_mask .i64 62 (by decide) wraps_i64 20 (by decide) x h0 (by omega)

/-- The header that bytes begin with. -/
def decH (l : List Int) : Hd := ⟨numOf (l.take 4) / 1048576 % 256, numOf (l.take 4) % 1048576, numOf ((l.drop 4).take 2), numOf ((l.drop 6).take 1), numOf ((l.drop 7).take 1), (l.drop 8).take 16, (l.drop 24).take 16⟩
theorem decH_ok {l : List Int} (ho : Oct l) (hl : 40 ≤ l.length) : (decH l).ok :=
  ⟨⟨by simp [decH]; omega, ho.cut 8 16⟩, ⟨by simp [decH]; omega, ho.cut 24 16⟩⟩
end Go.Proofs.Ytmpkemlnpmephaa
