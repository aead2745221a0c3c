/- What Decode answers. -/
import Derived.Test.YtdfeahbpgchkoaaHopEnc
namespace Go.Proofs.Ytdfeahbpgchkoaa
open Go.ChangeShapes Go.WideShapes Go.ChangeAt Go.RowKit
set_option linter.unusedVariables false
set_option linter.unusedSimpArgs false

/-- What is wrong with bytes. -/
def dcE (l : List Int) : Int := if l.length < 8 then 4 else if (l.getD 1 0 = 0 ∧ l.getD 2 0 = 99 ∧ l.getD 3 0 = 4) then (if l.getD 4 0 % 32 = 0 then 0 else 3) else 6
/-- The option of bytes. -/
def opO (l : List Int) : Ho := ⟨l.getD 4 0 / 128 == 1, l.getD 4 0 / 64 % 2 == 1, l.getD 4 0 / 32 % 2 == 1, l.getD 5 0, 256 * l.getD 6 0 + l.getD 7 0⟩
def dcN (l : List Int) : Int := if dcE l = 0 then l.getD 0 0 else 0
def dcO (l : List Int) : Ho := if dcE l = 0 then opO l else Ho.zero
def dcR (l : List Int) : List Int := if dcE l = 0 then l.drop 8 else []
theorem dcE_zero {l : List Int} (h : dcE l = 0) : 8 ≤ l.length ∧ l.getD 1 0 = 0 ∧ l.getD 2 0 = 99 ∧ l.getD 3 0 = 4 ∧ l.getD 4 0 % 32 = 0 := by
  unfold dcE at h
  repeat' split at h
  all_goals (try omega)
theorem dcR_len (l : List Int) : (dcR l).length ≤ l.length := by
  unfold dcR
  split <;> simp
theorem dcR_oct {l : List Int} (ho : Oct l) : Oct (dcR l) := by
  unfold dcR
  split
  · exact fun x hx => ho x (List.mem_of_mem_drop hx)
  · intro x hx; cases hx
theorem flags256 : ∀ x : Fin 256, anF (x.val : Int) 128 = ((x.val : Int) / 128 == 1) ∧ anF (x.val : Int) 64 = ((x.val : Int) / 64 % 2 == 1) ∧ anF (x.val : Int) 32 = ((x.val : Int) / 32 % 2 == 1) := by decide +kernel
theorem more256 : ∀ x : Fin 256, (bits .andNot .u8 (x.val : Int) 224 != 0) = !decide ((x.val : Int) % 32 = 0) := by decide +kernel
theorem fin256 {x : Int} (h0 : 0 ≤ x) (h1 : x < 256) : ∃ y : Fin 256, x = (y.val : Int) := ⟨⟨x.toNat, by omega⟩, by simp; omega⟩
theorem flags_of {x : Int} (h0 : 0 ≤ x) (h1 : x < 256) (h : Ho) : flgO h x = ⟨x / 128 == 1, x / 64 % 2 == 1, x / 32 % 2 == 1, h.i, h.r⟩ := by
  obtain ⟨y, rfl⟩ := fin256 h0 h1
  obtain ⟨h1, h2, h3⟩ := flags256 y
  rw [flgO, h1, h2, h3]
theorem more_of {x : Int} (h0 : 0 ≤ x) (h1 : x < 256) : (bits .andNot .u8 x 224 != 0) = !decide (x % 32 = 0) := by
  obtain ⟨y, rfl⟩ := fin256 h0 h1
  exact more256 y
/-- Where the bytes lie. -/
theorem Lies.at {kd : IntKind} {w : World} {a : Option Addr} {len cap : Nat} {l : List Int} (h : Lies kd w a len cap l) (hlen : 0 < len) : ∃ b off, a = some ⟨b, off, none⟩ ∧ ∀ k, k < len → w.cell? ⟨b, off + k, none⟩ = some (.int kd (l.getD k 0)) := by
  obtain ⟨b, off, rfl, _⟩ := h.2.2.2.2 0 hlen
  refine ⟨b, off, rfl, fun k hk => ?_⟩
  obtain ⟨b', off', e, hc⟩ := h.2.2.2.2 k hk
  simp at e
  obtain ⟨rfl, rfl⟩ := e
  exact hc
end Go.Proofs.Ytdfeahbpgchkoaa
