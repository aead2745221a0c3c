/- What the document's Decode answers: a contract. -/
import Derived.Test.YtmpkemlnpmephaaDcd
namespace Go.Proofs.Ytmpkemlnpmephaa
open Go.ChangeShapes Go.WideShapes Go.ChangeAt Go.RowKit
set_option linter.unusedVariables false
set_option linter.unusedSimpArgs false

theorem Hd.setA (h : Hd) (x : Int) : h.cs.setIfInBounds 0 (.int .i64 x) = Hd.cs ⟨x, h.fl, h.ln, h.nx, h.hp, h.f, h.t⟩ := by
  apply Array.ext'; simp [Hd.cs]
theorem Hd.setB (h : Hd) (x : Int) : h.cs.setIfInBounds 1 (.int .i64 x) = Hd.cs ⟨h.c, x, h.ln, h.nx, h.hp, h.f, h.t⟩ := by
  apply Array.ext'; simp [Hd.cs]

theorem take4 {l : List Int} (h : 4 ≤ l.length) : l.take 4 = [l.getD 0 0, l.getD 1 0, l.getD 2 0, l.getD 3 0] := by
  match l, h with
  | a :: b :: c :: d :: _, _ => rfl
theorem cut2 {l : List Int} (n : Nat) (h : n + 2 ≤ l.length) : (l.drop n).take 2 = [l.getD n 0, l.getD (n + 1) 0] := by
  apply List.ext_getElem (by simp; omega)
  intro i h1 h2
  simp at h2
  match i, h2 with
  | 0, _ => simp [show n < l.length by omega]
  | 1, _ => simp [show n + 1 < l.length by omega]
theorem cut1 {l : List Int} (n : Nat) (h : n + 1 ≤ l.length) : (l.drop n).take 1 = [l.getD n 0] := by
  apply List.ext_getElem (by simp; omega)
  intro i h1 h2
  simp at h2
  subst h2
  simp [show n < l.length by omega]
theorem decH_eq {l : List Int} (ho : Oct l) (h : 40 ≤ l.length) :
    decH l = ⟨l.getD 0 0 % 16 * 16 + l.getD 1 0 / 16, l.getD 1 0 % 16 * 65536 + l.getD 2 0 * 256 + l.getD 3 0, l.getD 4 0 * 256 + l.getD 5 0, l.getD 6 0, l.getD 7 0, (l.drop 8).take 16, (l.drop 24).take 16⟩ := by
  have h0 := ho.at 0 (by omega); have h1 := ho.at 1 (by omega); have h2 := ho.at 2 (by omega); have h3 := ho.at 3 (by omega)
  unfold decH
  rw [take4 (by omega), cut2 4 (by omega), cut1 6 (by omega), cut1 7 (by omega), show l.getD (4 + 1) 0 = l.getD 5 0 from rfl]
  generalize l.getD 0 0 = a at *
  generalize l.getD 1 0 = b at *
  generalize l.getD 2 0 = c at *
  generalize l.getD 3 0 = d at *
  simp only [numOf, List.foldl_cons, List.foldl_nil]
  congr 1 <;> omega

/-- Some bytes have come over. -/
def mix (F : List Int) (k : Nat) : List Int := F.take k ++ zeros.drop k
theorem mix_len {F : List Int} (h : F.length = 16) (k : Nat) (hk : k ≤ 16) : (mix F k).length = 16 := by
  simp [mix, zeros]; omega
theorem mix_next {F : List Int} (h : F.length = 16) (k : Nat) (hk : k < 16) : (mix F k).set k (F.getD k 0) = mix F (k + 1) := by
  unfold mix
  apply List.ext_getElem (by simp [zeros]; omega)
  intro i h1 h2
  rw [List.getElem_set]
  by_cases hik : k = i
  · subst hik
    rw [if_pos rfl, List.getElem_append_left (by simp; omega)]
    simp [h, hk]
  · rw [if_neg hik]
    by_cases hi : i < k
    · rw [List.getElem_append_left (by simp; omega), List.getElem_append_left (by simp; omega)]; simp
    · rw [List.getElem_append_right (by simp; omega), List.getElem_append_right (by simp; omega)]
      simp only [List.getElem_drop]
      congr 1; simp; omega
theorem mix_all {F : List Int} (h : F.length = 16) : mix F 16 = F := by
  rw [mix, List.take_of_length_le (by omega)]; simp [zeros]
theorem mix_adr {F : List Int} (h : Adr F) (k : Nat) (hk : k ≤ 16) : Adr (mix F k) := by
  refine ⟨mix_len h.1 k hk, ?_⟩
  intro x hx
  rcases List.mem_append.1 hx with h1 | h1
  · exact h.2 x (List.mem_of_mem_take h1)
  · exact adr_zeros.2 x (List.mem_of_mem_drop h1)
theorem Hd.setAtF {h : Hd} (k : h.ok) (j : Nat) (hj : j < 16) (x : Int) : h.cs.setIfInBounds (5 + j) (.int .u8 x) = (h.setF (h.f.set j x)).cs := by
  apply Array.ext'
  have h1 : h.f.length = 16 := k.1.1
  rw [Nat.add_comm 5 j]
  simp [Hd.cs, Hd.setF, arr, u8s, List.set_append, h1, hj, List.map_set, List.set_cons_succ]
theorem Hd.setAtT {h : Hd} (k : h.ok) (j : Nat) (hj : j < 16) (x : Int) : h.cs.setIfInBounds (21 + j) (.int .u8 x) = (h.setT (h.t.set j x)).cs := by
  apply Array.ext'
  have h1 : h.f.length = 16 := k.1.1
  rw [show 21 + j = (j + 16) + 5 by omega]
  simp [Hd.cs, Hd.setT, arr, u8s, List.set_append, h1, List.map_set, List.set_cons_succ]
set_option maxHeartbeats 800000 in
theorem rdec_short (a : Option Addr) (len cap : Nat) (l : List Int) (w : World) (h : Lies .u8 w a len cap l) (hs : len < 40) :
    Calls Try.prog 17 #[.slice a len cap] w fun r w' => r = .returned (.tuple #[.agg Hd.zero.cs, .slice none 0 0, .int .i64 4]) ∧ Below w.heap.size w w' := by
  have hz := zhd
  have Z1 := hid (Row.new w 24 Hd.zero.cs)
  have B1 := hid (balloc (Below.refl w.heap.size w) (.cells Hd.zero.cs 24))
  have hs' : (len : Int) < 40 := by omega
  clear h
  go_enter Try.func17, Try.ntmps17
  go_upto_region 1 with fail
  generalize w.alloc (.cells Hd.zero.cs 24) = w1 at *
  go_wp2_with (first
    | (refine bd24z rfl rfl ?_)
    | (refine st24 _ _ rfl rfl w.heap.size Hd.zero Hd.zero_ok rfl rfl 24 Hd.zero Hd.zero_ok Z1.out ?_))
  exact bodyPost_ret (res24f rfl _ _ w.heap.size 24 Hd.zero Hd.zero_ok (.slice none 0 0) (.int .i64 4) rfl rfl rfl (Z1.out.setRow _)) rfl ⟨rfl, below_setRow' B1.out (Nat.le_refl _) _⟩

set_option maxHeartbeats 800000 in
theorem rdec_form (a : Option Addr) (len cap : Nat) (l : List Int) (w : World) (h : Lies .u8 w a len cap l) (ho : Oct l) (hs : 40 ≤ len) (hf : l.getD 0 0 / 16 ≠ 6) :
    Calls Try.prog 17 #[.slice a len cap] w fun r w' => r = .returned (.tuple #[.agg Hd.zero.cs, .slice none 0 0, .int .i64 3]) ∧ Below w.heap.size w w' := by
  have hz := zhd
  have Z1 := hid (Row.new w 24 Hd.zero.cs)
  have b1 := balloc (Below.refl w.heap.size w) (.cells Hd.zero.cs 24)
  have B1 := hid b1
  obtain ⟨b, off, rfl, hcell⟩ := (h.below b1).2.2.2.2 0 (by omega)
  rw [Nat.add_zero] at hcell
  have hx := ho.at 0 (by rw [h.1]; omega)
  have hcm : cap ≤ maxLen := h.2.2.1
  have hlc := h.2.1
  unfold maxLen at hcm
  generalize l.getD 0 0 = x at *
  have hs' : decide ((len : Int) < 40) = false := by simp; omega
  have hf' : (x / 16 != 6) = true := by rw [bne_iff_ne]; exact hf
  clear h b1 hf
  go_enter Try.func17, Try.ntmps17
  go_upto_region 1 with fail
  generalize w.alloc (.cells Hd.zero.cs 24) = w1 at *
  go_wp2_with (first
    | (refine bd24z rfl rfl ?_)
    | (refine st24 _ _ rfl rfl w.heap.size Hd.zero Hd.zero_ok rfl rfl 24 Hd.zero Hd.zero_ok Z1.out ?_))
  exact bodyPost_ret (res24f rfl _ _ w.heap.size 24 Hd.zero Hd.zero_ok (.slice none 0 0) (.int .i64 3) rfl rfl rfl (Z1.out.setRow _)) rfl ⟨rfl, below_setRow' B1.out (Nat.le_refl _) _⟩

set_option maxHeartbeats 800000 in
theorem rdec_long (a : Option Addr) (len cap : Nat) (l : List Int) (w : World) (h : Lies .u8 w a len cap l) (ho : Oct l) (hs : 1280 < len) (hf : l.getD 0 0 / 16 = 6) :
    Calls Try.prog 17 #[.slice a len cap] w fun r w' => r = .returned (.tuple #[.agg Hd.zero.cs, .slice none 0 0, .int .i64 2]) ∧ Below w.heap.size w w' := by
  have hz := zhd
  have Z1 := hid (Row.new w 24 Hd.zero.cs)
  have b1 := balloc (Below.refl w.heap.size w) (.cells Hd.zero.cs 24)
  have B1 := hid b1
  obtain ⟨b, off, rfl, hcell⟩ := (h.below b1).2.2.2.2 0 (by omega)
  rw [Nat.add_zero] at hcell
  have hx := ho.at 0 (by rw [h.1]; omega)
  have hcm : cap ≤ maxLen := h.2.2.1
  have hlc := h.2.1
  unfold maxLen at hcm
  generalize l.getD 0 0 = x at *
  have hs' : decide ((len : Int) < 40) = false := by simp; omega
  have hf' : (x / 16 != 6) = false := by simp [hf]
  have hl' : (1280 : Int) < len := by omega
  clear h b1 hf
  go_enter Try.func17, Try.ntmps17
  go_upto_region 1 with fail
  generalize w.alloc (.cells Hd.zero.cs 24) = w1 at *
  go_wp2_with (first
    | (refine bd24z rfl rfl ?_)
    | (refine st24 _ _ rfl rfl w.heap.size Hd.zero Hd.zero_ok rfl rfl 24 Hd.zero Hd.zero_ok Z1.out ?_))
  exact bodyPost_ret (res24f rfl _ _ w.heap.size 24 Hd.zero Hd.zero_ok (.slice none 0 0) (.int .i64 2) rfl rfl rfl (Z1.out.setRow _)) rfl ⟨rfl, below_setRow' B1.out (Nat.le_refl _) _⟩
end Go.Proofs.Ytmpkemlnpmephaa
