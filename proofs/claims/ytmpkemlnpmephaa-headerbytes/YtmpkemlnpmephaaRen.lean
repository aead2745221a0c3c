/- What the document's Encode answers: a contract. -/
import Derived.Test.YtmpkemlnpmephaaEnc
namespace Go.Proofs.Ytmpkemlnpmephaa
open Go.ChangeShapes Go.WideShapes Go.ChangeAt Go.RowKit
set_option linter.unusedVariables false
set_option linter.unusedSimpArgs false

def ref8 (h : Hd) : List Int := [96 + h.c / 16, h.c % 16 * 16 + h.fl / 65536, h.fl / 256 % 256, h.fl % 256, h.ln / 256, h.ln % 256, h.nx, h.hp]
theorem hd8_ref {h : Hd} (k : okH h = true) : hd8 h = ref8 h := by
  obtain ⟨⟨a0, a1⟩, ⟨b0, b1⟩, ⟨c0, c1⟩, ⟨d0, d1⟩, e0, e1⟩ := okH_yes k
  simp [hd8, ref8, bytesOf, digs, word]
  omega

/-- An append onto a row of the call's own, from wherever: what it writes. -/
theorem wpList_append_own_by {P : Program} (w : World) {ops : Array Oper} {rest : List Oper} {o : Oper} {a : Act} {Q : Exit → Act → World → Prop} (hgd : o.guard = none) (s x : Operand) (t : TypeId)
    (ho : o.op = .call { callee := .builtin .append, args := #[s, x], argTypes := #[t, t] })
    (base : Nat) (e : TypeId) (i : TypeInfo) (z : Value) (size bytes : Nat) (ht : P.underlying t = some (.slice e)) (hi : P.info? e = some i) (hz : i.zero = some z)
    (hsize : i.size = size) (hby : i.bytes = bytes) (hzs : z.cells.size = size) (hsz : 0 < size)
    (v : Value) (n : Nat) (xs : List Value) (hs : a.eval s = v) (hown : w.ownsRow base e size v n xs)
    (ao : Option Addr) (m c : Nat) (news : List Value) (hx : a.eval x = .slice ao m c) (hl : news.length = m * size) (hnone : ao = none → m = 0 ∧ c = 0) (hnews : ∀ ad, ao = some ad → ∀ j u, news[j]? = some u → w.cell? (ad.add j) = some u) (h1 : ∀ u ∈ news, u.oneCell' = true)
    (h63 : n + m ≤ maxLen) (hbytes : (n + m) * bytes ≤ 140737488355328) (hbase : base ≤ w.heap.size)
    (h : ∀ v' w', w'.ownsRow base e size v' (n + m) (xs ++ news) → w.grownBy w' v.ownBlock → wpList P ops Q rest (a.put o.dst v') w') : wpList P ops Q (o :: rest) a w := by
  cases ao with
  | some ad =>
    refine wpList_append_own w hgd s x t ho base e i z size bytes ht hi hz hsize hby hzs hsz v n xs hs hown ad m c news hx hl (hnews ad rfl) h1 h63 hbytes hbase ?_
    intro v' w' h2 h3 _
    exact h v' w' h2 h3
  | none =>
    obtain ⟨rfl, rfl⟩ := hnone rfl
    have hn : news = [] := List.eq_nil_of_length_eq_zero (by simpa using hl)
    subst hn
    refine wpList_append_own_none hgd s x t ho base e i size ht hi v n xs hs hown hx ?_
    exact h v w (by simpa using hown) (World.grownBy.refl _ _)

theorem bown {w w1 w2 : World} {e : TypeId} {size : Nat} {v : Value} {n : Nat} {xs : List Value} (h : Below w.heap.size w w1) (ho : w1.ownsRow w.heap.size e size v n xs) (k : w1.grownBy w2 v.ownBlock) : Below w.heap.size w w2 :=
  Below.grown h k h.size (fun j hj => (ho.lt j hj).1)

theorem own_row {w : World} {base g : Nat} {e t : TypeId} {size : Nat} {v : Value} {n : Nat} {xs : List Value} {c : Array Value} (h : w.ownsRow base e size v n xs) (hr : Row w g t c) (hne : e ≠ t) : v.ownBlock ≠ some g := by
  rcases h.2 with ⟨rfl, _⟩ | ⟨g', cap, cur, rfl, _, hg, _⟩
  · simp [Value.ownBlock]
  · simp only [Value.ownBlock]
    intro he
    obtain rfl := Option.some.inj he
    rw [hr] at hg
    simp at hg
    exact hne hg.2.symm

set_option maxHeartbeats 800000 in
theorem refEncode_any (h : Hd) (k : h.ok) (ho : okH h = true) (w : World) :
    Calls Try.prog 12 #[.agg h.cs] w fun e w' => ∃ v, e = .returned v ∧ w'.ownsRow w.heap.size 5 1 v (hdrL h).length (u8s (hdrL h)) ∧ Below w.heap.size w w' := by
  obtain ⟨⟨a0, a1⟩, ⟨b0, b1⟩, ⟨c0, c1⟩, ⟨d0, d1⟩, e0, e1⟩ := okH_yes ho
  have HR0 := hid (Row.new w 24 h.cs)
  have B0 := hid (balloc (Below.refl w.heap.size w) (.cells h.cs 24))
  go_enter Try.func12, Try.ntmps12
  go_upto_region 1 with fail
  generalize (w.alloc (.cells h.cs 24)) = w1 at *
  have p0 := (HR0.out.cell 0).trans h.at0
  have p1 := (HR0.out.cell 1).trans h.at1
  go_upto_region 2 with fail
  have O2 : Hid ((w1.alloc (.cells #[.int .u8 (96 + h.c / 16), .int .u8 (h.c % 16 * 16 + h.fl / 65536), .int .u8 (h.fl / 256 % 256), .int .u8 (h.fl % 256)] 5)).ownsRow w.heap.size 5 1 (.slice (some ⟨w1.heap.size, 0, none⟩) 4 4) 4 (u8s [96 + h.c / 16, h.c % 16 * 16 + h.fl / 65536, h.fl / 256 % 256, h.fl % 256])) :=
    ⟨rfl, .inr ⟨w1.heap.size, 4, _, rfl, B0.out.size, heap_alloc_new w1 _, Nat.le_refl _, by decide, rfl, rfl⟩⟩
  have R2 := hid (HR0.out.alloc (.cells #[.int .u8 (96 + h.c / 16), .int .u8 (h.c % 16 * 16 + h.fl / 65536), .int .u8 (h.fl / 256 % 256), .int .u8 (h.fl % 256)] 5))
  have B2 := hid (balloc B0.out (.cells #[.int .u8 (96 + h.c / 16), .int .u8 (h.c % 16 * 16 + h.fl / 65536), .int .u8 (h.fl / 256 % 256), .int .u8 (h.fl % 256)] 5))
  generalize w1.alloc (.cells #[.int .u8 (96 + h.c / 16), .int .u8 (h.c % 16 * 16 + h.fl / 65536), .int .u8 (h.fl / 256 % 256), .int .u8 (h.fl % 256)] 5) = w2 at *
  have p2 := (R2.out.cell 2).trans h.at2
  have p3 := (R2.out.cell 3).trans h.at3
  have p4 := (R2.out.cell 4).trans h.at4
  have S3 := hid (lies_new .u8 w2 #[.int .u8 (h.ln / 256), .int .u8 (h.ln % 256), .int .u8 h.nx, .int .u8 h.hp] 5 [h.ln / 256, h.ln % 256, h.nx, h.hp] rfl (by simp))
  have R3 := hid (R2.out.alloc (.cells #[.int .u8 (h.ln / 256), .int .u8 (h.ln % 256), .int .u8 h.nx, .int .u8 h.hp] 5))
  have B3 := hid (balloc B2.out (.cells #[.int .u8 (h.ln / 256), .int .u8 (h.ln % 256), .int .u8 h.nx, .int .u8 h.hp] 5))
  have O3 := hid (O2.out.alloc (.cells #[.int .u8 (h.ln / 256), .int .u8 (h.ln % 256), .int .u8 h.nx, .int .u8 h.hp] 5))
  obtain ⟨i0, hi, hz0, hz1, hz2⟩ := info_parts info5
  have HE : Hid (hdrL h = ref8 h ++ (h.f ++ h.t)) := by rw [Hid, hdrL, hd8_ref ho]
  have hw1 : w.heap.size < w1.heap.size := HR0.out.lt
  clear ho p0 p1
  go_wp2_with (at_builtin; refine wpList_append_own_by _ rfl _ _ 30 rfl w.heap.size 5 i0 (.int .u8 0) 1 1 Try.underlying30 hi hz0 hz1 hz2 rfl (by decide) _ _ _ rfl O3.out _ 4 4 (u8s [h.ln / 256, h.ln % 256, h.nx, h.hp]) rfl rfl ?c2 ?c3 (ints_oneCell8 _ _) ?c4 ?c5 ?c6 ?_)
  case c2 => intro h; cases h
  case c3 => exact S3.out.cells
  case c4 => decide
  case c5 => omega
  case c6 => exact B3.out.size
  intro v4 w4 hown4 hg4
  have R4 := hid (R3.out.kept hg4 (by simp [Value.ownBlock]; omega))
  have B4 := hid (bown B3.out O3.out hg4)
  have O4 := hid hown4
  have F4 := hid (part_lies k.1 (R4.out.partF k))
  clear hown4 hg4 p2 p3 p4 S3 R3 B3 O3 R2 B2 O2 HR0 B0
  generalize hX : u8s [96 + h.c / 16, h.c % 16 * 16 + h.fl / 65536, h.fl / 256 % 256, h.fl % 256] ++ u8s [h.ln / 256, h.ln % 256, h.nx, h.hp] = X at *
  have HX := hid hX
  clear hX
  go_wp2_with (at_builtin; refine wpList_append_own_by _ rfl _ _ 30 rfl w.heap.size 5 i0 (.int .u8 0) 1 1 Try.underlying30 hi hz0 hz1 hz2 rfl (by decide) _ _ _ rfl O4.out _ 16 16 (u8s h.f) rfl ?d1 ?d2 ?d3 (ints_oneCell8 _ _) ?d4 ?d5 ?d6 ?_)
  case d1 => simp [u8s]; exact k.1.1
  case d2 => intro h; cases h
  case d3 => exact F4.out.cells
  case d4 => decide
  case d5 => omega
  case d6 => exact B4.out.size
  intro v5 w5 hown5 hg5
  have R5 := hid (R4.out.kept hg5 (fun e => own_row O4.out R4.out (by decide) e.symm))
  have B5 := hid (bown B4.out O4.out hg5)
  have O5 := hid hown5
  have T5 := hid (part_lies k.2 (R5.out.partT k))
  clear hown5 hg5 R4 B4 O4 F4
  generalize hY : X ++ u8s h.f = Y at *
  have HY := hid hY
  clear hY
  go_wp2_with (at_builtin; refine wpList_append_own_by _ rfl _ _ 30 rfl w.heap.size 5 i0 (.int .u8 0) 1 1 Try.underlying30 hi hz0 hz1 hz2 rfl (by decide) _ _ _ rfl O5.out _ 16 16 (u8s h.t) rfl ?e1 ?e2 ?e3 (ints_oneCell8 _ _) ?e4 ?e5 ?e6 ?_)
  case e1 => simp [u8s]; exact k.2.1
  case e2 => intro h; cases h
  case e3 => exact T5.out.cells
  case e4 => decide
  case e5 => omega
  case e6 => exact B5.out.size
  intro v6 w6 hown6 hg6
  have B6 := hid (bown B5.out O5.out hg6)
  have O6 := hid hown6
  clear hown6 hg6 R5 B5 O5 T5
  go_wp2_with fail
  go_ret
  refine ⟨_, rfl, ?_, B6.out⟩
  exact ownsRow_u8 O6.out (by rw [hdrL_len k]) (by rw [← HY.out, ← HX.out, HE.out]; simp [u8s, ref8])
end Go.Proofs.Ytmpkemlnpmephaa
