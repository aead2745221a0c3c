/- hopopt's Hop and Mark; ref's Hop; rivuletlaw06's known. -/
import Derived.Test.YtdfeahbpgchkoaaHopCon
namespace Go.Proofs.Ytdfeahbpgchkoaa
open Go.ChangeShapes Go.WideShapes Go.ChangeAt Go.RowKit
set_option linter.unusedVariables false
set_option linter.unusedSimpArgs false

/-- An option is laid into a block that was just made. -/
theorem layO_new (w : World) (t : TypeId) (h : Ho) : Row ((w.alloc (.cells Ho.zero.cs t)).setRow w.heap.size h.cs) w.heap.size t h.cs := (Row.new w t _).setRow _
theorem layO_below (w : World) (t : TypeId) (h : Ho) : Below w.heap.size w ((w.alloc (.cells Ho.zero.cs t)).setRow w.heap.size h.cs) := below_setRow' (balloc (Below.refl _ _) _) (Nat.le_refl _) _
/-- What is wrong with a hop. -/
def hopE (o : Ho) (own least : Int) : Int := if hpB o own least = true then (if (!csB o own least && o.w) = true then 11 else 0) else 1
/-- The option behind it. -/
def hopO (o : Ho) (own least : Int) : Ho := if hopE o own least = 0 then (o.setW (o.w || !csB o own least)).setR own else Ho.zero
/-- Was it consistent? -/
def hopB (o : Ho) (own least : Int) : Bool := conV o own least
set_option maxHeartbeats 1600000 in
theorem hop_any (h : Ho) (own least : Int) (w : World) :
    Calls Try.prog 16 #[.agg h.cs, .int .i64 own, .int .i64 least] w fun e w' => e = .returned (.tuple #[.agg (hopO h own least).cs, .bool (conV h own least), .int .i64 (hopE h own least)]) ∧ Below w.heap.size w w' := by
  have hz := zho
  have HR0 := hid ((Row.new w 28 h.cs).alloc (.cells Ho.zero.cs 28))
  have HR1 : Hid (Row ((w.alloc (.cells h.cs 28)).alloc (.cells Ho.zero.cs 28)) (w.heap.size + 1) 28 Ho.zero.cs) := by simpa [Hid] using Row.new (w.alloc (.cells h.cs 28)) 28 Ho.zero.cs
  have B1 := hid (balloc (balloc (Below.refl w.heap.size w) (.cells h.cs 28)) (.cells Ho.zero.cs 28))
  have HE : Hid (hopE h own least = if hpB h own least = true then (if (!csB h own least && h.w) = true then 11 else 0) else 1) := rfl
  have HO : Hid (hopO h own least = if hopE h own least = 0 then (h.setW (h.w || !csB h own least)).setR own else Ho.zero) := rfl
  have HV : Hid (conV h own least = (hpB h own least && csB h own least)) := rfl
  have HP : Hid (hpE h own least = if hpB h own least = true then 0 else 1) := rfl
  have hcon := hid (fun w' => consistent_any h own least w')
  generalize hopO h own least = P at *
  generalize hopE h own least = E at *
  generalize conV h own least = V at *
  generalize hpE h own least = pe at *
  generalize hpB h own least = pb at *
  generalize csB h own least = cb at *
  go_enter Try.func16, Try.ntmps16
  go_upto_region 1 with fail
  generalize (w.alloc (.cells h.cs 28)).alloc (.cells Ho.zero.cs 28) = w1 at *
  have hG1 : w.heap.size < w.heap.size + 1 := by omega
  generalize w.heap.size + 1 = g1 at *
  go_wp2_with (refine ldO oh _ rfl rfl w.heap.size rfl h 28 HR0.out ?_)
  refine (hcon.out _).mono ?_
  rintro e w2 ⟨rfl, hb2⟩
  have R2 := hid (HR0.out.below hb2)
  have Z2 := hid (HR1.out.below hb2)
  have B2 := hid (bthen B1.out hb2)
  clear hb2 HR0 HR1 B1 hcon
  cases pb
  · obtain rfl : pe = 1 := by rw [HP.out]; rfl
    obtain rfl : V = false := by rw [HV.out]; rfl
    have hE : Hid (E = 1) := by rw [Hid, HE.out]; rfl
    have hP : Hid (P = Ho.zero) := by rw [Hid, HO.out, hE.out]; rfl
    go_wp2_with (first
      | (refine bdOz oh rfl rfl ?_)
      | (refine stO oh _ _ rfl rfl g1 Ho.zero rfl rfl 28 Ho.zero Z2.out ?_))
    exact bodyPost_ret (resOf oh rfl _ _ g1 28 Ho.zero (.bool false) (.int .i64 1) rfl rfl rfl (Z2.out.setRow _)) rfl ⟨by rw [hP.out, hE.out], below_setRow' B2.out (by omega) _⟩
  · obtain rfl : pe = 0 := by rw [HP.out]; rfl
    obtain rfl : V = cb := by rw [HV.out]; rfl
    have N3 := hid (layO_new w2 28 h)
    have R3 := hid (R2.out.below (layO_below w2 28 h))
    have Z3 := hid (Z2.out.below (layO_below w2 28 h))
    have B3 := hid (bthen B2.out (layO_below w2 28 h))
    have hg1 : g1 < w2.heap.size := Z2.out.lt
    go_upto_region 5 with (first
      | (refine ldO oh _ rfl rfl w.heap.size rfl h 28 R2.out ?_)
      | (refine stO oh _ _ rfl rfl w2.heap.size h rfl rfl 28 Ho.zero (Row.new w2 28 _) ?_))
    generalize (w2.alloc (.cells Ho.zero.cs 28)).setRow w2.heap.size h.cs = w3 at *
    generalize w2.heap.size = gn at *
    have c1 := (R3.out.cell 1).trans h.at1
    have f1 := N3.out.frozen 1
    have n1 := (N3.out.cell 1).trans h.at1
    cases hw : h.w
    · rw [hw] at HE HO
      cases V
      · rw [hw] at c1
        have N4 : Hid (Row (w3.setCell ⟨gn, 1, none⟩ (.bool true)) gn 28 (h.setW true).cs) := by rw [Hid, ← Ho.set1]; exact N3.out.set 1 _
        have R4 := hid (R3.out.other ⟨gn, 1, none⟩ (.bool true) (by simp; omega))
        have Z4 := hid (Z3.out.other ⟨gn, 1, none⟩ (.bool true) (by simp; omega))
        have B4 := hid (bset 1 (.bool true) B3.out (g := gn) (by omega))
        have q := eqHo (h.setW true) h
        have hq : (h.setW true).eqB h = false := by simp [Ho.eqB, Ho.setW, hw]
        rw [hq] at q
        clear hq
        have hE : Hid (E = 0) := by rw [Hid, HE.out]; rfl
        have hP : Hid (P = (h.setW true).setR own) := by rw [Hid, HO.out, hE.out]; rfl
        have f4 := N4.out.frozen 4
        have n4 := (N4.out.cell 4).trans (h.setW true).at4
        have N5 : Hid (Row ((w3.setCell ⟨gn, 1, none⟩ (.bool true)).setCell ⟨gn, 4, none⟩ (.int .i64 own)) gn 28 ((h.setW true).setR own).cs) := by rw [Hid, ← Ho.set4]; exact N4.out.set 4 _
        have Z5 := hid (Z4.out.other ⟨gn, 4, none⟩ (.int .i64 own) (by simp; omega))
        have B5 := hid (bset 4 (.int .i64 own) B4.out (g := gn) (by omega))
        go_wp2_with (first
          | (refine ldO oh _ rfl rfl gn rfl (h.setW true) 28 N4.out ?_)
          | (refine ldO oh _ rfl rfl w.heap.size rfl h 28 R4.out ?_)
          | (refine ldO oh _ rfl rfl gn rfl ((h.setW true).setR own) 28 N5.out ?_)
          | (refine stO oh _ _ rfl rfl g1 ((h.setW true).setR own) rfl rfl 28 Ho.zero Z5.out ?_))
        exact bodyPost_ret (resOf oh rfl _ _ g1 28 ((h.setW true).setR own) (.bool false) (.int .i64 0) rfl rfl rfl (Z5.out.setRow _)) rfl ⟨by rw [hP.out, hE.out], below_setRow' B5.out (by omega) _⟩
      · rw [hw] at c1
        have N4 : Hid (Row (w3.setCell ⟨gn, 1, none⟩ (.bool false)) gn 28 (h.setW false).cs) := by rw [Hid, ← Ho.set1]; exact N3.out.set 1 _
        have R4 := hid (R3.out.other ⟨gn, 1, none⟩ (.bool false) (by simp; omega))
        have Z4 := hid (Z3.out.other ⟨gn, 1, none⟩ (.bool false) (by simp; omega))
        have B4 := hid (bset 1 (.bool false) B3.out (g := gn) (by omega))
        have hE : Hid (E = 0) := by rw [Hid, HE.out]; rfl
        have hP : Hid (P = (h.setW false).setR own) := by rw [Hid, HO.out, hE.out]; rfl
        have f4 := N4.out.frozen 4
        have n4 := (N4.out.cell 4).trans (h.setW false).at4
        have N5 : Hid (Row ((w3.setCell ⟨gn, 1, none⟩ (.bool false)).setCell ⟨gn, 4, none⟩ (.int .i64 own)) gn 28 ((h.setW false).setR own).cs) := by rw [Hid, ← Ho.set4]; exact N4.out.set 4 _
        have Z5 := hid (Z4.out.other ⟨gn, 4, none⟩ (.int .i64 own) (by simp; omega))
        have B5 := hid (bset 4 (.int .i64 own) B4.out (g := gn) (by omega))
        go_wp2_with (first
          | (refine ldO oh _ rfl rfl gn rfl ((h.setW false).setR own) 28 N5.out ?_)
          | (refine stO oh _ _ rfl rfl g1 ((h.setW false).setR own) rfl rfl 28 Ho.zero Z5.out ?_))
        exact bodyPost_ret (resOf oh rfl _ _ g1 28 ((h.setW false).setR own) (.bool true) (.int .i64 0) rfl rfl rfl (Z5.out.setRow _)) rfl ⟨by rw [hP.out, hE.out], below_setRow' B5.out (by omega) _⟩
    · rw [hw] at HE HO
      cases V
      · rw [hw] at c1
        have N4 : Hid (Row (w3.setCell ⟨gn, 1, none⟩ (.bool true)) gn 28 (h.setW true).cs) := by rw [Hid, ← Ho.set1]; exact N3.out.set 1 _
        have R4 := hid (R3.out.other ⟨gn, 1, none⟩ (.bool true) (by simp; omega))
        have Z4 := hid (Z3.out.other ⟨gn, 1, none⟩ (.bool true) (by simp; omega))
        have B4 := hid (bset 1 (.bool true) B3.out (g := gn) (by omega))
        have q := eqHo (h.setW true) h
        have hq : (h.setW true).eqB h = true := by simp [Ho.eqB, Ho.setW, hw]
        rw [hq] at q
        clear hq
        have hE : Hid (E = 11) := by rw [Hid, HE.out]; rfl
        have hP : Hid (P = Ho.zero) := by rw [Hid, HO.out, hE.out]; rfl
        go_wp2_with (first
          | (refine ldO oh _ rfl rfl gn rfl (h.setW true) 28 N4.out ?_)
          | (refine ldO oh _ rfl rfl w.heap.size rfl h 28 R4.out ?_)
          | (refine bdOz oh rfl rfl ?_)
          | (refine stO oh _ _ rfl rfl g1 Ho.zero rfl rfl 28 Ho.zero Z4.out ?_))
        exact bodyPost_ret (resOf oh rfl _ _ g1 28 Ho.zero (.bool false) (.int .i64 11) rfl rfl rfl (Z4.out.setRow _)) rfl ⟨by rw [hP.out, hE.out], below_setRow' B4.out (by omega) _⟩
      · rw [hw] at c1
        have N4 : Hid (Row (w3.setCell ⟨gn, 1, none⟩ (.bool true)) gn 28 (h.setW true).cs) := by rw [Hid, ← Ho.set1]; exact N3.out.set 1 _
        have R4 := hid (R3.out.other ⟨gn, 1, none⟩ (.bool true) (by simp; omega))
        have Z4 := hid (Z3.out.other ⟨gn, 1, none⟩ (.bool true) (by simp; omega))
        have B4 := hid (bset 1 (.bool true) B3.out (g := gn) (by omega))
        have hE : Hid (E = 0) := by rw [Hid, HE.out]; rfl
        have hP : Hid (P = (h.setW true).setR own) := by rw [Hid, HO.out, hE.out]; rfl
        have f4 := N4.out.frozen 4
        have n4 := (N4.out.cell 4).trans (h.setW true).at4
        have N5 : Hid (Row ((w3.setCell ⟨gn, 1, none⟩ (.bool true)).setCell ⟨gn, 4, none⟩ (.int .i64 own)) gn 28 ((h.setW true).setR own).cs) := by rw [Hid, ← Ho.set4]; exact N4.out.set 4 _
        have Z5 := hid (Z4.out.other ⟨gn, 4, none⟩ (.int .i64 own) (by simp; omega))
        have B5 := hid (bset 4 (.int .i64 own) B4.out (g := gn) (by omega))
        go_wp2_with (first
          | (refine ldO oh _ rfl rfl gn rfl ((h.setW true).setR own) 28 N5.out ?_)
          | (refine stO oh _ _ rfl rfl g1 ((h.setW true).setR own) rfl rfl 28 Ho.zero Z5.out ?_))
        exact bodyPost_ret (resOf oh rfl _ _ g1 28 ((h.setW true).setR own) (.bool true) (.int .i64 0) rfl rfl rfl (Z5.out.setRow _)) rfl ⟨by rw [hP.out, hE.out], below_setRow' B5.out (by omega) _⟩
end Go.Proofs.Ytdfeahbpgchkoaa
