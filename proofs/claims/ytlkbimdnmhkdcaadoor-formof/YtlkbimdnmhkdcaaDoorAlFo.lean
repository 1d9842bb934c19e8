/- FormOf answers true. -/
import Derived.Test.YtlkbimdnmhkdcaaDoorAlW1
import Derived.Deep.RegionHeld
namespace Go.Proofs.YtlkbimdnmhkdcaaDoor
open Go.RowKit
set_option maxRecDepth 100000

theorem cells_below {w w' : World} {b k : Nat} {v : Value} (hb : Below w.heap.size w w') (h : w.cell? ⟨b, k, none⟩ = some v) : w'.cell? ⟨b, k, none⟩ = some v :=
  (hb.cell (p := ⟨b, k, none⟩) (World.block_lt_of_cell? w _ h)).trans h
/-- Options in memory. -/
def OptAt (w : World) (b : Nat) (cs mk st sp wd : Bool) : Prop := w.cell? ⟨b, 0, none⟩ = some (.bool cs) ∧ w.cell? ⟨b, 1, none⟩ = some (.bool mk) ∧ w.cell? ⟨b, 2, none⟩ = some (.bool st) ∧ w.cell? ⟨b, 3, none⟩ = some (.bool sp) ∧ w.cell? ⟨b, 4, none⟩ = some (.bool wd)
theorem OptAt.keep {w w' : World} {b : Nat} {cs mk st sp wd : Bool} (h : OptAt w b cs mk st sp wd) (hb : Below w.heap.size w w') : OptAt w' b cs mk st sp wd :=
  ⟨cells_below hb h.1, cells_below hb h.2.1, cells_below hb h.2.2.1, cells_below hb h.2.2.2.1, cells_below hb h.2.2.2.2⟩
theorem OptAt.new (w : World) (cs mk st sp wd : Bool) : OptAt (w.alloc (.cells #[.bool cs, .bool mk, .bool st, .bool sp, .bool wd] 23)) w.heap.size cs mk st sp wd :=
  ⟨opt_cell w _ _ _ 0 _ rfl (Below.refl _ _), opt_cell w _ _ _ 1 _ rfl (Below.refl _ _), opt_cell w _ _ _ 2 _ rfl (Below.refl _ _), opt_cell w _ _ _ 3 _ rfl (Below.refl _ _), opt_cell w _ _ _ 4 _ rfl (Below.refl _ _)⟩
set_option maxHeartbeats 4000000 in
theorem formOf_main (cs mk st sp wd : Bool) (l : List UInt8) (hl : l.length ≤ 200) (w : World) (hT : UT w) :
    Calls Tryd.prog 3 #[.string (strOf l), .agg #[.bool cs, .bool mk, .bool st, .bool sp, .bool wd]] w fun e w' => e = .returned (.bool true) ∧ Below w.heap.size w w' := by
  have hz : (strOf l).size ≤ 200 := by rw [size8]; exact hl
  have hz2 : ((strOf l).size : Int) ≤ 200 := by omega
  have b0 := (Below.refl w.heap.size w).alloc (Nat.le_refl _) (.cells #[.bool cs, .bool mk, .bool st, .bool sp, .bool wd] 23)
  have HT := Lib.hid (ut_keep hT b0)
  have O0 := Lib.hid (OptAt.new w cs mk st sp wd)
  have dl := wholeL_len cs mk l
  obtain ⟨d, hd⟩ : ∃ d, wholeL cs mk l = d := ⟨_, rfl⟩
  obtain ⟨q, hq⟩ : ∃ q, ofL cs mk st l = q := ⟨_, rfl⟩
  have H1 : Hid (ofL cs mk st l = q ∧ l.length ≤ 10000000) := ⟨hq, by omega⟩
  have H2 : Hid (ofL cs mk st l = q ∧ l.length ≤ 1000000) := ⟨hq, by omega⟩
  have H3 : Hid (ofL cs mk false l = d ∧ l.length ≤ 10000000) := ⟨hd, by omega⟩
  have H4 : Hid (ofL cs mk false d = d ∧ d.length ≤ 10000000) := ⟨by show wholeL cs mk d = d; rw [← hd]; exact wholeL_twice cs mk l, by rw [← hd]; omega⟩
  have hself : ∀ x : List UInt8, ((strOf x).toList == (strOf x).toList) = true := fun x => by simp
  have e1 := hself q
  have e2 := hself d
  clear hT dl hd hq hself
  go_enter Tryd.func3, Tryd.ntmps3
  go_wp2_with fail
  refine (head_any _ HT.out).mono ?_
  rintro e w1 ⟨rfl, b1⟩
  have T1 := Lib.hid (ut_keep HT.out b1)
  have O1 := O0.out.keep b1
  replace b1 := b0.trans (b1.mono b0.size)
  have O1h := Lib.hid O1
  obtain ⟨x0, x1, x2, x3, x4⟩ := O1
  go_wp2_with fail
  refine (of_is cs mk st sp wd l q H1 _ T1.out).mono ?_
  rintro e w2 ⟨rfl, b2⟩
  have T2 := Lib.hid (ut_keep T1.out b2)
  have O2 := O1h.out.keep b2
  replace b2 := b1.trans (b2.mono b1.size)
  have O2h := Lib.hid O2
  clear x0 x1 x2 x3 x4
  obtain ⟨x0, x1, x2, x3, x4⟩ := O2
  have hlt : w.heap.size < w2.heap.size := World.block_lt_of_cell? w2 _ x0
  go_wp2_with fail
  obtain ⟨X, hX⟩ : ∃ X, X = w2.alloc (.cells #[.bool cs, .bool mk, .bool false, .bool sp, .bool wd] 23) := ⟨_, rfl⟩
  rw [← hX]
  have bX : Below w2.heap.size w2 X := by rw [hX]; exact (Below.refl _ _).alloc (Nat.le_refl _) _
  have OA := O2h.out.keep bX
  have OB : OptAt X w2.heap.size cs mk false sp wd := by rw [hX]; exact OptAt.new w2 cs mk false sp wd
  have TX := ut_keep T2.out bX
  have BX := Lib.hid (b2.trans (bX.mono b2.size))
  have K1 : Hid (∀ W, Below X.heap.size X W → Calls Tryd.prog 11 #[.string (strOf l), .agg #[.bool cs, .bool mk, .bool st, .bool sp, .bool wd], .bool st] W fun e w' => e = .returned (.string (strOf q)) ∧ Below X.heap.size X w') := fun W hb =>
    (lof_is cs mk st sp wd st l q H2 W (ut_keep TX hb)).mono fun e w' h => ⟨h.1, hb.trans (h.2.mono hb.size)⟩
  have K3 : Hid (∀ W, Below X.heap.size X W → Calls Tryd.prog 10 #[.agg #[.bool cs, .bool mk, .bool false, .bool sp, .bool wd], .string (strOf l)] W fun e w' => e = .returned (.string (strOf d)) ∧ Below X.heap.size X w') := fun W hb =>
    (of_is cs mk false sp wd l d H3 W (ut_keep TX hb)).mono fun e w' h => ⟨h.1, hb.trans (h.2.mono hb.size)⟩
  have K4 : Hid (∀ W, Below X.heap.size X W → Calls Tryd.prog 10 #[.agg #[.bool cs, .bool mk, .bool false, .bool sp, .bool wd], .string (strOf d)] W fun e w' => e = .returned (.string (strOf d)) ∧ Below X.heap.size X w') := fun W hb =>
    (of_is cs mk false sp wd d d H4 W (ut_keep TX hb)).mono fun e w' h => ⟨h.1, hb.trans (h.2.mono hb.size)⟩
  have HS : Hid (∀ W, Below X.heap.size X W → (W.cell? ⟨w.heap.size, 0, none⟩ = some (.bool cs) ∧ W.cell? ⟨w.heap.size, 1, none⟩ = some (.bool mk) ∧ W.cell? ⟨w.heap.size, 2, none⟩ = some (.bool st) ∧ W.cell? ⟨w.heap.size, 3, none⟩ = some (.bool sp) ∧ W.cell? ⟨w.heap.size, 4, none⟩ = some (.bool wd)) ∧ (W.cell? ⟨w2.heap.size, 0, none⟩ = some (.bool cs) ∧ W.cell? ⟨w2.heap.size, 1, none⟩ = some (.bool mk) ∧ W.cell? ⟨w2.heap.size, 2, none⟩ = some (.bool false) ∧ W.cell? ⟨w2.heap.size, 3, none⟩ = some (.bool sp) ∧ W.cell? ⟨w2.heap.size, 4, none⟩ = some (.bool wd))) := fun W hb => ⟨OA.keep hb, OB.keep hb⟩
  clear hX bX OA OB TX T1 T2 O1h O2h O0 HT b0 b1 b2 x0 x1 x2 x3 x4 hlt H1 H2 H3 H4
  go_region_held3 (fun W => (W.cell? ⟨w.heap.size, 0, none⟩ = some (.bool cs) ∧ W.cell? ⟨w.heap.size, 1, none⟩ = some (.bool mk) ∧ W.cell? ⟨w.heap.size, 2, none⟩ = some (.bool st) ∧ W.cell? ⟨w.heap.size, 3, none⟩ = some (.bool sp) ∧ W.cell? ⟨w.heap.size, 4, none⟩ = some (.bool wd)) ∧ (W.cell? ⟨w2.heap.size, 0, none⟩ = some (.bool cs) ∧ W.cell? ⟨w2.heap.size, 1, none⟩ = some (.bool mk) ∧ W.cell? ⟨w2.heap.size, 2, none⟩ = some (.bool false) ∧ W.cell? ⟨w2.heap.size, 3, none⟩ = some (.bool sp) ∧ W.cell? ⟨w2.heap.size, 4, none⟩ = some (.bool wd)))
    (first | exact HS.out _ (Below.refl _ _).drew | exact HS.out _ (by assumption))
    (first
      | (go_at_call 11; (with_reducible refine (K1.out _ ?_).mono ?_); (first | exact (Below.refl _ _).drew | assumption); rintro e w4 ⟨rfl, hb4⟩)
      | (go_at_call 10; (with_reducible refine (K3.out _ ?_).mono ?_); (first | exact (Below.refl _ _).drew | assumption); rintro e w5 ⟨rfl, hb5⟩)
      | (go_at_call 10; (with_reducible refine (K4.out _ ?_).mono ?_); (first | exact (Below.refl _ _).drew | assumption); rintro e w6 ⟨rfl, hb6⟩))
  all_goals
    go_wp2_with fail
    go_ret
    exact ⟨rfl, BX.out.trans ((show Below X.heap.size X _ by assumption).mono BX.out.size)⟩
theorem formOf_all (cs mk st sp wd : Bool) (l : List UInt8) (w : World) (hT : UT w) :
    Calls Tryd.prog 3 #[.string (strOf l), .agg #[.bool cs, .bool mk, .bool st, .bool sp, .bool wd]] w fun e w' => e = .returned (.bool true) ∧ Below w.heap.size w w' := by
  by_cases hl : l.length ≤ 200
  · exact formOf_main cs mk st sp wd l hl w hT
  · have hsz : (200 : Int) < ((strOf l).size : Int) := by rw [size8]; omega
    have b0 := (Below.refl w.heap.size w).alloc (Nat.le_refl _) (.cells #[.bool cs, .bool mk, .bool st, .bool sp, .bool wd] 23)
    have HT := Lib.hid (ut_keep hT b0)
    clear hT
    go_enter Tryd.func3, Tryd.ntmps3
    go_wp2_with fail
    refine (head_any _ HT.out).mono ?_
    rintro e w1 ⟨rfl, b1⟩
    replace b1 := b0.trans (b1.mono b0.size)
    go_wp2_with fail
    go_ret
    exact ⟨rfl, b1⟩
end Go.Proofs.YtlkbimdnmhkdcaaDoor
