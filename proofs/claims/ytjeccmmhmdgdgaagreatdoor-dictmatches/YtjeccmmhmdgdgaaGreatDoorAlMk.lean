/- Make, makePattern of package alike. -/
import Derived.Test.YtjeccmmhmdgdgaaGreatDoorAlPl
import Derived.Test.YtjeccmmhmdgdgaaGreatDoorAlOp
import Derived.Test.YtjeccmmhmdgdgaaGreatDoorAlSt
import Derived.Deep.RegionHeld3
import Derived.Handy
namespace Go.Proofs.YtjeccmmhmdgdgaaGreatDoor
open Go.RowKit
set_option maxRecDepth 100000

/-- Eight cells laid over a word. -/
def set8 (w : World) (B : Nat) (v0 v1 v2 v3 v4 v5 v6 v7 : Value) : World :=
  (((((((w.setCell ⟨B, 0, none⟩ v0).setCell ⟨B, 1, none⟩ v1).setCell ⟨B, 2, none⟩ v2).setCell ⟨B, 3, none⟩ v3).setCell ⟨B, 4, none⟩ v4).setCell ⟨B, 5, none⟩ v5).setCell ⟨B, 6, none⟩ v6).setCell ⟨B, 7, none⟩ v7
/-- The word's cells, none frozen. -/
def Z8 (w : World) (B : Nat) (vs : List Value) : Prop := (∀ i v, vs[i]? = some v → w.cell? ⟨B, i, none⟩ = some v) ∧ ∀ i, w.frozen? ⟨B, i, none⟩ = false
theorem Z8.keep {w w' : World} {B : Nat} {vs : List Value} (h : Z8 w B vs) (hb : Below w.heap.size w w') (hB : B < w.heap.size) : Z8 w' B vs :=
  ⟨fun i v e => (hb.cell (p := ⟨B, i, none⟩) hB).trans (h.1 i v e), fun i => (hb.frozen (p := ⟨B, i, none⟩) hB).trans (h.2 i)⟩
theorem set8_cells (w : World) (B : Nat) (z0 z1 z2 z3 z4 z5 z6 z7 v0 v1 v2 v3 v4 v5 v6 v7 : Value) (h : Z8 w B [z0, z1, z2, z3, z4, z5, z6, z7]) :
    (set8 w B v0 v1 v2 v3 v4 v5 v6 v7).cell? ⟨B, 0, none⟩ = some v0 ∧ (set8 w B v0 v1 v2 v3 v4 v5 v6 v7).cell? ⟨B, 1, none⟩ = some v1 ∧ (set8 w B v0 v1 v2 v3 v4 v5 v6 v7).cell? ⟨B, 2, none⟩ = some v2 ∧ (set8 w B v0 v1 v2 v3 v4 v5 v6 v7).cell? ⟨B, 3, none⟩ = some v3 ∧
    (set8 w B v0 v1 v2 v3 v4 v5 v6 v7).cell? ⟨B, 4, none⟩ = some v4 ∧ (set8 w B v0 v1 v2 v3 v4 v5 v6 v7).cell? ⟨B, 5, none⟩ = some v5 ∧ (set8 w B v0 v1 v2 v3 v4 v5 v6 v7).cell? ⟨B, 6, none⟩ = some v6 ∧ (set8 w B v0 v1 v2 v3 v4 v5 v6 v7).cell? ⟨B, 7, none⟩ = some v7 := by
  unfold set8
  refine ⟨?_, ?_, ?_, ?_, ?_, ?_, ?_, ?_⟩
  · rw [cell_setR _ _ 7 0 _ (by omega), cell_setR _ _ 6 0 _ (by omega), cell_setR _ _ 5 0 _ (by omega), cell_setR _ _ 4 0 _ (by omega), cell_setR _ _ 3 0 _ (by omega), cell_setR _ _ 2 0 _ (by omega), cell_setR _ _ 1 0 _ (by omega)]
    exact World.cell?_setCell_same _ _ _ (by rw [h.1 0 _ rfl])
  · rw [cell_setR _ _ 7 1 _ (by omega), cell_setR _ _ 6 1 _ (by omega), cell_setR _ _ 5 1 _ (by omega), cell_setR _ _ 4 1 _ (by omega), cell_setR _ _ 3 1 _ (by omega), cell_setR _ _ 2 1 _ (by omega)]
    exact World.cell?_setCell_same _ _ _ (by rw [cell_setR _ _ 0 1 _ (by omega), h.1 1 _ rfl])
  · rw [cell_setR _ _ 7 2 _ (by omega), cell_setR _ _ 6 2 _ (by omega), cell_setR _ _ 5 2 _ (by omega), cell_setR _ _ 4 2 _ (by omega), cell_setR _ _ 3 2 _ (by omega)]
    exact World.cell?_setCell_same _ _ _ (by rw [cell_setR _ _ 1 2 _ (by omega), cell_setR _ _ 0 2 _ (by omega), h.1 2 _ rfl])
  · rw [cell_setR _ _ 7 3 _ (by omega), cell_setR _ _ 6 3 _ (by omega), cell_setR _ _ 5 3 _ (by omega), cell_setR _ _ 4 3 _ (by omega)]
    exact World.cell?_setCell_same _ _ _ (by rw [cell_setR _ _ 2 3 _ (by omega), cell_setR _ _ 1 3 _ (by omega), cell_setR _ _ 0 3 _ (by omega), h.1 3 _ rfl])
  · rw [cell_setR _ _ 7 4 _ (by omega), cell_setR _ _ 6 4 _ (by omega), cell_setR _ _ 5 4 _ (by omega)]
    exact World.cell?_setCell_same _ _ _ (by rw [cell_setR _ _ 3 4 _ (by omega), cell_setR _ _ 2 4 _ (by omega), cell_setR _ _ 1 4 _ (by omega), cell_setR _ _ 0 4 _ (by omega), h.1 4 _ rfl])
  · rw [cell_setR _ _ 7 5 _ (by omega), cell_setR _ _ 6 5 _ (by omega)]
    exact World.cell?_setCell_same _ _ _ (by rw [cell_setR _ _ 4 5 _ (by omega), cell_setR _ _ 3 5 _ (by omega), cell_setR _ _ 2 5 _ (by omega), cell_setR _ _ 1 5 _ (by omega), cell_setR _ _ 0 5 _ (by omega), h.1 5 _ rfl])
  · rw [cell_setR _ _ 7 6 _ (by omega)]
    exact World.cell?_setCell_same _ _ _ (by rw [cell_setR _ _ 5 6 _ (by omega), cell_setR _ _ 4 6 _ (by omega), cell_setR _ _ 3 6 _ (by omega), cell_setR _ _ 2 6 _ (by omega), cell_setR _ _ 1 6 _ (by omega), cell_setR _ _ 0 6 _ (by omega), h.1 6 _ rfl])
  · exact World.cell?_setCell_same _ _ _ (by rw [cell_setR _ _ 6 7 _ (by omega), cell_setR _ _ 5 7 _ (by omega), cell_setR _ _ 4 7 _ (by omega), cell_setR _ _ 3 7 _ (by omega), cell_setR _ _ 2 7 _ (by omega), cell_setR _ _ 1 7 _ (by omega), cell_setR _ _ 0 7 _ (by omega), h.1 7 _ rfl])
theorem set8_below {w0 w : World} {B b : Nat} (v0 v1 v2 v3 v4 v5 v6 v7 : Value) (hb : Below b w0 w) (hB : b ≤ B) : Below b w0 (set8 w B v0 v1 v2 v3 v4 v5 v6 v7) :=
  (((((((hb.setCell (p := ⟨B, 0, none⟩) hB v0).setCell (p := ⟨B, 1, none⟩) hB v1).setCell (p := ⟨B, 2, none⟩) hB v2).setCell (p := ⟨B, 3, none⟩) hB v3).setCell (p := ⟨B, 4, none⟩) hB v4).setCell (p := ⟨B, 5, none⟩) hB v5).setCell (p := ⟨B, 6, none⟩) hB v6).setCell (p := ⟨B, 7, none⟩) hB v7
/-- The world in which Make begins its work: the options, and a word without anything. -/
def mkW (w : World) (cs mk st sp wd : Bool) : World := (w.alloc (.cells #[.bool cs, .bool mk, .bool st, .bool sp, .bool wd] 24)).alloc (.cells #[.bool false, .bool false, .bool false, .bool false, .bool false, .bool false, .string ⟨#[]⟩, .pointer none] 29)
theorem mkW_below (w : World) (cs mk st sp wd : Bool) : Below w.heap.size w (mkW w cs mk st sp wd) := ((Below.refl _ _).alloc (Nat.le_refl _) _).alloc (by simp) _
theorem mkW_size (w : World) (cs mk st sp wd : Bool) : (mkW w cs mk st sp wd).heap.size = w.heap.size + 2 := by unfold mkW; simp
theorem mkW_opt (w : World) (cs mk st sp wd : Bool) : OptAt (mkW w cs mk st sp wd) w.heap.size cs mk st sp wd := (OptAt.new w cs mk st sp wd).keep ((Below.refl _ _).alloc (Nat.le_refl _) _)
theorem mkW_zero (w : World) (cs mk st sp wd : Bool) : Z8 (mkW w cs mk st sp wd) (w.heap.size + 1) [.bool false, .bool false, .bool false, .bool false, .bool false, .bool false, .string ⟨#[]⟩, .pointer none] := by
  have hs : (w.alloc (.cells #[.bool cs, .bool mk, .bool st, .bool sp, .bool wd] 24)).heap.size = w.heap.size + 1 := by simp
  refine ⟨fun i v h => ?_, fun i => ?_⟩
  · have z := new_cells (w.alloc (.cells #[.bool cs, .bool mk, .bool st, .bool sp, .bool wd] 24)) #[.bool false, .bool false, .bool false, .bool false, .bool false, .bool false, .string ⟨#[]⟩, .pointer none] 29 (0, 0) i v h
    rwa [add_addr, Nat.zero_add, hs] at z
  · have z := World.frozen?_alloc_new (w.alloc (.cells #[.bool cs, .bool mk, .bool st, .bool sp, .bool wd] 24)) #[.bool false, .bool false, .bool false, .bool false, .bool false, .bool false, .string ⟨#[]⟩, .pointer none] 29 i
    rwa [hs] at z
/-- A word of a question, as a value. -/
def wordV (any cs mk st sp wd : Bool) (t : List UInt8) (p : Option Addr) : Value := .agg #[.bool any, .bool cs, .bool mk, .bool st, .bool sp, .bool wd, .string (strOf t), .pointer p]
def noWord : Value := wordV false false false false false false [] none
set_option maxHeartbeats 4000000 in
theorem make_utf (cs mk st sp wd : Bool) (l : List UInt8) (hl : l.length ≤ 1000000) (hv : Lib.validD l = false) (w : World) (hT : UT w) :
    Calls Tryz.prog 6 #[.string (strOf l), .agg #[.bool cs, .bool mk, .bool st, .bool sp, .bool wd]] w fun e w' => e = .returned (.tuple #[noWord, .int .i64 10]) ∧ Below w.heap.size w w' := by
  have HV := Lib.hid hv
  have HB := Lib.hid (mkW_below w cs mk st sp wd)
  have HZ := Lib.hid (mkW_zero w cs mk st sp wd)
  have HO := Lib.hid (mkW_opt w cs mk st sp wd)
  have HS := Lib.hid (mkW_size w cs mk st sp wd)
  have HT := Lib.hid (ut_keep hT HB.out)
  have hm : (w.alloc (.cells #[.bool cs, .bool mk, .bool st, .bool sp, .bool wd] 24)).alloc (.cells #[.bool false, .bool false, .bool false, .bool false, .bool false, .bool false, .string ⟨#[]⟩, .pointer none] 29) = mkW w cs mk st sp wd := rfl
  clear hv
  clear hT
  go_enter Tryz.func6, Tryz.ntmps6
  go_wp2_with fail

  generalize mkW w cs mk st sp wd = wA at *
  with_reducible refine (right_is l false HV _ HT.out (by omega)).mono ?_
  rintro e w1 ⟨rfl, b1⟩
  have Z1 := HZ.out.keep b1 (by have := HS.out; omega)
  have O1 := HO.out.keep b1
  have T1 := Lib.hid (ut_keep HT.out b1)
  have B1 := Lib.hid (HB.out.trans (b1.mono HB.out.size))
  have S1 : Hid (w.heap.size + 2 ≤ w1.heap.size) := by show _ ≤ _; have := HS.out; have := b1.size; omega
  have HZ1 := Lib.hid Z1
  have HO1 := Lib.hid O1
  have z0 := Z1.1 0 _ rfl
  have z1 := Z1.1 1 _ rfl
  have z2 := Z1.1 2 _ rfl
  have z3 := Z1.1 3 _ rfl
  have z4 := Z1.1 4 _ rfl
  have z5 := Z1.1 5 _ rfl
  have z6 := Z1.1 6 _ rfl
  have z7 := Z1.1 7 _ rfl
  have f0 := Z1.2 0
  have f1 := Z1.2 1
  have f2 := Z1.2 2
  have f3 := Z1.2 3
  have f4 := Z1.2 4
  have f5 := Z1.2 5
  have f6 := Z1.2 6
  have f7 := Z1.2 7
  clear Z1 O1 hm
  go_wp2_with fail
  obtain ⟨W9, hW9⟩ : ∃ W9, W9 = ((((((((w1.setCell ⟨w.heap.size + 1, 0, none⟩ (.bool false)).setCell ⟨w.heap.size + 1, 1, none⟩ (.bool false)).setCell ⟨w.heap.size + 1, 2, none⟩ (.bool false)).setCell ⟨w.heap.size + 1, 3, none⟩ (.bool false)).setCell ⟨w.heap.size + 1, 4, none⟩ (.bool false)).setCell ⟨w.heap.size + 1, 5, none⟩ (.bool false)).setCell ⟨w.heap.size + 1, 6, none⟩ (.string ⟨#[]⟩)).setCell ⟨w.heap.size + 1, 7, none⟩ (.pointer none)) := ⟨_, rfl⟩
  rw [← hW9]
  obtain ⟨e0, e1, e2, e3, e4, e5, e6, e7⟩ := set8_cells w1 (w.heap.size + 1) _ _ _ _ _ _ _ _ (.bool false) (.bool false) (.bool false) (.bool false) (.bool false) (.bool false) (.string ⟨#[]⟩) (.pointer none) HZ1.out
  have B9 := set8_below (B := w.heap.size + 1) (.bool false) (.bool false) (.bool false) (.bool false) (.bool false) (.bool false) (.string ⟨#[]⟩) (.pointer none) B1.out (by omega)
  rw [show set8 w1 (w.heap.size + 1) (.bool false) (.bool false) (.bool false) (.bool false) (.bool false) (.bool false) (.string ⟨#[]⟩) (.pointer none) = W9 from hW9.symm] at e0 e1 e2 e3 e4 e5 e6 e7 B9
  clear z0 z1 z2 z3 z4 z5 z6 z7 f0 f1 f2 f3 f4 f5 f6 f7
  refine bodyPost_ret (v := .tuple #[.agg #[.bool false, .bool false, .bool false, .bool false, .bool false, .bool false, .string ⟨#[]⟩, .pointer none], .int .i64 10]) (by simp [results, Tryz.results6, go_sem, e0, e1, e2, e3, e4, e5, e6, e7]) rfl ?_
  exact ⟨rfl, B9⟩
set_option maxHeartbeats 4000000 in
theorem make_stop (cs mk st wd : Bool) (l : List UInt8) (hl : l.length ≤ 1000000) (hv : Lib.validD l = true) (hs : stopB l = true) (w : World) (hT : UT w) :
    Calls Tryz.prog 6 #[.string (strOf l), .agg #[.bool cs, .bool mk, .bool st, .bool true, .bool wd]] w fun e w' => e = .returned (.tuple #[wordV true false false false false false [] none, .int .i64 0]) ∧ Below w.heap.size w w' := by
  have HV := Lib.hid hv
  have HST : Hid (stopB l = true ∧ l.length ≤ 10000000) := ⟨hs, by omega⟩
  have HB := Lib.hid (mkW_below w cs mk st true wd)
  have HZ := Lib.hid (mkW_zero w cs mk st true wd)
  have HO := Lib.hid (mkW_opt w cs mk st true wd)
  have HS := Lib.hid (mkW_size w cs mk st true wd)
  have HT := Lib.hid (ut_keep hT HB.out)
  have hm : (w.alloc (.cells #[.bool cs, .bool mk, .bool st, .bool true, .bool wd] 24)).alloc (.cells #[.bool false, .bool false, .bool false, .bool false, .bool false, .bool false, .string ⟨#[]⟩, .pointer none] 29) = mkW w cs mk st true wd := rfl
  clear hv hs
  clear hT
  go_enter Tryz.func6, Tryz.ntmps6
  go_wp2_with fail

  generalize mkW w cs mk st true wd = wA at *
  with_reducible refine (right_is l true HV _ HT.out (by omega)).mono ?_
  rintro e w1 ⟨rfl, b1⟩
  have Z1 := HZ.out.keep b1 (by have := HS.out; omega)
  have O1 := HO.out.keep b1
  have T1 := Lib.hid (ut_keep HT.out b1)
  have B1 := Lib.hid (HB.out.trans (b1.mono HB.out.size))
  have S1 : Hid (w.heap.size + 2 ≤ w1.heap.size) := by show _ ≤ _; have := HS.out; have := b1.size; omega
  have HZ1 := Lib.hid Z1
  have HO1 := Lib.hid O1
  obtain ⟨o0, o1, o2, o3, o4⟩ := O1
  clear Z1 hm
  go_wp2_with fail
  with_reducible refine (stop_is l true HST _ T1.out).mono ?_
  rintro e w2 ⟨rfl, b2⟩
  have Z2 := HZ1.out.keep b2 (by have := S1.out; omega)
  have O2 := HO1.out.keep b2
  have T2 := Lib.hid (ut_keep T1.out b2)
  have B2 := Lib.hid (B1.out.trans (b2.mono B1.out.size))
  have S2 : Hid (w.heap.size + 2 ≤ w2.heap.size) := by show _ ≤ _; have := S1.out; have := b2.size; omega
  clear HZ1 HO1 T1 B1 S1 o0 o1 o2 o3 o4
  have HZ1 := Lib.hid Z2
  have B1 := B2
  have z0 := Z2.1 0 _ rfl
  have z1 := Z2.1 1 _ rfl
  have z2 := Z2.1 2 _ rfl
  have z3 := Z2.1 3 _ rfl
  have z4 := Z2.1 4 _ rfl
  have z5 := Z2.1 5 _ rfl
  have z6 := Z2.1 6 _ rfl
  have z7 := Z2.1 7 _ rfl
  have f0 := Z2.2 0
  have f1 := Z2.2 1
  have f2 := Z2.2 2
  have f3 := Z2.2 3
  have f4 := Z2.2 4
  have f5 := Z2.2 5
  have f6 := Z2.2 6
  have f7 := Z2.2 7
  clear Z2 O2
  go_wp2_with fail
  obtain ⟨W9, hW9⟩ : ∃ W9, W9 = ((((((((w2.setCell ⟨w.heap.size + 1, 0, none⟩ (.bool true)).setCell ⟨w.heap.size + 1, 1, none⟩ (.bool false)).setCell ⟨w.heap.size + 1, 2, none⟩ (.bool false)).setCell ⟨w.heap.size + 1, 3, none⟩ (.bool false)).setCell ⟨w.heap.size + 1, 4, none⟩ (.bool false)).setCell ⟨w.heap.size + 1, 5, none⟩ (.bool false)).setCell ⟨w.heap.size + 1, 6, none⟩ (.string ⟨#[]⟩)).setCell ⟨w.heap.size + 1, 7, none⟩ (.pointer none)) := ⟨_, rfl⟩
  rw [← hW9]
  obtain ⟨e0, e1, e2, e3, e4, e5, e6, e7⟩ := set8_cells w2 (w.heap.size + 1) _ _ _ _ _ _ _ _ (.bool true) (.bool false) (.bool false) (.bool false) (.bool false) (.bool false) (.string ⟨#[]⟩) (.pointer none) HZ1.out
  have B9 := set8_below (B := w.heap.size + 1) (.bool true) (.bool false) (.bool false) (.bool false) (.bool false) (.bool false) (.string ⟨#[]⟩) (.pointer none) B1.out (by omega)
  rw [show set8 w2 (w.heap.size + 1) (.bool true) (.bool false) (.bool false) (.bool false) (.bool false) (.bool false) (.string ⟨#[]⟩) (.pointer none) = W9 from hW9.symm] at e0 e1 e2 e3 e4 e5 e6 e7 B9
  clear z0 z1 z2 z3 z4 z5 z6 z7 f0 f1 f2 f3 f4 f5 f6 f7
  refine bodyPost_ret (v := .tuple #[.agg #[.bool true, .bool false, .bool false, .bool false, .bool false, .bool false, .string ⟨#[]⟩, .pointer none], .int .i64 0]) (by simp [results, Tryz.results6, go_sem, e0, e1, e2, e3, e4, e5, e6, e7]) rfl ?_
  exact ⟨rfl, B9⟩
set_option maxHeartbeats 4000000 in
theorem make_word0 (cs mk st : Bool) (l : List UInt8) (hl : l.length ≤ 1000000) (hv : Lib.validD l = true) (w : World) (hT : UT w) :
    Calls Tryz.prog 6 #[.string (strOf l), .agg #[.bool cs, .bool mk, .bool st, .bool false, .bool false]] w fun e w' => e = .returned (.tuple #[wordV false cs mk st false false (ofL cs mk st l) none, .int .i64 0]) ∧ Below w.heap.size w w' := by
  have HV := Lib.hid hv
  obtain ⟨q, hq⟩ : ∃ q, ofL cs mk st l = q := ⟨_, rfl⟩
  have HOF : Hid (ofL cs mk st l = q ∧ l.length ≤ 10000000) := ⟨hq, by omega⟩
  rw [hq]
  have HB := Lib.hid (mkW_below w cs mk st false false)
  have HZ := Lib.hid (mkW_zero w cs mk st false false)
  have HO := Lib.hid (mkW_opt w cs mk st false false)
  have HS := Lib.hid (mkW_size w cs mk st false false)
  have HT := Lib.hid (ut_keep hT HB.out)
  have hm : (w.alloc (.cells #[.bool cs, .bool mk, .bool st, .bool false, .bool false] 24)).alloc (.cells #[.bool false, .bool false, .bool false, .bool false, .bool false, .bool false, .string ⟨#[]⟩, .pointer none] 29) = mkW w cs mk st false false := rfl
  clear hv hq
  clear hT
  go_enter Tryz.func6, Tryz.ntmps6
  go_wp2_with fail

  generalize mkW w cs mk st false false = wA at *
  with_reducible refine (right_is l true HV _ HT.out (by omega)).mono ?_
  rintro e w1 ⟨rfl, b1⟩
  have Z1 := HZ.out.keep b1 (by have := HS.out; omega)
  have O1 := HO.out.keep b1
  have T1 := Lib.hid (ut_keep HT.out b1)
  have B1 := Lib.hid (HB.out.trans (b1.mono HB.out.size))
  have S1 : Hid (w.heap.size + 2 ≤ w1.heap.size) := by show _ ≤ _; have := HS.out; have := b1.size; omega
  have HZ1 := Lib.hid Z1
  have HO1 := Lib.hid O1
  obtain ⟨o0, o1, o2, o3, o4⟩ := O1
  clear Z1 hm
  go_wp2_with fail
  go_region_with (go_at_call 16; (with_reducible refine (of_is cs mk st false false l q HOF _ (ut_keep T1.out (Below.refl _ _).drew)).mono ?_); rintro e w3 ⟨rfl, b3⟩; have b3' : Below w1.heap.size w1 w3 := (Below.refl _ _).drew.trans b3; have HZ3 := Lib.hid (HZ1.out.keep b3' (by have := S1.out; omega)); have HO3 := Lib.hid (HO1.out.keep b3'); have B3 := Lib.hid (B1.out.trans (b3'.mono B1.out.size)); have p0 := HO3.out.1; have p1 := HO3.out.2.1; have p2 := HO3.out.2.2.1; have p3 := HO3.out.2.2.2.1; have p4 := HO3.out.2.2.2.2; have z0 := HZ3.out.1 0 _ rfl; have z1 := HZ3.out.1 1 _ rfl; have z2 := HZ3.out.1 2 _ rfl; have z3 := HZ3.out.1 3 _ rfl; have z4 := HZ3.out.1 4 _ rfl; have z5 := HZ3.out.1 5 _ rfl; have z6 := HZ3.out.1 6 _ rfl; have z7 := HZ3.out.1 7 _ rfl; have f0 := HZ3.out.2 0; have f1 := HZ3.out.2 1; have f2 := HZ3.out.2 2; have f3 := HZ3.out.2 3; have f4 := HZ3.out.2 4; have f5 := HZ3.out.2 5; have f6 := HZ3.out.2 6; have f7 := HZ3.out.2 7)
  all_goals
    go_wp2_with fail
    obtain ⟨W9, hW9⟩ : ∃ W9, W9 = ((((((((w3.setCell ⟨w.heap.size + 1, 0, none⟩ (.bool false)).setCell ⟨w.heap.size + 1, 1, none⟩ (.bool cs)).setCell ⟨w.heap.size + 1, 2, none⟩ (.bool mk)).setCell ⟨w.heap.size + 1, 3, none⟩ (.bool st)).setCell ⟨w.heap.size + 1, 4, none⟩ (.bool false)).setCell ⟨w.heap.size + 1, 5, none⟩ (.bool false)).setCell ⟨w.heap.size + 1, 6, none⟩ (.string (strOf q))).setCell ⟨w.heap.size + 1, 7, none⟩ (.pointer none)) := ⟨_, rfl⟩
    rw [← hW9]
    obtain ⟨e0, e1, e2, e3, e4, e5, e6, e7⟩ := set8_cells w3 (w.heap.size + 1) _ _ _ _ _ _ _ _ (.bool false) (.bool cs) (.bool mk) (.bool st) (.bool false) (.bool false) (.string (strOf q)) (.pointer none) HZ3.out
    have B9 := set8_below (B := w.heap.size + 1) (.bool false) (.bool cs) (.bool mk) (.bool st) (.bool false) (.bool false) (.string (strOf q)) (.pointer none) B3.out (by omega)
    rw [show set8 w3 (w.heap.size + 1) (.bool false) (.bool cs) (.bool mk) (.bool st) (.bool false) (.bool false) (.string (strOf q)) (.pointer none) = W9 from hW9.symm] at e0 e1 e2 e3 e4 e5 e6 e7 B9
    clear z0 z1 z2 z3 z4 z5 z6 z7 f0 f1 f2 f3 f4 f5 f6 f7
    refine bodyPost_ret (v := .tuple #[.agg #[.bool false, .bool cs, .bool mk, .bool st, .bool false, .bool false, .string (strOf q), .pointer none], .int .i64 0]) (by simp [results, Tryz.results6, go_sem, e0, e1, e2, e3, e4, e5, e6, e7]) rfl ?_
    exact ⟨rfl, B9⟩
set_option maxHeartbeats 4000000 in
theorem make_word1 (cs mk st : Bool) (l : List UInt8) (hl : l.length ≤ 1000000) (hv : Lib.validD l = true) (hs : stopB l = false) (w : World) (hT : UT w) :
    Calls Tryz.prog 6 #[.string (strOf l), .agg #[.bool cs, .bool mk, .bool st, .bool true, .bool false]] w fun e w' => e = .returned (.tuple #[wordV false cs mk st true false (ofL cs mk st l) none, .int .i64 0]) ∧ Below w.heap.size w w' := by
  have HV := Lib.hid hv
  obtain ⟨q, hq⟩ : ∃ q, ofL cs mk st l = q := ⟨_, rfl⟩
  have HOF : Hid (ofL cs mk st l = q ∧ l.length ≤ 10000000) := ⟨hq, by omega⟩
  rw [hq]
  have HST : Hid (stopB l = false ∧ l.length ≤ 10000000) := ⟨hs, by omega⟩
  clear hs
  have HB := Lib.hid (mkW_below w cs mk st true false)
  have HZ := Lib.hid (mkW_zero w cs mk st true false)
  have HO := Lib.hid (mkW_opt w cs mk st true false)
  have HS := Lib.hid (mkW_size w cs mk st true false)
  have HT := Lib.hid (ut_keep hT HB.out)
  have hm : (w.alloc (.cells #[.bool cs, .bool mk, .bool st, .bool true, .bool false] 24)).alloc (.cells #[.bool false, .bool false, .bool false, .bool false, .bool false, .bool false, .string ⟨#[]⟩, .pointer none] 29) = mkW w cs mk st true false := rfl
  clear hv hq
  clear hT
  go_enter Tryz.func6, Tryz.ntmps6
  go_wp2_with fail

  generalize mkW w cs mk st true false = wA at *
  with_reducible refine (right_is l true HV _ HT.out (by omega)).mono ?_
  rintro e w1 ⟨rfl, b1⟩
  have Z1 := HZ.out.keep b1 (by have := HS.out; omega)
  have O1 := HO.out.keep b1
  have T1 := Lib.hid (ut_keep HT.out b1)
  have B1 := Lib.hid (HB.out.trans (b1.mono HB.out.size))
  have S1 : Hid (w.heap.size + 2 ≤ w1.heap.size) := by show _ ≤ _; have := HS.out; have := b1.size; omega
  have HZ1 := Lib.hid Z1
  have HO1 := Lib.hid O1
  obtain ⟨o0, o1, o2, o3, o4⟩ := O1
  clear Z1 hm
  go_wp2_with fail
  with_reducible refine (stop_is l false HST _ T1.out).mono ?_
  rintro e w2 ⟨rfl, b2⟩
  have Z2 := HZ1.out.keep b2 (by have := S1.out; omega)
  have O2 := HO1.out.keep b2
  have T2 := Lib.hid (ut_keep T1.out b2)
  have B2 := Lib.hid (B1.out.trans (b2.mono B1.out.size))
  have S2 : Hid (w.heap.size + 2 ≤ w2.heap.size) := by show _ ≤ _; have := S1.out; have := b2.size; omega
  clear HZ1 HO1 T1 B1 S1 o0 o1 o2 o3 o4
  have HZ1 := Lib.hid Z2
  have HO1 := Lib.hid O2
  have B1 := B2
  have T1 := T2
  have S1 := S2
  clear Z2 B2 T2 S2
  obtain ⟨o0, o1, o2, o3, o4⟩ := O2
  go_wp2_with fail
  go_region_with (go_at_call 16; (with_reducible refine (of_is cs mk st true false l q HOF _ (ut_keep T1.out (Below.refl _ _).drew)).mono ?_); rintro e w3 ⟨rfl, b3⟩; have b3' : Below w2.heap.size w2 w3 := (Below.refl _ _).drew.trans b3; have HZ3 := Lib.hid (HZ1.out.keep b3' (by have := S1.out; omega)); have HO3 := Lib.hid (HO1.out.keep b3'); have B3 := Lib.hid (B1.out.trans (b3'.mono B1.out.size)); have p0 := HO3.out.1; have p1 := HO3.out.2.1; have p2 := HO3.out.2.2.1; have p3 := HO3.out.2.2.2.1; have p4 := HO3.out.2.2.2.2; have z0 := HZ3.out.1 0 _ rfl; have z1 := HZ3.out.1 1 _ rfl; have z2 := HZ3.out.1 2 _ rfl; have z3 := HZ3.out.1 3 _ rfl; have z4 := HZ3.out.1 4 _ rfl; have z5 := HZ3.out.1 5 _ rfl; have z6 := HZ3.out.1 6 _ rfl; have z7 := HZ3.out.1 7 _ rfl; have f0 := HZ3.out.2 0; have f1 := HZ3.out.2 1; have f2 := HZ3.out.2 2; have f3 := HZ3.out.2 3; have f4 := HZ3.out.2 4; have f5 := HZ3.out.2 5; have f6 := HZ3.out.2 6; have f7 := HZ3.out.2 7)
  all_goals
    go_wp2_with fail
    obtain ⟨W9, hW9⟩ : ∃ W9, W9 = ((((((((w3.setCell ⟨w.heap.size + 1, 0, none⟩ (.bool false)).setCell ⟨w.heap.size + 1, 1, none⟩ (.bool cs)).setCell ⟨w.heap.size + 1, 2, none⟩ (.bool mk)).setCell ⟨w.heap.size + 1, 3, none⟩ (.bool st)).setCell ⟨w.heap.size + 1, 4, none⟩ (.bool true)).setCell ⟨w.heap.size + 1, 5, none⟩ (.bool false)).setCell ⟨w.heap.size + 1, 6, none⟩ (.string (strOf q))).setCell ⟨w.heap.size + 1, 7, none⟩ (.pointer none)) := ⟨_, rfl⟩
    rw [← hW9]
    obtain ⟨e0, e1, e2, e3, e4, e5, e6, e7⟩ := set8_cells w3 (w.heap.size + 1) _ _ _ _ _ _ _ _ (.bool false) (.bool cs) (.bool mk) (.bool st) (.bool true) (.bool false) (.string (strOf q)) (.pointer none) HZ3.out
    have B9 := set8_below (B := w.heap.size + 1) (.bool false) (.bool cs) (.bool mk) (.bool st) (.bool true) (.bool false) (.string (strOf q)) (.pointer none) B3.out (by omega)
    rw [show set8 w3 (w.heap.size + 1) (.bool false) (.bool cs) (.bool mk) (.bool st) (.bool true) (.bool false) (.string (strOf q)) (.pointer none) = W9 from hW9.symm] at e0 e1 e2 e3 e4 e5 e6 e7 B9
    clear z0 z1 z2 z3 z4 z5 z6 z7 f0 f1 f2 f3 f4 f5 f6 f7
    refine bodyPost_ret (v := .tuple #[.agg #[.bool false, .bool cs, .bool mk, .bool st, .bool true, .bool false, .string (strOf q), .pointer none], .int .i64 0]) (by simp [results, Tryz.results6, go_sem, e0, e1, e2, e3, e4, e5, e6, e7]) rfl ?_
    exact ⟨rfl, B9⟩
end Go.Proofs.YtjeccmmhmdgdgaaGreatDoor
