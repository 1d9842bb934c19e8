/- makePattern of package alike, and Make of a pattern. -/
import Derived.Test.YtjeccmmhmdgdgaaGreatDoorAlMk
namespace Go.Proofs.YtjeccmmhmdgdgaaGreatDoor
open Go.RowKit
set_option maxRecDepth 100000

theorem heap_set8 (w : World) (B : Nat) (v0 v1 v2 v3 v4 v5 v6 v7 : Value) (k : Nat) (hk : k ≠ B) : (set8 w B v0 v1 v2 v3 v4 v5 v6 v7).heap[k]? = w.heap[k]? := by
  unfold set8
  rw [Below.heap_setCell _ _ _ _ (by simpa using hk), Below.heap_setCell _ _ _ _ (by simpa using hk), Below.heap_setCell _ _ _ _ (by simpa using hk), Below.heap_setCell _ _ _ _ (by simpa using hk), Below.heap_setCell _ _ _ _ (by simpa using hk), Below.heap_setCell _ _ _ _ (by simpa using hk), Below.heap_setCell _ _ _ _ (by simpa using hk), Below.heap_setCell _ _ _ _ (by simpa using hk)]
theorem size_set8 (w : World) (B : Nat) (v0 v1 v2 v3 v4 v5 v6 v7 : Value) : (set8 w B v0 v1 v2 v3 v4 v5 v6 v7).heap.size = w.heap.size := by
  unfold set8
  simp
theorem gsign_any (cs mk st sp wd : Bool) (ps : List GP) (hps : ps.length ≤ 200) (hsg : ∀ p ∈ ps, 0 ≤ p.2.1 ∧ p.2.1 ≤ 1114111) (R : Nat) (w : World) (hG : GlobW w R ps) :
    Calls Tryz.prog 32 #[.pointer (some ⟨R, 0, none⟩), .func (.func 33) #[.agg #[.bool cs, .bool mk, .bool st, .bool sp, .bool wd]] #[]] w fun e w' => ∃ R2, e = .returned (.pointer (some ⟨R2, 0, none⟩)) ∧ GlobUp w w' R2 (ps.map (mapG (signO cs mk))) ∧ Below w.heap.size w w' :=
  gmap_bound 33 (.agg #[.bool cs, .bool mk, .bool st, .bool sp, .bool wd]) (signO cs mk) (fun sg W h1 h2 => sign_any cs mk st sp wd sg h1 h2 W) (go_sign _) ps hps hsg R w hG
set_option maxHeartbeats 4000000 in
theorem pat_wrong (cs mk st sp wd : Bool) (l : List UInt8) (hl : l.length ≤ 1000000) (c : Int) (hv : Lib.validD l = true) (hp : parseL l.length l [] = .error c) (hc : (c == 0) = false) (w : World) (hT : UT w) :
    Calls Tryz.prog 15 #[.string (strOf l), .agg #[.bool cs, .bool mk, .bool st, .bool sp, .bool wd]] w fun e w' => e = .returned (.tuple #[noWord, .int .i64 c]) ∧ Below w.heap.size w w' := by
  have HV := Lib.hid hv
  have HP := Lib.hid hp
  have HB := Lib.hid (mkW_below w cs mk st sp wd)
  have HZ := Lib.hid (mkW_zero w cs mk st sp wd)
  have HO := Lib.hid (mkW_opt w cs mk st sp wd)
  have HS := Lib.hid (mkW_size w cs mk st sp wd)
  have HT := Lib.hid (ut_keep hT HB.out)
  have hm : (w.alloc (.cells #[.bool cs, .bool mk, .bool st, .bool sp, .bool wd] 24)).alloc (.cells #[.bool false, .bool false, .bool false, .bool false, .bool false, .bool false, .string ⟨#[]⟩, .pointer none] 29) = mkW w cs mk st sp wd := rfl
  clear hv hp
  clear hT
  go_enter Tryz.func15, Tryz.ntmps15
  go_wp2_with fail

  generalize mkW w cs mk st sp wd = wA at *
  with_reducible refine (parse_wrong l c HV HP hl _ HT.out).mono ?_
  rintro e w1 ⟨rfl, b1⟩
  have Z1 := HZ.out.keep b1 (by have := HS.out; omega)
  have O1 := HO.out.keep b1
  have T1 := Lib.hid (ut_keep HT.out b1)
  have B1 := Lib.hid (HB.out.trans (b1.mono HB.out.size))
  have S1 : Hid (w.heap.size + 2 ≤ w1.heap.size) := by show _ ≤ _; have := HS.out; have := b1.size; omega
  have HZ1 := Lib.hid Z1
  have HO1 := Lib.hid O1
  have z0 := Z1.1 0 _ rfl
  have z1 := Z1.1 1 _ rfl
  have z2 := Z1.1 2 _ rfl
  have z3 := Z1.1 3 _ rfl
  have z4 := Z1.1 4 _ rfl
  have z5 := Z1.1 5 _ rfl
  have z6 := Z1.1 6 _ rfl
  have z7 := Z1.1 7 _ rfl
  have f0 := Z1.2 0
  have f1 := Z1.2 1
  have f2 := Z1.2 2
  have f3 := Z1.2 3
  have f4 := Z1.2 4
  have f5 := Z1.2 5
  have f6 := Z1.2 6
  have f7 := Z1.2 7
  clear Z1 O1 hm
  go_wp2_with fail
  obtain ⟨W9, hW9⟩ : ∃ W9, W9 = ((((((((w1.setCell ⟨w.heap.size + 1, 0, none⟩ (.bool false)).setCell ⟨w.heap.size + 1, 1, none⟩ (.bool false)).setCell ⟨w.heap.size + 1, 2, none⟩ (.bool false)).setCell ⟨w.heap.size + 1, 3, none⟩ (.bool false)).setCell ⟨w.heap.size + 1, 4, none⟩ (.bool false)).setCell ⟨w.heap.size + 1, 5, none⟩ (.bool false)).setCell ⟨w.heap.size + 1, 6, none⟩ (.string ⟨#[]⟩)).setCell ⟨w.heap.size + 1, 7, none⟩ (.pointer none)) := ⟨_, rfl⟩
  rw [← hW9]
  obtain ⟨e0, e1, e2, e3, e4, e5, e6, e7⟩ := set8_cells w1 (w.heap.size + 1) _ _ _ _ _ _ _ _ (.bool false) (.bool false) (.bool false) (.bool false) (.bool false) (.bool false) (.string ⟨#[]⟩) (.pointer none) HZ1.out
  have B9 := set8_below (B := w.heap.size + 1) (.bool false) (.bool false) (.bool false) (.bool false) (.bool false) (.bool false) (.string ⟨#[]⟩) (.pointer none) B1.out (by omega)
  rw [show set8 w1 (w.heap.size + 1) (.bool false) (.bool false) (.bool false) (.bool false) (.bool false) (.bool false) (.string ⟨#[]⟩) (.pointer none) = W9 from hW9.symm] at e0 e1 e2 e3 e4 e5 e6 e7 B9
  clear z0 z1 z2 z3 z4 z5 z6 z7 f0 f1 f2 f3 f4 f5 f6 f7
  refine bodyPost_ret (v := .tuple #[.agg #[.bool false, .bool false, .bool false, .bool false, .bool false, .bool false, .string ⟨#[]⟩, .pointer none], .int .i64 c]) (by simp [results, Tryz.results15, go_sem, e0, e1, e2, e3, e4, e5, e6, e7]) rfl ?_
  exact ⟨rfl, B9⟩
set_option maxHeartbeats 4000000 in
theorem pat_good (cs mk st sp wd : Bool) (l : List UInt8) (hl : l.length ≤ 1000000) (ps : List GP) (hv : Lib.validD l = true) (hp : parseL l.length l [] = .ok ps) (w : World) (hT : UT w) :
    Calls Tryz.prog 15 #[.string (strOf l), .agg #[.bool cs, .bool mk, .bool st, .bool sp, .bool wd]] w fun e w' => ∃ R2, e = .returned (.tuple #[wordV false cs mk st sp wd [] (some ⟨R2, 0, none⟩), .int .i64 0]) ∧ GlobUp w w' R2 (ps.map (mapG (signO cs mk))) ∧ Below w.heap.size w w' := by
  have HV := Lib.hid hv
  have HP := Lib.hid hp
  have HPS := Lib.hid (ok_of_parse hp).2
  have HBD := Lib.hid (sg_bd (sg_of_parse hp))
  have HB := Lib.hid (mkW_below w cs mk st sp wd)
  have HZ := Lib.hid (mkW_zero w cs mk st sp wd)
  have HO := Lib.hid (mkW_opt w cs mk st sp wd)
  have HS := Lib.hid (mkW_size w cs mk st sp wd)
  have HT := Lib.hid (ut_keep hT HB.out)
  have hm : (w.alloc (.cells #[.bool cs, .bool mk, .bool st, .bool sp, .bool wd] 24)).alloc (.cells #[.bool false, .bool false, .bool false, .bool false, .bool false, .bool false, .string ⟨#[]⟩, .pointer none] 29) = mkW w cs mk st sp wd := rfl
  clear hv hp
  clear hT
  go_enter Tryz.func15, Tryz.ntmps15
  go_wp2_with fail

  generalize mkW w cs mk st sp wd = wA at *
  with_reducible refine (parse_good l ps HV HP hl _ HT.out).mono ?_
  rintro e w1 ⟨R, rfl, hG, b1⟩
  have Z1 := HZ.out.keep b1 (by have := HS.out; omega)
  have O1 := HO.out.keep b1
  have T1 := Lib.hid (ut_keep HT.out b1)
  have B1 := Lib.hid (HB.out.trans (b1.mono HB.out.size))
  have S1 : Hid (w.heap.size + 2 ≤ w1.heap.size) := by show _ ≤ _; have := HS.out; have := b1.size; omega
  have HZ1 := Lib.hid Z1
  have HO1 := Lib.hid O1
  obtain ⟨o0, o1, o2, o3, o4⟩ := O1
  have HG := Lib.hid (GlobAt.w hG)
  clear Z1 hm hG
  go_wp2_with fail
  go_region_with (go_at_call 32; (with_reducible refine (gsign_any cs mk st sp wd ps HPS.out HBD.out R _ (HG.out.keep (Below.refl _ _).drew)).mono ?_); rintro e w3 ⟨R2, rfl, hU3, b3⟩; have b3' : Below w1.heap.size w1 w3 := (Below.refl _ _).drew.trans b3; have HU3 := Lib.hid hU3; have HZ3 := Lib.hid (HZ1.out.keep b3' (by have := S1.out; omega)); have HO3 := Lib.hid (HO1.out.keep b3'); have B3 := Lib.hid (B1.out.trans (b3'.mono B1.out.size)); have p0 := HO3.out.1; have p1 := HO3.out.2.1; have p2 := HO3.out.2.2.1; have p3 := HO3.out.2.2.2.1; have p4 := HO3.out.2.2.2.2; have z0 := HZ3.out.1 0 _ rfl; have z1 := HZ3.out.1 1 _ rfl; have z2 := HZ3.out.1 2 _ rfl; have z3 := HZ3.out.1 3 _ rfl; have z4 := HZ3.out.1 4 _ rfl; have z5 := HZ3.out.1 5 _ rfl; have z6 := HZ3.out.1 6 _ rfl; have z7 := HZ3.out.1 7 _ rfl; have f0 := HZ3.out.2 0; have f1 := HZ3.out.2 1; have f2 := HZ3.out.2 2; have f3 := HZ3.out.2 3; have f4 := HZ3.out.2 4; have f5 := HZ3.out.2 5; have f6 := HZ3.out.2 6; have f7 := HZ3.out.2 7; clear hU3)
  all_goals
    go_wp2_with fail
    obtain ⟨W9, hW9⟩ : ∃ W9, W9 = ((((((((w3.setCell ⟨w.heap.size + 1, 0, none⟩ (.bool false)).setCell ⟨w.heap.size + 1, 1, none⟩ (.bool cs)).setCell ⟨w.heap.size + 1, 2, none⟩ (.bool mk)).setCell ⟨w.heap.size + 1, 3, none⟩ (.bool st)).setCell ⟨w.heap.size + 1, 4, none⟩ (.bool sp)).setCell ⟨w.heap.size + 1, 5, none⟩ (.bool wd)).setCell ⟨w.heap.size + 1, 6, none⟩ (.string ⟨#[]⟩)).setCell ⟨w.heap.size + 1, 7, none⟩ (.pointer (some ⟨R2, 0, none⟩))) := ⟨_, rfl⟩
    rw [← hW9]
    obtain ⟨e0, e1, e2, e3, e4, e5, e6, e7⟩ := set8_cells w3 (w.heap.size + 1) _ _ _ _ _ _ _ _ (.bool false) (.bool cs) (.bool mk) (.bool st) (.bool sp) (.bool wd) (.string ⟨#[]⟩) (.pointer (some ⟨R2, 0, none⟩)) HZ3.out
    have B9 := set8_below (B := w.heap.size + 1) (.bool false) (.bool cs) (.bool mk) (.bool st) (.bool sp) (.bool wd) (.string ⟨#[]⟩) (.pointer (some ⟨R2, 0, none⟩)) B3.out (by omega)
    rw [show set8 w3 (w.heap.size + 1) (.bool false) (.bool cs) (.bool mk) (.bool st) (.bool sp) (.bool wd) (.string ⟨#[]⟩) (.pointer (some ⟨R2, 0, none⟩)) = W9 from hW9.symm] at e0 e1 e2 e3 e4 e5 e6 e7 B9
    clear z0 z1 z2 z3 z4 z5 z6 z7 f0 f1 f2 f3 f4 f5 f6 f7
    refine bodyPost_ret (v := .tuple #[.agg #[.bool false, .bool cs, .bool mk, .bool st, .bool sp, .bool wd, .string ⟨#[]⟩, .pointer (some ⟨R2, 0, none⟩)], .int .i64 0]) (by simp [results, Tryz.results15, go_sem, e0, e1, e2, e3, e4, e5, e6, e7]) rfl ?_
    have hz9 : W9.heap.size = w3.heap.size := by rw [hW9]; exact size_set8 _ _ _ _ _ _ _ _ _ _
    have hk9 : ∀ k, k ≠ w.heap.size + 1 → W9.heap[k]? = w3.heap[k]? := fun k hk => by rw [hW9]; exact heap_set8 _ _ _ _ _ _ _ _ _ _ k hk
    exact ⟨R2, rfl, fun W hz hk => HU3.out W (by omega) fun k h1 h2 => (hk k (by have := S1.out; have : w1.heap.size ≤ k := h1; omega) (by omega)).trans (hk9 k (by have := S1.out; have : w1.heap.size ≤ k := h1; omega)), B9⟩
set_option maxHeartbeats 4000000 in
theorem make_pat0 (cs mk st : Bool) (l : List UInt8) (hl : l.length ≤ 1000000) (hv : Lib.validD l = true) (ps : List GP) (hp : parseL l.length l [] = .ok ps) (w : World) (hT : UT w) :
    Calls Tryz.prog 6 #[.string (strOf l), .agg #[.bool cs, .bool mk, .bool st, .bool false, .bool true]] w fun e w' => ∃ R2, e = .returned (.tuple #[wordV false cs mk st false true [] (some ⟨R2, 0, none⟩), .int .i64 0]) ∧ GlobW w' R2 (ps.map (mapG (signO cs mk))) ∧ Below w.heap.size w w' := by
  have HV := Lib.hid hv
  have HP := Lib.hid hp
  have HB := Lib.hid (mkW_below w cs mk st false true)
  have HZ := Lib.hid (mkW_zero w cs mk st false true)
  have HO := Lib.hid (mkW_opt w cs mk st false true)
  have HS := Lib.hid (mkW_size w cs mk st false true)
  have HT := Lib.hid (ut_keep hT HB.out)
  have hm : (w.alloc (.cells #[.bool cs, .bool mk, .bool st, .bool false, .bool true] 24)).alloc (.cells #[.bool false, .bool false, .bool false, .bool false, .bool false, .bool false, .string ⟨#[]⟩, .pointer none] 29) = mkW w cs mk st false true := rfl
  clear hv hp
  clear hT
  go_enter Tryz.func6, Tryz.ntmps6
  go_wp2_with fail

  generalize mkW w cs mk st false true = wA at *
  with_reducible refine (right_is l true HV _ HT.out (by omega)).mono ?_
  rintro e w1 ⟨rfl, b1⟩
  have Z1 := HZ.out.keep b1 (by have := HS.out; omega)
  have O1 := HO.out.keep b1
  have T1 := Lib.hid (ut_keep HT.out b1)
  have B1 := Lib.hid (HB.out.trans (b1.mono HB.out.size))
  have S1 : Hid (w.heap.size + 2 ≤ w1.heap.size) := by show _ ≤ _; have := HS.out; have := b1.size; omega
  have HZ1 := Lib.hid Z1
  have HO1 := Lib.hid O1
  obtain ⟨o0, o1, o2, o3, o4⟩ := O1
  clear Z1 hm
  go_wp2_with fail
  with_reducible refine (pat_good cs mk st false true l hl ps HV.out HP.out _ T1.out).mono ?_
  rintro e w3 ⟨R2, rfl, hG3, b3⟩
  have HG3 := Lib.hid hG3
  clear hG3
  have Z3 := HZ1.out.keep b3 (by have := S1.out; omega)
  have B3 := Lib.hid (B1.out.trans (b3.mono B1.out.size))
  have HZ3 := Lib.hid Z3
  have z0 := Z3.1 0 _ rfl
  have z1 := Z3.1 1 _ rfl
  have z2 := Z3.1 2 _ rfl
  have z3 := Z3.1 3 _ rfl
  have z4 := Z3.1 4 _ rfl
  have z5 := Z3.1 5 _ rfl
  have z6 := Z3.1 6 _ rfl
  have z7 := Z3.1 7 _ rfl
  have f0 := Z3.2 0
  have f1 := Z3.2 1
  have f2 := Z3.2 2
  have f3 := Z3.2 3
  have f4 := Z3.2 4
  have f5 := Z3.2 5
  have f6 := Z3.2 6
  have f7 := Z3.2 7
  clear Z3
  unfold wordV
  go_wp2_with fail
  obtain ⟨W9, hW9⟩ : ∃ W9, W9 = ((((((((w3.setCell ⟨w.heap.size + 1, 0, none⟩ (.bool false)).setCell ⟨w.heap.size + 1, 1, none⟩ (.bool cs)).setCell ⟨w.heap.size + 1, 2, none⟩ (.bool mk)).setCell ⟨w.heap.size + 1, 3, none⟩ (.bool st)).setCell ⟨w.heap.size + 1, 4, none⟩ (.bool false)).setCell ⟨w.heap.size + 1, 5, none⟩ (.bool true)).setCell ⟨w.heap.size + 1, 6, none⟩ (.string (strOf []))).setCell ⟨w.heap.size + 1, 7, none⟩ (.pointer (some ⟨R2, 0, none⟩))) := ⟨_, rfl⟩
  rw [← hW9]
  obtain ⟨e0, e1, e2, e3, e4, e5, e6, e7⟩ := set8_cells w3 (w.heap.size + 1) _ _ _ _ _ _ _ _ (.bool false) (.bool cs) (.bool mk) (.bool st) (.bool false) (.bool true) (.string (strOf [])) (.pointer (some ⟨R2, 0, none⟩)) HZ3.out
  have B9 := set8_below (B := w.heap.size + 1) (.bool false) (.bool cs) (.bool mk) (.bool st) (.bool false) (.bool true) (.string (strOf [])) (.pointer (some ⟨R2, 0, none⟩)) B3.out (by omega)
  rw [show set8 w3 (w.heap.size + 1) (.bool false) (.bool cs) (.bool mk) (.bool st) (.bool false) (.bool true) (.string (strOf [])) (.pointer (some ⟨R2, 0, none⟩)) = W9 from hW9.symm] at e0 e1 e2 e3 e4 e5 e6 e7 B9
  clear z0 z1 z2 z3 z4 z5 z6 z7 f0 f1 f2 f3 f4 f5 f6 f7
  refine bodyPost_ret (v := .tuple #[.agg #[.bool false, .bool cs, .bool mk, .bool st, .bool false, .bool true, .string (strOf []), .pointer (some ⟨R2, 0, none⟩)], .int .i64 0]) (by simp [results, Tryz.results6, go_sem, e0, e1, e2, e3, e4, e5, e6, e7]) rfl ?_
  have hz9 : W9.heap.size = w3.heap.size := by rw [hW9]; exact size_set8 _ _ _ _ _ _ _ _ _ _
  have hk9 : ∀ k, k ≠ w.heap.size + 1 → W9.heap[k]? = w3.heap[k]? := fun k hk => by rw [hW9]; exact heap_set8 _ _ _ _ _ _ _ _ _ _ k hk
  exact ⟨R2, rfl, HG3.out W9 (by omega) fun k h1 _ => hk9 k (by have := S1.out; omega), B9⟩
set_option maxHeartbeats 4000000 in
theorem make_pat1 (cs mk st : Bool) (l : List UInt8) (hl : l.length ≤ 1000000) (hv : Lib.validD l = true) (hs : stopB l = false) (ps : List GP) (hp : parseL l.length l [] = .ok ps) (w : World) (hT : UT w) :
    Calls Tryz.prog 6 #[.string (strOf l), .agg #[.bool cs, .bool mk, .bool st, .bool true, .bool true]] w fun e w' => ∃ R2, e = .returned (.tuple #[wordV false cs mk st true true [] (some ⟨R2, 0, none⟩), .int .i64 0]) ∧ GlobW w' R2 (ps.map (mapG (signO cs mk))) ∧ Below w.heap.size w w' := by
  have HV := Lib.hid hv
  have HP := Lib.hid hp
  have HST : Hid (stopB l = false ∧ l.length ≤ 10000000) := ⟨hs, by omega⟩
  clear hs
  have HB := Lib.hid (mkW_below w cs mk st true true)
  have HZ := Lib.hid (mkW_zero w cs mk st true true)
  have HO := Lib.hid (mkW_opt w cs mk st true true)
  have HS := Lib.hid (mkW_size w cs mk st true true)
  have HT := Lib.hid (ut_keep hT HB.out)
  have hm : (w.alloc (.cells #[.bool cs, .bool mk, .bool st, .bool true, .bool true] 24)).alloc (.cells #[.bool false, .bool false, .bool false, .bool false, .bool false, .bool false, .string ⟨#[]⟩, .pointer none] 29) = mkW w cs mk st true true := rfl
  clear hv hp
  clear hT
  go_enter Tryz.func6, Tryz.ntmps6
  go_wp2_with fail

  generalize mkW w cs mk st true true = wA at *
  with_reducible refine (right_is l true HV _ HT.out (by omega)).mono ?_
  rintro e w1 ⟨rfl, b1⟩
  have Z1 := HZ.out.keep b1 (by have := HS.out; omega)
  have O1 := HO.out.keep b1
  have T1 := Lib.hid (ut_keep HT.out b1)
  have B1 := Lib.hid (HB.out.trans (b1.mono HB.out.size))
  have S1 : Hid (w.heap.size + 2 ≤ w1.heap.size) := by show _ ≤ _; have := HS.out; have := b1.size; omega
  have HZ1 := Lib.hid Z1
  have HO1 := Lib.hid O1
  obtain ⟨o0, o1, o2, o3, o4⟩ := O1
  clear Z1 hm
  go_wp2_with fail
  with_reducible refine (stop_is l false HST _ T1.out).mono ?_
  rintro e w2 ⟨rfl, b2⟩
  have Z2 := HZ1.out.keep b2 (by have := S1.out; omega)
  have O2 := HO1.out.keep b2
  have T2 := Lib.hid (ut_keep T1.out b2)
  have B2 := Lib.hid (B1.out.trans (b2.mono B1.out.size))
  have S2 : Hid (w.heap.size + 2 ≤ w2.heap.size) := by show _ ≤ _; have := S1.out; have := b2.size; omega
  clear HZ1 HO1 T1 B1 S1 o0 o1 o2 o3 o4
  have HZ1 := Lib.hid Z2
  have HO1 := Lib.hid O2
  have B1 := B2
  have T1 := T2
  have S1 := S2
  clear Z2 B2 T2 S2
  obtain ⟨o0, o1, o2, o3, o4⟩ := O2
  go_wp2_with fail
  with_reducible refine (pat_good cs mk st true true l hl ps HV.out HP.out _ T1.out).mono ?_
  rintro e w3 ⟨R2, rfl, hG3, b3⟩
  have HG3 := Lib.hid hG3
  clear hG3
  have Z3 := HZ1.out.keep b3 (by have := S1.out; omega)
  have B3 := Lib.hid (B1.out.trans (b3.mono B1.out.size))
  have HZ3 := Lib.hid Z3
  have z0 := Z3.1 0 _ rfl
  have z1 := Z3.1 1 _ rfl
  have z2 := Z3.1 2 _ rfl
  have z3 := Z3.1 3 _ rfl
  have z4 := Z3.1 4 _ rfl
  have z5 := Z3.1 5 _ rfl
  have z6 := Z3.1 6 _ rfl
  have z7 := Z3.1 7 _ rfl
  have f0 := Z3.2 0
  have f1 := Z3.2 1
  have f2 := Z3.2 2
  have f3 := Z3.2 3
  have f4 := Z3.2 4
  have f5 := Z3.2 5
  have f6 := Z3.2 6
  have f7 := Z3.2 7
  clear Z3
  unfold wordV
  go_wp2_with fail
  obtain ⟨W9, hW9⟩ : ∃ W9, W9 = ((((((((w3.setCell ⟨w.heap.size + 1, 0, none⟩ (.bool false)).setCell ⟨w.heap.size + 1, 1, none⟩ (.bool cs)).setCell ⟨w.heap.size + 1, 2, none⟩ (.bool mk)).setCell ⟨w.heap.size + 1, 3, none⟩ (.bool st)).setCell ⟨w.heap.size + 1, 4, none⟩ (.bool true)).setCell ⟨w.heap.size + 1, 5, none⟩ (.bool true)).setCell ⟨w.heap.size + 1, 6, none⟩ (.string (strOf []))).setCell ⟨w.heap.size + 1, 7, none⟩ (.pointer (some ⟨R2, 0, none⟩))) := ⟨_, rfl⟩
  rw [← hW9]
  obtain ⟨e0, e1, e2, e3, e4, e5, e6, e7⟩ := set8_cells w3 (w.heap.size + 1) _ _ _ _ _ _ _ _ (.bool false) (.bool cs) (.bool mk) (.bool st) (.bool true) (.bool true) (.string (strOf [])) (.pointer (some ⟨R2, 0, none⟩)) HZ3.out
  have B9 := set8_below (B := w.heap.size + 1) (.bool false) (.bool cs) (.bool mk) (.bool st) (.bool true) (.bool true) (.string (strOf [])) (.pointer (some ⟨R2, 0, none⟩)) B3.out (by omega)
  rw [show set8 w3 (w.heap.size + 1) (.bool false) (.bool cs) (.bool mk) (.bool st) (.bool true) (.bool true) (.string (strOf [])) (.pointer (some ⟨R2, 0, none⟩)) = W9 from hW9.symm] at e0 e1 e2 e3 e4 e5 e6 e7 B9
  clear z0 z1 z2 z3 z4 z5 z6 z7 f0 f1 f2 f3 f4 f5 f6 f7
  refine bodyPost_ret (v := .tuple #[.agg #[.bool false, .bool cs, .bool mk, .bool st, .bool true, .bool true, .string (strOf []), .pointer (some ⟨R2, 0, none⟩)], .int .i64 0]) (by simp [results, Tryz.results6, go_sem, e0, e1, e2, e3, e4, e5, e6, e7]) rfl ?_
  have hz9 : W9.heap.size = w3.heap.size := by rw [hW9]; exact size_set8 _ _ _ _ _ _ _ _ _ _
  have hk9 : ∀ k, k ≠ w.heap.size + 1 → W9.heap[k]? = w3.heap[k]? := fun k hk => by rw [hW9]; exact heap_set8 _ _ _ _ _ _ _ _ _ _ k hk
  exact ⟨R2, rfl, HG3.out W9 (by omega) fun k h1 _ => hk9 k (by have := S1.out; omega), B9⟩
set_option maxHeartbeats 4000000 in
theorem make_bad0 (cs mk st : Bool) (l : List UInt8) (hl : l.length ≤ 1000000) (hv : Lib.validD l = true) (c : Int) (hp : parseL l.length l [] = .error c) (hc : (c == 0) = false) (w : World) (hT : UT w) :
    Calls Tryz.prog 6 #[.string (strOf l), .agg #[.bool cs, .bool mk, .bool st, .bool false, .bool true]] w fun e w' => e = .returned (.tuple #[noWord, .int .i64 c]) ∧ Below w.heap.size w w' := by
  have HV := Lib.hid hv
  have HP := Lib.hid hp
  have HB := Lib.hid (mkW_below w cs mk st false true)
  have HZ := Lib.hid (mkW_zero w cs mk st false true)
  have HO := Lib.hid (mkW_opt w cs mk st false true)
  have HS := Lib.hid (mkW_size w cs mk st false true)
  have HT := Lib.hid (ut_keep hT HB.out)
  have hm : (w.alloc (.cells #[.bool cs, .bool mk, .bool st, .bool false, .bool true] 24)).alloc (.cells #[.bool false, .bool false, .bool false, .bool false, .bool false, .bool false, .string ⟨#[]⟩, .pointer none] 29) = mkW w cs mk st false true := rfl
  clear hv hp
  clear hT
  go_enter Tryz.func6, Tryz.ntmps6
  go_wp2_with fail

  generalize mkW w cs mk st false true = wA at *
  with_reducible refine (right_is l true HV _ HT.out (by omega)).mono ?_
  rintro e w1 ⟨rfl, b1⟩
  have Z1 := HZ.out.keep b1 (by have := HS.out; omega)
  have O1 := HO.out.keep b1
  have T1 := Lib.hid (ut_keep HT.out b1)
  have B1 := Lib.hid (HB.out.trans (b1.mono HB.out.size))
  have S1 : Hid (w.heap.size + 2 ≤ w1.heap.size) := by show _ ≤ _; have := HS.out; have := b1.size; omega
  have HZ1 := Lib.hid Z1
  have HO1 := Lib.hid O1
  obtain ⟨o0, o1, o2, o3, o4⟩ := O1
  clear Z1 hm
  go_wp2_with fail
  with_reducible refine (pat_wrong cs mk st false true l hl c HV.out HP.out hc _ T1.out).mono ?_
  rintro e w3 ⟨rfl, b3⟩
  have Z3 := HZ1.out.keep b3 (by have := S1.out; omega)
  have B3 := Lib.hid (B1.out.trans (b3.mono B1.out.size))
  have HZ3 := Lib.hid Z3
  have z0 := Z3.1 0 _ rfl
  have z1 := Z3.1 1 _ rfl
  have z2 := Z3.1 2 _ rfl
  have z3 := Z3.1 3 _ rfl
  have z4 := Z3.1 4 _ rfl
  have z5 := Z3.1 5 _ rfl
  have z6 := Z3.1 6 _ rfl
  have z7 := Z3.1 7 _ rfl
  have f0 := Z3.2 0
  have f1 := Z3.2 1
  have f2 := Z3.2 2
  have f3 := Z3.2 3
  have f4 := Z3.2 4
  have f5 := Z3.2 5
  have f6 := Z3.2 6
  have f7 := Z3.2 7
  clear Z3
  unfold noWord wordV
  go_wp2_with fail
  obtain ⟨W9, hW9⟩ : ∃ W9, W9 = ((((((((w3.setCell ⟨w.heap.size + 1, 0, none⟩ (.bool false)).setCell ⟨w.heap.size + 1, 1, none⟩ (.bool false)).setCell ⟨w.heap.size + 1, 2, none⟩ (.bool false)).setCell ⟨w.heap.size + 1, 3, none⟩ (.bool false)).setCell ⟨w.heap.size + 1, 4, none⟩ (.bool false)).setCell ⟨w.heap.size + 1, 5, none⟩ (.bool false)).setCell ⟨w.heap.size + 1, 6, none⟩ (.string (strOf []))).setCell ⟨w.heap.size + 1, 7, none⟩ (.pointer none)) := ⟨_, rfl⟩
  rw [← hW9]
  obtain ⟨e0, e1, e2, e3, e4, e5, e6, e7⟩ := set8_cells w3 (w.heap.size + 1) _ _ _ _ _ _ _ _ (.bool false) (.bool false) (.bool false) (.bool false) (.bool false) (.bool false) (.string (strOf [])) (.pointer none) HZ3.out
  have B9 := set8_below (B := w.heap.size + 1) (.bool false) (.bool false) (.bool false) (.bool false) (.bool false) (.bool false) (.string (strOf [])) (.pointer none) B3.out (by omega)
  rw [show set8 w3 (w.heap.size + 1) (.bool false) (.bool false) (.bool false) (.bool false) (.bool false) (.bool false) (.string (strOf [])) (.pointer none) = W9 from hW9.symm] at e0 e1 e2 e3 e4 e5 e6 e7 B9
  clear z0 z1 z2 z3 z4 z5 z6 z7 f0 f1 f2 f3 f4 f5 f6 f7
  refine bodyPost_ret (v := .tuple #[.agg #[.bool false, .bool false, .bool false, .bool false, .bool false, .bool false, .string (strOf []), .pointer none], .int .i64 c]) (by simp [results, Tryz.results6, go_sem, e0, e1, e2, e3, e4, e5, e6, e7]) rfl ?_
  exact ⟨rfl, B9⟩
set_option maxHeartbeats 4000000 in
theorem make_bad1 (cs mk st : Bool) (l : List UInt8) (hl : l.length ≤ 1000000) (hv : Lib.validD l = true) (hs : stopB l = false) (c : Int) (hp : parseL l.length l [] = .error c) (hc : (c == 0) = false) (w : World) (hT : UT w) :
    Calls Tryz.prog 6 #[.string (strOf l), .agg #[.bool cs, .bool mk, .bool st, .bool true, .bool true]] w fun e w' => e = .returned (.tuple #[noWord, .int .i64 c]) ∧ Below w.heap.size w w' := by
  have HV := Lib.hid hv
  have HP := Lib.hid hp
  have HST : Hid (stopB l = false ∧ l.length ≤ 10000000) := ⟨hs, by omega⟩
  clear hs
  have HB := Lib.hid (mkW_below w cs mk st true true)
  have HZ := Lib.hid (mkW_zero w cs mk st true true)
  have HO := Lib.hid (mkW_opt w cs mk st true true)
  have HS := Lib.hid (mkW_size w cs mk st true true)
  have HT := Lib.hid (ut_keep hT HB.out)
  have hm : (w.alloc (.cells #[.bool cs, .bool mk, .bool st, .bool true, .bool true] 24)).alloc (.cells #[.bool false, .bool false, .bool false, .bool false, .bool false, .bool false, .string ⟨#[]⟩, .pointer none] 29) = mkW w cs mk st true true := rfl
  clear hv hp
  clear hT
  go_enter Tryz.func6, Tryz.ntmps6
  go_wp2_with fail

  generalize mkW w cs mk st true true = wA at *
  with_reducible refine (right_is l true HV _ HT.out (by omega)).mono ?_
  rintro e w1 ⟨rfl, b1⟩
  have Z1 := HZ.out.keep b1 (by have := HS.out; omega)
  have O1 := HO.out.keep b1
  have T1 := Lib.hid (ut_keep HT.out b1)
  have B1 := Lib.hid (HB.out.trans (b1.mono HB.out.size))
  have S1 : Hid (w.heap.size + 2 ≤ w1.heap.size) := by show _ ≤ _; have := HS.out; have := b1.size; omega
  have HZ1 := Lib.hid Z1
  have HO1 := Lib.hid O1
  obtain ⟨o0, o1, o2, o3, o4⟩ := O1
  clear Z1 hm
  go_wp2_with fail
  with_reducible refine (stop_is l false HST _ T1.out).mono ?_
  rintro e w2 ⟨rfl, b2⟩
  have Z2 := HZ1.out.keep b2 (by have := S1.out; omega)
  have O2 := HO1.out.keep b2
  have T2 := Lib.hid (ut_keep T1.out b2)
  have B2 := Lib.hid (B1.out.trans (b2.mono B1.out.size))
  have S2 : Hid (w.heap.size + 2 ≤ w2.heap.size) := by show _ ≤ _; have := S1.out; have := b2.size; omega
  clear HZ1 HO1 T1 B1 S1 o0 o1 o2 o3 o4
  have HZ1 := Lib.hid Z2
  have HO1 := Lib.hid O2
  have B1 := B2
  have T1 := T2
  have S1 := S2
  clear Z2 B2 T2 S2
  obtain ⟨o0, o1, o2, o3, o4⟩ := O2
  go_wp2_with fail
  with_reducible refine (pat_wrong cs mk st true true l hl c HV.out HP.out hc _ T1.out).mono ?_
  rintro e w3 ⟨rfl, b3⟩
  have Z3 := HZ1.out.keep b3 (by have := S1.out; omega)
  have B3 := Lib.hid (B1.out.trans (b3.mono B1.out.size))
  have HZ3 := Lib.hid Z3
  have z0 := Z3.1 0 _ rfl
  have z1 := Z3.1 1 _ rfl
  have z2 := Z3.1 2 _ rfl
  have z3 := Z3.1 3 _ rfl
  have z4 := Z3.1 4 _ rfl
  have z5 := Z3.1 5 _ rfl
  have z6 := Z3.1 6 _ rfl
  have z7 := Z3.1 7 _ rfl
  have f0 := Z3.2 0
  have f1 := Z3.2 1
  have f2 := Z3.2 2
  have f3 := Z3.2 3
  have f4 := Z3.2 4
  have f5 := Z3.2 5
  have f6 := Z3.2 6
  have f7 := Z3.2 7
  clear Z3
  unfold noWord wordV
  go_wp2_with fail
  obtain ⟨W9, hW9⟩ : ∃ W9, W9 = ((((((((w3.setCell ⟨w.heap.size + 1, 0, none⟩ (.bool false)).setCell ⟨w.heap.size + 1, 1, none⟩ (.bool false)).setCell ⟨w.heap.size + 1, 2, none⟩ (.bool false)).setCell ⟨w.heap.size + 1, 3, none⟩ (.bool false)).setCell ⟨w.heap.size + 1, 4, none⟩ (.bool false)).setCell ⟨w.heap.size + 1, 5, none⟩ (.bool false)).setCell ⟨w.heap.size + 1, 6, none⟩ (.string (strOf []))).setCell ⟨w.heap.size + 1, 7, none⟩ (.pointer none)) := ⟨_, rfl⟩
  rw [← hW9]
  obtain ⟨e0, e1, e2, e3, e4, e5, e6, e7⟩ := set8_cells w3 (w.heap.size + 1) _ _ _ _ _ _ _ _ (.bool false) (.bool false) (.bool false) (.bool false) (.bool false) (.bool false) (.string (strOf [])) (.pointer none) HZ3.out
  have B9 := set8_below (B := w.heap.size + 1) (.bool false) (.bool false) (.bool false) (.bool false) (.bool false) (.bool false) (.string (strOf [])) (.pointer none) B3.out (by omega)
  rw [show set8 w3 (w.heap.size + 1) (.bool false) (.bool false) (.bool false) (.bool false) (.bool false) (.bool false) (.string (strOf [])) (.pointer none) = W9 from hW9.symm] at e0 e1 e2 e3 e4 e5 e6 e7 B9
  clear z0 z1 z2 z3 z4 z5 z6 z7 f0 f1 f2 f3 f4 f5 f6 f7
  refine bodyPost_ret (v := .tuple #[.agg #[.bool false, .bool false, .bool false, .bool false, .bool false, .bool false, .string (strOf []), .pointer none], .int .i64 c]) (by simp [results, Tryz.results6, go_sem, e0, e1, e2, e3, e4, e5, e6, e7]) rfl ?_
  exact ⟨rfl, B9⟩
end Go.Proofs.YtjeccmmhmdgdgaaGreatDoor
