/- FormGlobs: its walks, way by way. -/
import Derived.Test.YtbchmfkdhaggbaaDoorAlFw
namespace Go.Proofs.YtbchmfkdhaggbaaDoor
open Go.RowKit
set_option maxRecDepth 100000
set_option linter.unusedVariables false

theorem below_of_eq {w w' : World} (h : w = w') : Below w.heap.size w w' := by subst h; exact Below.refl _ _
theorem gplain (ps qs : List GP) (h : Hid (ps.map (mapG plainI) = qs ∧ ps.length ≤ 200 ∧ ∀ p ∈ ps, 0 ≤ p.2.1 ∧ p.2.1 ≤ 1114111)) (R : Nat) (w : World) (hG : GlobW w R ps) :
    Calls Tryd.prog 16 #[.pointer (some ⟨R, 0, none⟩), .func (.func 17) #[] #[]] w fun e w' => ∃ R2, e = .returned (.pointer (some ⟨R2, 0, none⟩)) ∧ GlobW w' R2 qs ∧ Below w.heap.size w w' := by
  obtain ⟨h1, h2, h3⟩ := h.out
  subst h1
  exact (gmap_any 17 plainI (fun sg W a b => (plain_any sg (by omega) (by omega) W).mono fun e w' h => ⟨h.1, below_of_eq h.2⟩) go_plain ps h2 h3 R w hG).mono fun e w' ⟨R2, e1, e2, e3⟩ => ⟨R2, e1, e2.now, e3⟩
theorem glow (ps qs : List GP) (h : Hid (ps.map (mapG lowI) = qs ∧ ps.length ≤ 200 ∧ ∀ p ∈ ps, 0 ≤ p.2.1 ∧ p.2.1 ≤ 1114111)) (R : Nat) (w : World) (hG : GlobW w R ps) :
    Calls Tryd.prog 16 #[.pointer (some ⟨R, 0, none⟩), .func (.func 18) #[] #[]] w fun e w' => ∃ R2, e = .returned (.pointer (some ⟨R2, 0, none⟩)) ∧ GlobW w' R2 qs ∧ Below w.heap.size w w' := by
  obtain ⟨h1, h2, h3⟩ := h.out
  subst h1
  exact (gmap_any 18 lowI (fun sg W a b => (low_any sg (by omega) (by omega) W).mono fun e w' h => ⟨h.1, below_of_eq h.2⟩) go_low ps h2 h3 R w hG).mono fun e w' ⟨R2, e1, e2, e3⟩ => ⟨R2, e1, e2.now, e3⟩
theorem parse_free (l : List UInt8) (hl : l.length ≤ 1000000) (w : World) (hT : UT w) :
    Calls Tryd.prog 15 #[.string (strOf l)] w fun e w' => ∃ q c, e = .returned (.tuple #[.pointer q, .int .i64 c]) ∧ Below w.heap.size w w' := by
  refine (parse_any l hl w hT).mono ?_
  rintro e w' ⟨hb, ⟨_, he⟩ | ⟨_, ⟨c, _, he⟩ | ⟨ps, R, _, he, _⟩⟩⟩
  · exact ⟨_, _, he, hb⟩
  · exact ⟨_, _, he, hb⟩
  · exact ⟨_, _, he, hb⟩
theorem match_is2 (l : List UInt8) (ps : List GP) (b : Bool) (h : Hid (matchT ps l = b ∧ l.length ≤ 100000 ∧ ps.length ≤ 200 ∧ okGP ps)) (R : Nat) (w : World) (hT : UT w) (hG : GlobW w R ps) :
    Calls Tryd.prog 19 #[.pointer (some ⟨R, 0, none⟩), .string (strOf l)] w fun e w' => e = .returned (.bool b) ∧ Below w.heap.size w w' := by
  obtain ⟨h1, h2, h3, h4⟩ := h.out
  subst h1
  exact match_t l h2 ps h3 h4 R w hT hG
set_option maxHeartbeats 8000000 in
theorem fg_any (cs mk st wd : Bool) (l v : List UInt8) (hl : l.length ≤ 30) (hv : v.length ≤ 30) (hu : Lib.validD l = true) (hs : stopB l = true) (w : World) (hT : UT w) :
    Calls Tryd.prog 4 #[.string (strOf l), .string (strOf v), .agg #[.bool cs, .bool mk, .bool st, .bool true, .bool wd]] w fun e w' => e = .returned (.bool true) ∧ Below w.heap.size w w' := by
  have HV := Lib.hid hu
  have hA : anyQ l true = true := by unfold anyQ; rw [hs]; rfl
  have HM : MkIs l true true 0 true := ⟨mkE_any true hu hA, by rw [hA]; rfl, by omega⟩
  have HST : Hid (stopB l = true ∧ l.length ≤ 10000000) := ⟨hs, by omega⟩
  have M1 : Hid (matQ l cs mk st true true v = true ∧ v.length ≤ 10000) := ⟨by unfold matQ; rw [hA]; rfl, by omega⟩
  have hz : ((strOf l).size : Int) ≤ 30 := by rw [size8]; omega
  have hz2 : ((strOf v).size : Int) ≤ 30 := by rw [size8]; omega
  have b0 := (Below.refl w.heap.size w).alloc (Nat.le_refl _) (.cells #[.bool cs, .bool mk, .bool st, .bool true, .bool wd] 23)
  have HT0 := Lib.hid hT
  have HT := Lib.hid (ut_keep hT b0)
  have O0 := Lib.hid (OptAt.new w cs mk st true wd)
  have HF := Lib.hid (fun W hb i => OptAt.frz w cs mk st true wd (W := W) hb i)
  clear hT hu hs hA
  go_enter Tryd.func4, Tryd.ntmps4
  go_wp2_with fail
  refine (head_any _ HT.out).mono ?_
  rintro e w1 ⟨rfl, b1⟩
  have O1 := O0.out.keep b1
  have f4 := HF.out w1 b1 4
  have B1 := Lib.hid (b0.trans (b1.mono b0.size))
  have O1h := Lib.hid O1
  obtain ⟨x0, x1, x2, x3, x4⟩ := O1
  clear b0 b1 HF O0 HT
  go_wp2_with fail
  obtain ⟨X, hX⟩ : ∃ X, X = w1.setCell ⟨w.heap.size, 4, none⟩ (.bool true) := ⟨_, rfl⟩
  rw [← hX]
  have OX : Hid (OptAt X w.heap.size cs mk st true true) := by rw [hX]; exact O1h.out.set4 true
  have BX : Hid (Below w.heap.size w X) := by rw [hX]; exact B1.out.setCell (p := ⟨w.heap.size, 4, none⟩) (Nat.le_refl _) _
  have TX := Lib.hid (ut_keep HT0.out BX.out)
  clear hX O1h B1 x0 x1 x2 x3 x4 f4
  with_reducible refine (make_is cs mk st true true l 0 true HM _ TX.out).mono ?_
  rintro e w2 ⟨a2, b2, c2, d2, e2, t2, q2, rfl, k2, hQ⟩
  obtain ⟨Y, hY⟩ : ∃ Y, Y = w2.alloc (.cells #[.bool true, .bool a2, .bool b2, .bool c2, .bool d2, .bool e2, .string (strOf t2), .pointer q2] 27) := ⟨_, rfl⟩
  have b2Y : Below w2.heap.size w2 Y := by rw [hY]; exact (Below.refl _ _).alloc (Nat.le_refl _) _
  have OY := OX.out.keep (k2.trans (b2Y.mono k2.size))
  have BY := Lib.hid (BX.out.trans ((k2.trans (b2Y.mono k2.size)).mono BX.out.size))
  have TY := Lib.hid (ut_keep HT0.out BY.out)
  have AY : At8 Y w2.heap.size (.bool true) (.bool a2) (.bool b2) (.bool c2) (.bool d2) (.bool e2) (.string (strOf t2)) (.pointer q2) := by rw [hY]; exact At8.new w2 _ _ _ _ _ _ _ _ _
  have OYh := Lib.hid OY
  have AYh := Lib.hid AY
  have QY := hQ.keep b2Y
  clear OX TX BX k2 b2Y hQ OY AY
  go_wp2_with fail
  rw [← hY]
  clear hY
  with_reducible refine (parse_free l (by omega) _ TY.out).mono ?_
  rintro e w3 ⟨g3, c3, rfl, k3⟩
  obtain ⟨x0, x1, x2, x3, x4⟩ := OYh.out.keep k3
  go_wp2_with fail
  with_reducible refine (right_is l true HV _ (ut_keep TY.out k3) (by omega)).mono ?_
  rintro e w4 ⟨rfl, k4⟩
  replace k4 := k3.trans (k4.mono k3.size)
  go_wp2_with fail
  with_reducible refine (stop_is l true HST _ (ut_keep TY.out k4)).mono ?_
  rintro e w5 ⟨rfl, k5⟩
  replace k5 := k4.trans (k5.mono k4.size)
  clear x0 x1 x2 x3 x4
  obtain ⟨y0, y1, y2, y3, y4, y5, y6, y7⟩ := AYh.out.keep k5
  go_wp2_with fail
  with_reducible refine (QW.is (Lib.hid QY.get) v true M1 _ k5).mono ?_
  rintro e w6 ⟨rfl, k6⟩
  replace k6 := k5.trans (k6.mono k5.size)
  go_wp2_with fail
  go_ret
  exact ⟨rfl, BY.out.trans (k6.mono BY.out.size)⟩
set_option maxHeartbeats 8000000 in
theorem fg_utft (cs mk st wd : Bool) (l v : List UInt8) (hl : l.length ≤ 30) (hv : v.length ≤ 30) (hu : Lib.validD l = false) (w : World) (hT : UT w) :
    Calls Tryd.prog 4 #[.string (strOf l), .string (strOf v), .agg #[.bool cs, .bool mk, .bool st, .bool true, .bool wd]] w fun e w' => e = .returned (.bool true) ∧ Below w.heap.size w w' := by
  have HV := Lib.hid hu
  have HM : MkIs l true true 10 false := ⟨mkE_utf true true hu, rfl, by omega⟩
  have hz : ((strOf l).size : Int) ≤ 30 := by rw [size8]; omega
  have hz2 : ((strOf v).size : Int) ≤ 30 := by rw [size8]; omega
  have b0 := (Below.refl w.heap.size w).alloc (Nat.le_refl _) (.cells #[.bool cs, .bool mk, .bool st, .bool true, .bool wd] 23)
  have HT0 := Lib.hid hT
  have HT := Lib.hid (ut_keep hT b0)
  have O0 := Lib.hid (OptAt.new w cs mk st true wd)
  have HF := Lib.hid (fun W hb i => OptAt.frz w cs mk st true wd (W := W) hb i)
  clear hT hu
  go_enter Tryd.func4, Tryd.ntmps4
  go_wp2_with fail
  refine (head_any _ HT.out).mono ?_
  rintro e w1 ⟨rfl, b1⟩
  have O1 := O0.out.keep b1
  have f4 := HF.out w1 b1 4
  have B1 := Lib.hid (b0.trans (b1.mono b0.size))
  have O1h := Lib.hid O1
  obtain ⟨x0, x1, x2, x3, x4⟩ := O1
  clear b0 b1 HF O0 HT
  go_wp2_with fail
  obtain ⟨X, hX⟩ : ∃ X, X = w1.setCell ⟨w.heap.size, 4, none⟩ (.bool true) := ⟨_, rfl⟩
  rw [← hX]
  have OX : Hid (OptAt X w.heap.size cs mk st true true) := by rw [hX]; exact O1h.out.set4 true
  have BX : Hid (Below w.heap.size w X) := by rw [hX]; exact B1.out.setCell (p := ⟨w.heap.size, 4, none⟩) (Nat.le_refl _) _
  have TX := Lib.hid (ut_keep HT0.out BX.out)
  clear hX O1h B1 x0 x1 x2 x3 x4 f4
  with_reducible refine (make_is cs mk st true true l 10 false HM _ TX.out).mono ?_
  rintro e w2 ⟨a2, b2, c2, d2, e2, t2, q2, rfl, k2, hQ⟩
  obtain ⟨Y, hY⟩ : ∃ Y, Y = w2.alloc (.cells #[.bool false, .bool a2, .bool b2, .bool c2, .bool d2, .bool e2, .string (strOf t2), .pointer q2] 27) := ⟨_, rfl⟩
  have b2Y : Below w2.heap.size w2 Y := by rw [hY]; exact (Below.refl _ _).alloc (Nat.le_refl _) _
  have OY := OX.out.keep (k2.trans (b2Y.mono k2.size))
  have BY := Lib.hid (BX.out.trans ((k2.trans (b2Y.mono k2.size)).mono BX.out.size))
  have TY := Lib.hid (ut_keep HT0.out BY.out)
  have AY : At8 Y w2.heap.size (.bool false) (.bool a2) (.bool b2) (.bool c2) (.bool d2) (.bool e2) (.string (strOf t2)) (.pointer q2) := by rw [hY]; exact At8.new w2 _ _ _ _ _ _ _ _ _
  have OYh := Lib.hid OY
  have AYh := Lib.hid AY
  have QY := hQ.keep b2Y
  clear OX TX BX k2 b2Y hQ OY AY
  go_wp2_with fail
  rw [← hY]
  clear hY
  with_reducible refine (parse_utf l HV (by omega) _ TY.out).mono ?_
  rintro e w3 ⟨rfl, k3⟩
  obtain ⟨x0, x1, x2, x3, x4⟩ := OYh.out.keep k3
  go_wp2_with fail
  with_reducible refine (right_is l false HV _ (ut_keep TY.out k3) (by omega)).mono ?_
  rintro e w4 ⟨rfl, k4⟩
  replace k4 := k3.trans (k4.mono k3.size)
  obtain ⟨y0, y1, y2, y3, y4, y5, y6, y7⟩ := AYh.out.keep k4
  go_wp2_with fail
  go_ret
  exact ⟨rfl, BY.out.trans (k4.mono BY.out.size)⟩
set_option maxHeartbeats 8000000 in
theorem fg_utff (cs mk st wd : Bool) (l v : List UInt8) (hl : l.length ≤ 30) (hv : v.length ≤ 30) (hu : Lib.validD l = false) (w : World) (hT : UT w) :
    Calls Tryd.prog 4 #[.string (strOf l), .string (strOf v), .agg #[.bool cs, .bool mk, .bool st, .bool false, .bool wd]] w fun e w' => e = .returned (.bool true) ∧ Below w.heap.size w w' := by
  have HV := Lib.hid hu
  have HM : MkIs l false true 10 false := ⟨mkE_utf false true hu, rfl, by omega⟩
  have hz : ((strOf l).size : Int) ≤ 30 := by rw [size8]; omega
  have hz2 : ((strOf v).size : Int) ≤ 30 := by rw [size8]; omega
  have b0 := (Below.refl w.heap.size w).alloc (Nat.le_refl _) (.cells #[.bool cs, .bool mk, .bool st, .bool false, .bool wd] 23)
  have HT0 := Lib.hid hT
  have HT := Lib.hid (ut_keep hT b0)
  have O0 := Lib.hid (OptAt.new w cs mk st false wd)
  have HF := Lib.hid (fun W hb i => OptAt.frz w cs mk st false wd (W := W) hb i)
  clear hT hu
  go_enter Tryd.func4, Tryd.ntmps4
  go_wp2_with fail
  refine (head_any _ HT.out).mono ?_
  rintro e w1 ⟨rfl, b1⟩
  have O1 := O0.out.keep b1
  have f4 := HF.out w1 b1 4
  have B1 := Lib.hid (b0.trans (b1.mono b0.size))
  have O1h := Lib.hid O1
  obtain ⟨x0, x1, x2, x3, x4⟩ := O1
  clear b0 b1 HF O0 HT
  go_wp2_with fail
  obtain ⟨X, hX⟩ : ∃ X, X = w1.setCell ⟨w.heap.size, 4, none⟩ (.bool true) := ⟨_, rfl⟩
  rw [← hX]
  have OX : Hid (OptAt X w.heap.size cs mk st false true) := by rw [hX]; exact O1h.out.set4 true
  have BX : Hid (Below w.heap.size w X) := by rw [hX]; exact B1.out.setCell (p := ⟨w.heap.size, 4, none⟩) (Nat.le_refl _) _
  have TX := Lib.hid (ut_keep HT0.out BX.out)
  clear hX O1h B1 x0 x1 x2 x3 x4 f4
  with_reducible refine (make_is cs mk st false true l 10 false HM _ TX.out).mono ?_
  rintro e w2 ⟨a2, b2, c2, d2, e2, t2, q2, rfl, k2, hQ⟩
  obtain ⟨Y, hY⟩ : ∃ Y, Y = w2.alloc (.cells #[.bool false, .bool a2, .bool b2, .bool c2, .bool d2, .bool e2, .string (strOf t2), .pointer q2] 27) := ⟨_, rfl⟩
  have b2Y : Below w2.heap.size w2 Y := by rw [hY]; exact (Below.refl _ _).alloc (Nat.le_refl _) _
  have OY := OX.out.keep (k2.trans (b2Y.mono k2.size))
  have BY := Lib.hid (BX.out.trans ((k2.trans (b2Y.mono k2.size)).mono BX.out.size))
  have TY := Lib.hid (ut_keep HT0.out BY.out)
  have AY : At8 Y w2.heap.size (.bool false) (.bool a2) (.bool b2) (.bool c2) (.bool d2) (.bool e2) (.string (strOf t2)) (.pointer q2) := by rw [hY]; exact At8.new w2 _ _ _ _ _ _ _ _ _
  have OYh := Lib.hid OY
  have AYh := Lib.hid AY
  have QY := hQ.keep b2Y
  clear OX TX BX k2 b2Y hQ OY AY
  go_wp2_with fail
  rw [← hY]
  clear hY
  with_reducible refine (parse_utf l HV (by omega) _ TY.out).mono ?_
  rintro e w3 ⟨rfl, k3⟩
  obtain ⟨x0, x1, x2, x3, x4⟩ := OYh.out.keep k3
  obtain ⟨y0, y1, y2, y3, y4, y5, y6, y7⟩ := AYh.out.keep k3
  go_wp2_with fail
  go_ret
  exact ⟨rfl, BY.out.trans (k3.mono BY.out.size)⟩
set_option maxHeartbeats 8000000 in
theorem fg_badt (cs mk st wd : Bool) (l v : List UInt8) (hl : l.length ≤ 30) (hv : v.length ≤ 30) (hu : Lib.validD l = true) (hs : stopB l = false) (c : Int) (hp : parseL l.length l [] = .error c) (hpe : pE l = c) (hc : (c == 0) = false) (w : World) (hT : UT w) :
    Calls Tryd.prog 4 #[.string (strOf l), .string (strOf v), .agg #[.bool cs, .bool mk, .bool st, .bool true, .bool wd]] w fun e w' => e = .returned (.bool true) ∧ Below w.heap.size w w' := by
  have HV := Lib.hid hu
  have HP := Lib.hid hp
  have hA : anyQ l true = false := by unfold anyQ; rw [hs]; rfl
  have HST : Hid (stopB l = false ∧ l.length ≤ 10000000) := ⟨hs, by omega⟩
  have HM : MkIs l true true c false := ⟨(mkE_pat hu hA).trans hpe, by rw [hA]; simp, by omega⟩
  have hz : ((strOf l).size : Int) ≤ 30 := by rw [size8]; omega
  have hz2 : ((strOf v).size : Int) ≤ 30 := by rw [size8]; omega
  have b0 := (Below.refl w.heap.size w).alloc (Nat.le_refl _) (.cells #[.bool cs, .bool mk, .bool st, .bool true, .bool wd] 23)
  have HT0 := Lib.hid hT
  have HT := Lib.hid (ut_keep hT b0)
  have O0 := Lib.hid (OptAt.new w cs mk st true wd)
  have HF := Lib.hid (fun W hb i => OptAt.frz w cs mk st true wd (W := W) hb i)
  clear hT hu hp hpe hA hs
  go_enter Tryd.func4, Tryd.ntmps4
  go_wp2_with fail
  refine (head_any _ HT.out).mono ?_
  rintro e w1 ⟨rfl, b1⟩
  have O1 := O0.out.keep b1
  have f4 := HF.out w1 b1 4
  have B1 := Lib.hid (b0.trans (b1.mono b0.size))
  have O1h := Lib.hid O1
  obtain ⟨x0, x1, x2, x3, x4⟩ := O1
  clear b0 b1 HF O0 HT
  go_wp2_with fail
  obtain ⟨X, hX⟩ : ∃ X, X = w1.setCell ⟨w.heap.size, 4, none⟩ (.bool true) := ⟨_, rfl⟩
  rw [← hX]
  have OX : Hid (OptAt X w.heap.size cs mk st true true) := by rw [hX]; exact O1h.out.set4 true
  have BX : Hid (Below w.heap.size w X) := by rw [hX]; exact B1.out.setCell (p := ⟨w.heap.size, 4, none⟩) (Nat.le_refl _) _
  have TX := Lib.hid (ut_keep HT0.out BX.out)
  clear hX O1h B1 x0 x1 x2 x3 x4 f4
  with_reducible refine (make_is cs mk st true true l c false HM _ TX.out).mono ?_
  rintro e w2 ⟨a2, b2, c2, d2, e2, t2, q2, rfl, k2, hQ⟩
  obtain ⟨Y, hY⟩ : ∃ Y, Y = w2.alloc (.cells #[.bool false, .bool a2, .bool b2, .bool c2, .bool d2, .bool e2, .string (strOf t2), .pointer q2] 27) := ⟨_, rfl⟩
  have b2Y : Below w2.heap.size w2 Y := by rw [hY]; exact (Below.refl _ _).alloc (Nat.le_refl _) _
  have OY := OX.out.keep (k2.trans (b2Y.mono k2.size))
  have BY := Lib.hid (BX.out.trans ((k2.trans (b2Y.mono k2.size)).mono BX.out.size))
  have TY := Lib.hid (ut_keep HT0.out BY.out)
  have AY : At8 Y w2.heap.size (.bool false) (.bool a2) (.bool b2) (.bool c2) (.bool d2) (.bool e2) (.string (strOf t2)) (.pointer q2) := by rw [hY]; exact At8.new w2 _ _ _ _ _ _ _ _ _
  have OYh := Lib.hid OY
  have AYh := Lib.hid AY
  have QY := hQ.keep b2Y
  clear OX TX BX k2 b2Y hQ OY AY
  go_wp2_with fail
  rw [← hY]
  clear hY
  with_reducible refine (parse_wrong l c HV HP (by omega) _ TY.out).mono ?_
  rintro e w3 ⟨rfl, k3⟩
  obtain ⟨x0, x1, x2, x3, x4⟩ := OYh.out.keep k3
  go_wp2_with fail
  with_reducible refine (right_is l true HV _ (ut_keep TY.out k3) (by omega)).mono ?_
  rintro e w4 ⟨rfl, k4⟩
  replace k4 := k3.trans (k4.mono k3.size)
  go_wp2_with fail
  with_reducible refine (stop_is l false HST _ (ut_keep TY.out k4)).mono ?_
  rintro e w5 ⟨rfl, k5⟩
  replace k5 := k4.trans (k5.mono k4.size)
  obtain ⟨y0, y1, y2, y3, y4, y5, y6, y7⟩ := AYh.out.keep k5
  go_wp2_with fail
  go_ret
  exact ⟨rfl, BY.out.trans (k5.mono BY.out.size)⟩
set_option maxHeartbeats 8000000 in
theorem fg_badf (cs mk st wd : Bool) (l v : List UInt8) (hl : l.length ≤ 30) (hv : v.length ≤ 30) (hu : Lib.validD l = true) (c : Int) (hp : parseL l.length l [] = .error c) (hpe : pE l = c) (hc : (c == 0) = false) (w : World) (hT : UT w) :
    Calls Tryd.prog 4 #[.string (strOf l), .string (strOf v), .agg #[.bool cs, .bool mk, .bool st, .bool false, .bool wd]] w fun e w' => e = .returned (.bool true) ∧ Below w.heap.size w w' := by
  have HV := Lib.hid hu
  have HP := Lib.hid hp
  have hA : anyQ l false = false := rfl
  have HM : MkIs l false true c false := ⟨(mkE_pat hu hA).trans hpe, by rw [hA]; simp, by omega⟩
  have hz : ((strOf l).size : Int) ≤ 30 := by rw [size8]; omega
  have hz2 : ((strOf v).size : Int) ≤ 30 := by rw [size8]; omega
  have b0 := (Below.refl w.heap.size w).alloc (Nat.le_refl _) (.cells #[.bool cs, .bool mk, .bool st, .bool false, .bool wd] 23)
  have HT0 := Lib.hid hT
  have HT := Lib.hid (ut_keep hT b0)
  have O0 := Lib.hid (OptAt.new w cs mk st false wd)
  have HF := Lib.hid (fun W hb i => OptAt.frz w cs mk st false wd (W := W) hb i)
  clear hT hu hp hpe hA
  go_enter Tryd.func4, Tryd.ntmps4
  go_wp2_with fail
  refine (head_any _ HT.out).mono ?_
  rintro e w1 ⟨rfl, b1⟩
  have O1 := O0.out.keep b1
  have f4 := HF.out w1 b1 4
  have B1 := Lib.hid (b0.trans (b1.mono b0.size))
  have O1h := Lib.hid O1
  obtain ⟨x0, x1, x2, x3, x4⟩ := O1
  clear b0 b1 HF O0 HT
  go_wp2_with fail
  obtain ⟨X, hX⟩ : ∃ X, X = w1.setCell ⟨w.heap.size, 4, none⟩ (.bool true) := ⟨_, rfl⟩
  rw [← hX]
  have OX : Hid (OptAt X w.heap.size cs mk st false true) := by rw [hX]; exact O1h.out.set4 true
  have BX : Hid (Below w.heap.size w X) := by rw [hX]; exact B1.out.setCell (p := ⟨w.heap.size, 4, none⟩) (Nat.le_refl _) _
  have TX := Lib.hid (ut_keep HT0.out BX.out)
  clear hX O1h B1 x0 x1 x2 x3 x4 f4
  with_reducible refine (make_is cs mk st false true l c false HM _ TX.out).mono ?_
  rintro e w2 ⟨a2, b2, c2, d2, e2, t2, q2, rfl, k2, hQ⟩
  obtain ⟨Y, hY⟩ : ∃ Y, Y = w2.alloc (.cells #[.bool false, .bool a2, .bool b2, .bool c2, .bool d2, .bool e2, .string (strOf t2), .pointer q2] 27) := ⟨_, rfl⟩
  have b2Y : Below w2.heap.size w2 Y := by rw [hY]; exact (Below.refl _ _).alloc (Nat.le_refl _) _
  have OY := OX.out.keep (k2.trans (b2Y.mono k2.size))
  have BY := Lib.hid (BX.out.trans ((k2.trans (b2Y.mono k2.size)).mono BX.out.size))
  have TY := Lib.hid (ut_keep HT0.out BY.out)
  have AY : At8 Y w2.heap.size (.bool false) (.bool a2) (.bool b2) (.bool c2) (.bool d2) (.bool e2) (.string (strOf t2)) (.pointer q2) := by rw [hY]; exact At8.new w2 _ _ _ _ _ _ _ _ _
  have OYh := Lib.hid OY
  have AYh := Lib.hid AY
  have QY := hQ.keep b2Y
  clear OX TX BX k2 b2Y hQ OY AY
  go_wp2_with fail
  rw [← hY]
  clear hY
  with_reducible refine (parse_wrong l c HV HP (by omega) _ TY.out).mono ?_
  rintro e w3 ⟨rfl, k3⟩
  obtain ⟨x0, x1, x2, x3, x4⟩ := OYh.out.keep k3
  obtain ⟨y0, y1, y2, y3, y4, y5, y6, y7⟩ := AYh.out.keep k3
  go_wp2_with fail
  go_ret
  exact ⟨rfl, BY.out.trans (k3.mono BY.out.size)⟩
set_option maxHeartbeats 8000000 in
theorem fg_patttt (st wd : Bool) (l v : List UInt8) (hl : l.length ≤ 30) (hv : v.length ≤ 30) (hu : Lib.validD l = true) (hs : stopB l = false) (hp : pE l = 0) (w : World) (hT : UT w) :
    Calls Tryd.prog 4 #[.string (strOf l), .string (strOf v), .agg #[.bool true, .bool true, .bool st, .bool true, .bool wd]] w fun e w' => e = .returned (.bool true) ∧ Below w.heap.size w w' := by
  have HV := Lib.hid hu
  have HP := Lib.hid (pE_ok hp)
  have hA : anyQ l true = false := by unfold anyQ; rw [hs]; rfl
  have HST : Hid (stopB l = false ∧ l.length ≤ 10000000) := ⟨hs, by omega⟩
  have HM : MkIs l true true 0 false := ⟨(mkE_pat hu hA).trans hp, by rw [hA]; rfl, by omega⟩
  have hsg := pP_sg l
  have hok := pP_ok l
  have hwl := wholeL_len true true v
  obtain ⟨ps, hps⟩ : ∃ ps, pP l = ps := ⟨_, rfl⟩
  rw [hps] at HP hsg hok
  obtain ⟨p1, hp1⟩ : ∃ p1, marksG true ps = p1 := ⟨_, rfl⟩
  obtain ⟨p2, hp2⟩ : ∃ p2, caseG true p1 = p2 := ⟨_, rfl⟩
  have hs1 : sgGP p1 := by rw [← hp1]; exact marksG_sg true hsg
  have hw2 : p2 = partsQ l true true := by rw [← hp2, ← hp1, whole_stepsG true true hsg]; unfold partsQ; rw [hps]
  have hl1 : p1.length ≤ 200 := by rw [← hp1]; exact hok.2
  have hl2 : p2.length ≤ 200 := by rw [hw2]; unfold partsQ; rw [List.length_map, hps]; exact hok.2
  have hok2 : okGP p2 := by rw [hw2]; exact mapG_ok _ (pP_ok l).1
  obtain ⟨d, hd⟩ : ∃ d, wholeL true true v = d := ⟨_, rfl⟩
  obtain ⟨m, hm⟩ : ∃ m, matchT p2 d = m := ⟨_, rfl⟩
  have M1 : Hid (matQ l true true st true true v = m ∧ v.length ≤ 10000) := ⟨by unfold matQ; rw [hA, hd, ← hw2]; exact hm, by omega⟩
  have M2 : Hid (matchT p2 d = m ∧ d.length ≤ 100000 ∧ p2.length ≤ 200 ∧ okGP p2) := ⟨hm, by rw [← hd]; omega, hl2, hok2⟩
  have L1 : Hid (ofL true true false v = d ∧ v.length ≤ 1000000) := ⟨hd, by omega⟩
  have G1 : Hid (ps = p1 ∧ ps.length ≤ 200 ∧ ∀ p ∈ ps, 0 ≤ p.2.1 ∧ p.2.1 ≤ 1114111) := ⟨hp1, hok.2, sg_bd hsg⟩
  have G2 : Hid (p1 = p2 ∧ p1.length ≤ 200 ∧ ∀ p ∈ p1, 0 ≤ p.2.1 ∧ p.2.1 ≤ 1114111) := ⟨hp2, hl1, sg_bd hs1⟩
  have hz : ((strOf l).size : Int) ≤ 30 := by rw [size8]; omega
  have hz2 : ((strOf v).size : Int) ≤ 30 := by rw [size8]; omega
  have b0 := (Below.refl w.heap.size w).alloc (Nat.le_refl _) (.cells #[.bool true, .bool true, .bool st, .bool true, .bool wd] 23)
  have HT0 := Lib.hid hT
  have HT := Lib.hid (ut_keep hT b0)
  have O0 := Lib.hid (OptAt.new w true true st true wd)
  have HF := Lib.hid (fun W hb i => OptAt.frz w true true st true wd (W := W) hb i)
  clear hT hu hp hA hsg hok hwl hps hp1 hp2 hs1 hw2 hl1 hl2 hok2 hd hm hs
  go_enter Tryd.func4, Tryd.ntmps4
  go_wp2_with fail
  refine (head_any _ HT.out).mono ?_
  rintro e w1 ⟨rfl, b1⟩
  have O1 := O0.out.keep b1
  have f4 := HF.out w1 b1 4
  have B1 := Lib.hid (b0.trans (b1.mono b0.size))
  have O1h := Lib.hid O1
  obtain ⟨x0, x1, x2, x3, x4⟩ := O1
  clear b0 b1 HF O0 HT
  go_wp2_with fail
  obtain ⟨X, hX⟩ : ∃ X, X = w1.setCell ⟨w.heap.size, 4, none⟩ (.bool true) := ⟨_, rfl⟩
  rw [← hX]
  have OX : Hid (OptAt X w.heap.size true true st true true) := by rw [hX]; exact O1h.out.set4 true
  have BX : Hid (Below w.heap.size w X) := by rw [hX]; exact B1.out.setCell (p := ⟨w.heap.size, 4, none⟩) (Nat.le_refl _) _
  have TX := Lib.hid (ut_keep HT0.out BX.out)
  clear hX O1h B1 x0 x1 x2 x3 x4 f4
  with_reducible refine (make_is true true st true true l 0 false HM _ TX.out).mono ?_
  rintro e w2 ⟨a2, b2, c2, d2, e2, t2, q2, rfl, k2, hQ⟩
  obtain ⟨Y, hY⟩ : ∃ Y, Y = w2.alloc (.cells #[.bool false, .bool a2, .bool b2, .bool c2, .bool d2, .bool e2, .string (strOf t2), .pointer q2] 27) := ⟨_, rfl⟩
  have b2Y : Below w2.heap.size w2 Y := by rw [hY]; exact (Below.refl _ _).alloc (Nat.le_refl _) _
  have OY := OX.out.keep (k2.trans (b2Y.mono k2.size))
  have BY := Lib.hid (BX.out.trans ((k2.trans (b2Y.mono k2.size)).mono BX.out.size))
  have TY := Lib.hid (ut_keep HT0.out BY.out)
  have AY : At8 Y w2.heap.size (.bool false) (.bool a2) (.bool b2) (.bool c2) (.bool d2) (.bool e2) (.string (strOf t2)) (.pointer q2) := by rw [hY]; exact At8.new w2 _ _ _ _ _ _ _ _ _
  have OYh := Lib.hid OY
  have AYh := Lib.hid AY
  have QY := hQ.keep b2Y
  clear OX TX BX k2 b2Y hQ OY AY
  go_wp2_with fail
  rw [← hY]
  clear hY
  with_reducible refine (parse_good l ps HV HP (by omega) _ TY.out).mono ?_
  rintro e w3 ⟨R, rfl, hG, k3⟩
  have HG := Lib.hid (GlobAt.w hG)
  clear hG
  have QX := Lib.hid QY.get
  obtain ⟨x0, x1, x2, x3, x4⟩ := OYh.out.keep k3
  go_wp2_with fail
  with_reducible refine (right_is l true HV _ (ut_keep TY.out k3) (by omega)).mono ?_
  rintro e w4 ⟨rfl, k4⟩
  replace HG := Lib.hid (HG.out.keep k4)
  replace k4 := k3.trans (k4.mono k3.size)
  clear x0 x1 x2 x3 x4
  obtain ⟨x0, x1, x2, x3, x4⟩ := OYh.out.keep k4
  go_wp2_with fail
  with_reducible refine (stop_is l false HST _ (ut_keep TY.out k4)).mono ?_
  rintro e w5 ⟨rfl, k5⟩
  replace HG := Lib.hid (HG.out.keep k5)
  replace k5 := k4.trans (k5.mono k4.size)
  clear x0 x1 x2 x3 x4
  obtain ⟨x0, x1, x2, x3, x4⟩ := OYh.out.keep k5
  go_wp2_with fail
  replace HG : Hid (GlobW w5 R p1) := by have e := G1.out.1; rw [← e]; exact HG.out
  clear x0 x1 x2 x3 x4
  replace HG : Hid (GlobW w5 R p2) := by have e := G2.out.1; rw [← e]; exact HG.out
  have hGf : Hid (GlobW w5 R p2) := HG.out
  have K1 : Hid (∀ W, Below w5.heap.size w5 W → Calls Tryd.prog 14 #[.string (strOf v), .agg #[.bool true, .bool true, .bool st, .bool true, .bool true], .bool false] W fun e w' => e = .returned (.string (strOf d)) ∧ Below w5.heap.size w5 w') := fun W hb =>
    (lof_is true true st true true false v d L1 W (ut_keep (ut_keep TY.out k5) hb)).mono fun e w' h => ⟨h.1, hb.trans (h.2.mono hb.size)⟩
  have K2 : Hid (∀ W, Below w5.heap.size w5 W → Calls Tryd.prog 19 #[.pointer (some ⟨R, 0, none⟩), .string (strOf d)] W fun e w' => e = .returned (.bool m) ∧ Below w5.heap.size w5 w') := fun W hb =>
    (match_is2 d p2 m M2 R W (ut_keep (ut_keep TY.out k5) hb) (hGf.out.keep hb)).mono fun e w' h => ⟨h.1, hb.trans (h.2.mono hb.size)⟩
  have K3 : Hid (∀ W, Below w5.heap.size w5 W → Calls Tryd.prog 12 #[.agg #[.bool false, .bool a2, .bool b2, .bool c2, .bool d2, .bool e2, .string (strOf t2), .pointer q2], .string (strOf v)] W fun e w' => e = .returned (.bool m) ∧ Below w5.heap.size w5 w') := fun W hb =>
    (QW.is QX v m M1 W (k5.trans (hb.mono k5.size))).mono fun e w' h => ⟨h.1, hb.trans (h.2.mono hb.size)⟩
  have HS : Hid (∀ W, Below w5.heap.size w5 W → (W.cell? ⟨w.heap.size, 0, none⟩ = some (.bool true) ∧ W.cell? ⟨w.heap.size, 1, none⟩ = some (.bool true) ∧ W.cell? ⟨w.heap.size, 2, none⟩ = some (.bool st) ∧ W.cell? ⟨w.heap.size, 3, none⟩ = some (.bool true) ∧ W.cell? ⟨w.heap.size, 4, none⟩ = some (.bool true)) ∧ (W.cell? ⟨w2.heap.size, 0, none⟩ = some (.bool false) ∧ W.cell? ⟨w2.heap.size, 1, none⟩ = some (.bool a2) ∧ W.cell? ⟨w2.heap.size, 2, none⟩ = some (.bool b2) ∧ W.cell? ⟨w2.heap.size, 3, none⟩ = some (.bool c2) ∧ W.cell? ⟨w2.heap.size, 4, none⟩ = some (.bool d2) ∧ W.cell? ⟨w2.heap.size, 5, none⟩ = some (.bool e2) ∧ W.cell? ⟨w2.heap.size, 6, none⟩ = some (.string (strOf t2)) ∧ W.cell? ⟨w2.heap.size, 7, none⟩ = some (.pointer q2))) := fun W hb => ⟨OYh.out.keep (k5.trans (hb.mono k5.size)), AYh.out.keep (k5.trans (hb.mono k5.size))⟩
  have BW := Lib.hid (BY.out.trans (k5.mono BY.out.size))
  clear OYh AYh BY TY QX HG hGf QY
  go_region_held3 (fun W => (W.cell? ⟨w.heap.size, 0, none⟩ = some (.bool true) ∧ W.cell? ⟨w.heap.size, 1, none⟩ = some (.bool true) ∧ W.cell? ⟨w.heap.size, 2, none⟩ = some (.bool st) ∧ W.cell? ⟨w.heap.size, 3, none⟩ = some (.bool true) ∧ W.cell? ⟨w.heap.size, 4, none⟩ = some (.bool true)) ∧ (W.cell? ⟨w2.heap.size, 0, none⟩ = some (.bool false) ∧ W.cell? ⟨w2.heap.size, 1, none⟩ = some (.bool a2) ∧ W.cell? ⟨w2.heap.size, 2, none⟩ = some (.bool b2) ∧ W.cell? ⟨w2.heap.size, 3, none⟩ = some (.bool c2) ∧ W.cell? ⟨w2.heap.size, 4, none⟩ = some (.bool d2) ∧ W.cell? ⟨w2.heap.size, 5, none⟩ = some (.bool e2) ∧ W.cell? ⟨w2.heap.size, 6, none⟩ = some (.string (strOf t2)) ∧ W.cell? ⟨w2.heap.size, 7, none⟩ = some (.pointer q2)))
    (first | exact HS.out _ (Below.refl _ _).drew | exact HS.out _ (by assumption))
    (first
      | (go_at_call 14; (with_reducible refine (K1.out _ ?_).mono ?_); (first | exact (Below.refl _ _).drew | assumption); rintro e w8 ⟨rfl, hb8⟩)
      | (go_at_call 19; (with_reducible refine (K2.out _ ?_).mono ?_); (first | exact (Below.refl _ _).drew | assumption); rintro e w9 ⟨rfl, hb9⟩)
      | (go_at_call 12; (with_reducible refine (K3.out _ ?_).mono ?_); (first | exact (Below.refl _ _).drew | assumption); rintro e w10 ⟨rfl, hb10⟩))
  all_goals
    go_wp2_with fail
    go_ret
    exact ⟨ret_bool (by simp), BW.out.trans ((show Below w5.heap.size w5 _ by assumption).mono BW.out.size)⟩
set_option maxHeartbeats 8000000 in
theorem fg_patttf (st wd : Bool) (l v : List UInt8) (hl : l.length ≤ 30) (hv : v.length ≤ 30) (hu : Lib.validD l = true) (hs : stopB l = false) (hp : pE l = 0) (w : World) (hT : UT w) :
    Calls Tryd.prog 4 #[.string (strOf l), .string (strOf v), .agg #[.bool true, .bool false, .bool st, .bool true, .bool wd]] w fun e w' => e = .returned (.bool true) ∧ Below w.heap.size w w' := by
  have HV := Lib.hid hu
  have HP := Lib.hid (pE_ok hp)
  have hA : anyQ l true = false := by unfold anyQ; rw [hs]; rfl
  have HST : Hid (stopB l = false ∧ l.length ≤ 10000000) := ⟨hs, by omega⟩
  have HM : MkIs l true true 0 false := ⟨(mkE_pat hu hA).trans hp, by rw [hA]; rfl, by omega⟩
  have hsg := pP_sg l
  have hok := pP_ok l
  have hwl := wholeL_len true false v
  obtain ⟨ps, hps⟩ : ∃ ps, pP l = ps := ⟨_, rfl⟩
  rw [hps] at HP hsg hok
  obtain ⟨p1, hp1⟩ : ∃ p1, marksG false ps = p1 := ⟨_, rfl⟩
  obtain ⟨p2, hp2⟩ : ∃ p2, caseG true p1 = p2 := ⟨_, rfl⟩
  have hs1 : sgGP p1 := by rw [← hp1]; exact marksG_sg false hsg
  have hw2 : p2 = partsQ l true false := by rw [← hp2, ← hp1, whole_stepsG true false hsg]; unfold partsQ; rw [hps]
  have hl1 : p1.length ≤ 200 := by rw [← hp1]; show (ps.map (mapG plainI)).length ≤ 200; rw [List.length_map]; exact hok.2
  have hl2 : p2.length ≤ 200 := by rw [hw2]; unfold partsQ; rw [List.length_map, hps]; exact hok.2
  have hok2 : okGP p2 := by rw [hw2]; exact mapG_ok _ (pP_ok l).1
  obtain ⟨d, hd⟩ : ∃ d, wholeL true false v = d := ⟨_, rfl⟩
  obtain ⟨m, hm⟩ : ∃ m, matchT p2 d = m := ⟨_, rfl⟩
  have M1 : Hid (matQ l true false st true true v = m ∧ v.length ≤ 10000) := ⟨by unfold matQ; rw [hA, hd, ← hw2]; exact hm, by omega⟩
  have M2 : Hid (matchT p2 d = m ∧ d.length ≤ 100000 ∧ p2.length ≤ 200 ∧ okGP p2) := ⟨hm, by rw [← hd]; omega, hl2, hok2⟩
  have L1 : Hid (ofL true false false v = d ∧ v.length ≤ 1000000) := ⟨hd, by omega⟩
  have G1 : Hid (ps.map (mapG plainI) = p1 ∧ ps.length ≤ 200 ∧ ∀ p ∈ ps, 0 ≤ p.2.1 ∧ p.2.1 ≤ 1114111) := ⟨hp1, hok.2, sg_bd hsg⟩
  have G2 : Hid (p1 = p2 ∧ p1.length ≤ 200 ∧ ∀ p ∈ p1, 0 ≤ p.2.1 ∧ p.2.1 ≤ 1114111) := ⟨hp2, hl1, sg_bd hs1⟩
  have hz : ((strOf l).size : Int) ≤ 30 := by rw [size8]; omega
  have hz2 : ((strOf v).size : Int) ≤ 30 := by rw [size8]; omega
  have b0 := (Below.refl w.heap.size w).alloc (Nat.le_refl _) (.cells #[.bool true, .bool false, .bool st, .bool true, .bool wd] 23)
  have HT0 := Lib.hid hT
  have HT := Lib.hid (ut_keep hT b0)
  have O0 := Lib.hid (OptAt.new w true false st true wd)
  have HF := Lib.hid (fun W hb i => OptAt.frz w true false st true wd (W := W) hb i)
  clear hT hu hp hA hsg hok hwl hps hp1 hp2 hs1 hw2 hl1 hl2 hok2 hd hm hs
  go_enter Tryd.func4, Tryd.ntmps4
  go_wp2_with fail
  refine (head_any _ HT.out).mono ?_
  rintro e w1 ⟨rfl, b1⟩
  have O1 := O0.out.keep b1
  have f4 := HF.out w1 b1 4
  have B1 := Lib.hid (b0.trans (b1.mono b0.size))
  have O1h := Lib.hid O1
  obtain ⟨x0, x1, x2, x3, x4⟩ := O1
  clear b0 b1 HF O0 HT
  go_wp2_with fail
  obtain ⟨X, hX⟩ : ∃ X, X = w1.setCell ⟨w.heap.size, 4, none⟩ (.bool true) := ⟨_, rfl⟩
  rw [← hX]
  have OX : Hid (OptAt X w.heap.size true false st true true) := by rw [hX]; exact O1h.out.set4 true
  have BX : Hid (Below w.heap.size w X) := by rw [hX]; exact B1.out.setCell (p := ⟨w.heap.size, 4, none⟩) (Nat.le_refl _) _
  have TX := Lib.hid (ut_keep HT0.out BX.out)
  clear hX O1h B1 x0 x1 x2 x3 x4 f4
  with_reducible refine (make_is true false st true true l 0 false HM _ TX.out).mono ?_
  rintro e w2 ⟨a2, b2, c2, d2, e2, t2, q2, rfl, k2, hQ⟩
  obtain ⟨Y, hY⟩ : ∃ Y, Y = w2.alloc (.cells #[.bool false, .bool a2, .bool b2, .bool c2, .bool d2, .bool e2, .string (strOf t2), .pointer q2] 27) := ⟨_, rfl⟩
  have b2Y : Below w2.heap.size w2 Y := by rw [hY]; exact (Below.refl _ _).alloc (Nat.le_refl _) _
  have OY := OX.out.keep (k2.trans (b2Y.mono k2.size))
  have BY := Lib.hid (BX.out.trans ((k2.trans (b2Y.mono k2.size)).mono BX.out.size))
  have TY := Lib.hid (ut_keep HT0.out BY.out)
  have AY : At8 Y w2.heap.size (.bool false) (.bool a2) (.bool b2) (.bool c2) (.bool d2) (.bool e2) (.string (strOf t2)) (.pointer q2) := by rw [hY]; exact At8.new w2 _ _ _ _ _ _ _ _ _
  have OYh := Lib.hid OY
  have AYh := Lib.hid AY
  have QY := hQ.keep b2Y
  clear OX TX BX k2 b2Y hQ OY AY
  go_wp2_with fail
  rw [← hY]
  clear hY
  with_reducible refine (parse_good l ps HV HP (by omega) _ TY.out).mono ?_
  rintro e w3 ⟨R, rfl, hG, k3⟩
  have HG := Lib.hid (GlobAt.w hG)
  clear hG
  have QX := Lib.hid QY.get
  obtain ⟨x0, x1, x2, x3, x4⟩ := OYh.out.keep k3
  go_wp2_with fail
  with_reducible refine (right_is l true HV _ (ut_keep TY.out k3) (by omega)).mono ?_
  rintro e w4 ⟨rfl, k4⟩
  replace HG := Lib.hid (HG.out.keep k4)
  replace k4 := k3.trans (k4.mono k3.size)
  clear x0 x1 x2 x3 x4
  obtain ⟨x0, x1, x2, x3, x4⟩ := OYh.out.keep k4
  go_wp2_with fail
  with_reducible refine (stop_is l false HST _ (ut_keep TY.out k4)).mono ?_
  rintro e w5 ⟨rfl, k5⟩
  replace HG := Lib.hid (HG.out.keep k5)
  replace k5 := k4.trans (k5.mono k4.size)
  clear x0 x1 x2 x3 x4
  obtain ⟨x0, x1, x2, x3, x4⟩ := OYh.out.keep k5
  go_wp2_with fail
  with_reducible refine (gplain ps p1 G1 R _ HG.out).mono ?_
  rintro e w6 ⟨R6, rfl, hG6, k6⟩
  replace k6 := k5.trans (k6.mono k5.size)
  have HG := Lib.hid hG6
  clear hG6
  clear x0 x1 x2 x3 x4
  obtain ⟨x0, x1, x2, x3, x4⟩ := OYh.out.keep k6
  go_wp2_with fail
  clear x0 x1 x2 x3 x4
  replace HG : Hid (GlobW w6 R6 p2) := by have e := G2.out.1; rw [← e]; exact HG.out
  have hGf : Hid (GlobW w6 R6 p2) := HG.out
  have K1 : Hid (∀ W, Below w6.heap.size w6 W → Calls Tryd.prog 14 #[.string (strOf v), .agg #[.bool true, .bool false, .bool st, .bool true, .bool true], .bool false] W fun e w' => e = .returned (.string (strOf d)) ∧ Below w6.heap.size w6 w') := fun W hb =>
    (lof_is true false st true true false v d L1 W (ut_keep (ut_keep TY.out k6) hb)).mono fun e w' h => ⟨h.1, hb.trans (h.2.mono hb.size)⟩
  have K2 : Hid (∀ W, Below w6.heap.size w6 W → Calls Tryd.prog 19 #[.pointer (some ⟨R6, 0, none⟩), .string (strOf d)] W fun e w' => e = .returned (.bool m) ∧ Below w6.heap.size w6 w') := fun W hb =>
    (match_is2 d p2 m M2 R6 W (ut_keep (ut_keep TY.out k6) hb) (hGf.out.keep hb)).mono fun e w' h => ⟨h.1, hb.trans (h.2.mono hb.size)⟩
  have K3 : Hid (∀ W, Below w6.heap.size w6 W → Calls Tryd.prog 12 #[.agg #[.bool false, .bool a2, .bool b2, .bool c2, .bool d2, .bool e2, .string (strOf t2), .pointer q2], .string (strOf v)] W fun e w' => e = .returned (.bool m) ∧ Below w6.heap.size w6 w') := fun W hb =>
    (QW.is QX v m M1 W (k6.trans (hb.mono k6.size))).mono fun e w' h => ⟨h.1, hb.trans (h.2.mono hb.size)⟩
  have HS : Hid (∀ W, Below w6.heap.size w6 W → (W.cell? ⟨w.heap.size, 0, none⟩ = some (.bool true) ∧ W.cell? ⟨w.heap.size, 1, none⟩ = some (.bool false) ∧ W.cell? ⟨w.heap.size, 2, none⟩ = some (.bool st) ∧ W.cell? ⟨w.heap.size, 3, none⟩ = some (.bool true) ∧ W.cell? ⟨w.heap.size, 4, none⟩ = some (.bool true)) ∧ (W.cell? ⟨w2.heap.size, 0, none⟩ = some (.bool false) ∧ W.cell? ⟨w2.heap.size, 1, none⟩ = some (.bool a2) ∧ W.cell? ⟨w2.heap.size, 2, none⟩ = some (.bool b2) ∧ W.cell? ⟨w2.heap.size, 3, none⟩ = some (.bool c2) ∧ W.cell? ⟨w2.heap.size, 4, none⟩ = some (.bool d2) ∧ W.cell? ⟨w2.heap.size, 5, none⟩ = some (.bool e2) ∧ W.cell? ⟨w2.heap.size, 6, none⟩ = some (.string (strOf t2)) ∧ W.cell? ⟨w2.heap.size, 7, none⟩ = some (.pointer q2))) := fun W hb => ⟨OYh.out.keep (k6.trans (hb.mono k6.size)), AYh.out.keep (k6.trans (hb.mono k6.size))⟩
  have BW := Lib.hid (BY.out.trans (k6.mono BY.out.size))
  clear OYh AYh BY TY QX HG hGf QY
  go_region_held3 (fun W => (W.cell? ⟨w.heap.size, 0, none⟩ = some (.bool true) ∧ W.cell? ⟨w.heap.size, 1, none⟩ = some (.bool false) ∧ W.cell? ⟨w.heap.size, 2, none⟩ = some (.bool st) ∧ W.cell? ⟨w.heap.size, 3, none⟩ = some (.bool true) ∧ W.cell? ⟨w.heap.size, 4, none⟩ = some (.bool true)) ∧ (W.cell? ⟨w2.heap.size, 0, none⟩ = some (.bool false) ∧ W.cell? ⟨w2.heap.size, 1, none⟩ = some (.bool a2) ∧ W.cell? ⟨w2.heap.size, 2, none⟩ = some (.bool b2) ∧ W.cell? ⟨w2.heap.size, 3, none⟩ = some (.bool c2) ∧ W.cell? ⟨w2.heap.size, 4, none⟩ = some (.bool d2) ∧ W.cell? ⟨w2.heap.size, 5, none⟩ = some (.bool e2) ∧ W.cell? ⟨w2.heap.size, 6, none⟩ = some (.string (strOf t2)) ∧ W.cell? ⟨w2.heap.size, 7, none⟩ = some (.pointer q2)))
    (first | exact HS.out _ (Below.refl _ _).drew | exact HS.out _ (by assumption))
    (first
      | (go_at_call 14; (with_reducible refine (K1.out _ ?_).mono ?_); (first | exact (Below.refl _ _).drew | assumption); rintro e w8 ⟨rfl, hb8⟩)
      | (go_at_call 19; (with_reducible refine (K2.out _ ?_).mono ?_); (first | exact (Below.refl _ _).drew | assumption); rintro e w9 ⟨rfl, hb9⟩)
      | (go_at_call 12; (with_reducible refine (K3.out _ ?_).mono ?_); (first | exact (Below.refl _ _).drew | assumption); rintro e w10 ⟨rfl, hb10⟩))
  all_goals
    go_wp2_with fail
    go_ret
    exact ⟨ret_bool (by simp), BW.out.trans ((show Below w6.heap.size w6 _ by assumption).mono BW.out.size)⟩
set_option maxHeartbeats 8000000 in
theorem fg_pattft (st wd : Bool) (l v : List UInt8) (hl : l.length ≤ 30) (hv : v.length ≤ 30) (hu : Lib.validD l = true) (hs : stopB l = false) (hp : pE l = 0) (w : World) (hT : UT w) :
    Calls Tryd.prog 4 #[.string (strOf l), .string (strOf v), .agg #[.bool false, .bool true, .bool st, .bool true, .bool wd]] w fun e w' => e = .returned (.bool true) ∧ Below w.heap.size w w' := by
  have HV := Lib.hid hu
  have HP := Lib.hid (pE_ok hp)
  have hA : anyQ l true = false := by unfold anyQ; rw [hs]; rfl
  have HST : Hid (stopB l = false ∧ l.length ≤ 10000000) := ⟨hs, by omega⟩
  have HM : MkIs l true true 0 false := ⟨(mkE_pat hu hA).trans hp, by rw [hA]; rfl, by omega⟩
  have hsg := pP_sg l
  have hok := pP_ok l
  have hwl := wholeL_len false true v
  obtain ⟨ps, hps⟩ : ∃ ps, pP l = ps := ⟨_, rfl⟩
  rw [hps] at HP hsg hok
  obtain ⟨p1, hp1⟩ : ∃ p1, marksG true ps = p1 := ⟨_, rfl⟩
  obtain ⟨p2, hp2⟩ : ∃ p2, caseG false p1 = p2 := ⟨_, rfl⟩
  have hs1 : sgGP p1 := by rw [← hp1]; exact marksG_sg true hsg
  have hw2 : p2 = partsQ l false true := by rw [← hp2, ← hp1, whole_stepsG false true hsg]; unfold partsQ; rw [hps]
  have hl1 : p1.length ≤ 200 := by rw [← hp1]; exact hok.2
  have hl2 : p2.length ≤ 200 := by rw [hw2]; unfold partsQ; rw [List.length_map, hps]; exact hok.2
  have hok2 : okGP p2 := by rw [hw2]; exact mapG_ok _ (pP_ok l).1
  obtain ⟨d, hd⟩ : ∃ d, wholeL false true v = d := ⟨_, rfl⟩
  obtain ⟨m, hm⟩ : ∃ m, matchT p2 d = m := ⟨_, rfl⟩
  have M1 : Hid (matQ l false true st true true v = m ∧ v.length ≤ 10000) := ⟨by unfold matQ; rw [hA, hd, ← hw2]; exact hm, by omega⟩
  have M2 : Hid (matchT p2 d = m ∧ d.length ≤ 100000 ∧ p2.length ≤ 200 ∧ okGP p2) := ⟨hm, by rw [← hd]; omega, hl2, hok2⟩
  have L1 : Hid (ofL false true false v = d ∧ v.length ≤ 1000000) := ⟨hd, by omega⟩
  have G1 : Hid (ps = p1 ∧ ps.length ≤ 200 ∧ ∀ p ∈ ps, 0 ≤ p.2.1 ∧ p.2.1 ≤ 1114111) := ⟨hp1, hok.2, sg_bd hsg⟩
  have G2 : Hid (p1.map (mapG lowI) = p2 ∧ p1.length ≤ 200 ∧ ∀ p ∈ p1, 0 ≤ p.2.1 ∧ p.2.1 ≤ 1114111) := ⟨hp2, hl1, sg_bd hs1⟩
  have hz : ((strOf l).size : Int) ≤ 30 := by rw [size8]; omega
  have hz2 : ((strOf v).size : Int) ≤ 30 := by rw [size8]; omega
  have b0 := (Below.refl w.heap.size w).alloc (Nat.le_refl _) (.cells #[.bool false, .bool true, .bool st, .bool true, .bool wd] 23)
  have HT0 := Lib.hid hT
  have HT := Lib.hid (ut_keep hT b0)
  have O0 := Lib.hid (OptAt.new w false true st true wd)
  have HF := Lib.hid (fun W hb i => OptAt.frz w false true st true wd (W := W) hb i)
  clear hT hu hp hA hsg hok hwl hps hp1 hp2 hs1 hw2 hl1 hl2 hok2 hd hm hs
  go_enter Tryd.func4, Tryd.ntmps4
  go_wp2_with fail
  refine (head_any _ HT.out).mono ?_
  rintro e w1 ⟨rfl, b1⟩
  have O1 := O0.out.keep b1
  have f4 := HF.out w1 b1 4
  have B1 := Lib.hid (b0.trans (b1.mono b0.size))
  have O1h := Lib.hid O1
  obtain ⟨x0, x1, x2, x3, x4⟩ := O1
  clear b0 b1 HF O0 HT
  go_wp2_with fail
  obtain ⟨X, hX⟩ : ∃ X, X = w1.setCell ⟨w.heap.size, 4, none⟩ (.bool true) := ⟨_, rfl⟩
  rw [← hX]
  have OX : Hid (OptAt X w.heap.size false true st true true) := by rw [hX]; exact O1h.out.set4 true
  have BX : Hid (Below w.heap.size w X) := by rw [hX]; exact B1.out.setCell (p := ⟨w.heap.size, 4, none⟩) (Nat.le_refl _) _
  have TX := Lib.hid (ut_keep HT0.out BX.out)
  clear hX O1h B1 x0 x1 x2 x3 x4 f4
  with_reducible refine (make_is false true st true true l 0 false HM _ TX.out).mono ?_
  rintro e w2 ⟨a2, b2, c2, d2, e2, t2, q2, rfl, k2, hQ⟩
  obtain ⟨Y, hY⟩ : ∃ Y, Y = w2.alloc (.cells #[.bool false, .bool a2, .bool b2, .bool c2, .bool d2, .bool e2, .string (strOf t2), .pointer q2] 27) := ⟨_, rfl⟩
  have b2Y : Below w2.heap.size w2 Y := by rw [hY]; exact (Below.refl _ _).alloc (Nat.le_refl _) _
  have OY := OX.out.keep (k2.trans (b2Y.mono k2.size))
  have BY := Lib.hid (BX.out.trans ((k2.trans (b2Y.mono k2.size)).mono BX.out.size))
  have TY := Lib.hid (ut_keep HT0.out BY.out)
  have AY : At8 Y w2.heap.size (.bool false) (.bool a2) (.bool b2) (.bool c2) (.bool d2) (.bool e2) (.string (strOf t2)) (.pointer q2) := by rw [hY]; exact At8.new w2 _ _ _ _ _ _ _ _ _
  have OYh := Lib.hid OY
  have AYh := Lib.hid AY
  have QY := hQ.keep b2Y
  clear OX TX BX k2 b2Y hQ OY AY
  go_wp2_with fail
  rw [← hY]
  clear hY
  with_reducible refine (parse_good l ps HV HP (by omega) _ TY.out).mono ?_
  rintro e w3 ⟨R, rfl, hG, k3⟩
  have HG := Lib.hid (GlobAt.w hG)
  clear hG
  have QX := Lib.hid QY.get
  obtain ⟨x0, x1, x2, x3, x4⟩ := OYh.out.keep k3
  go_wp2_with fail
  with_reducible refine (right_is l true HV _ (ut_keep TY.out k3) (by omega)).mono ?_
  rintro e w4 ⟨rfl, k4⟩
  replace HG := Lib.hid (HG.out.keep k4)
  replace k4 := k3.trans (k4.mono k3.size)
  clear x0 x1 x2 x3 x4
  obtain ⟨x0, x1, x2, x3, x4⟩ := OYh.out.keep k4
  go_wp2_with fail
  with_reducible refine (stop_is l false HST _ (ut_keep TY.out k4)).mono ?_
  rintro e w5 ⟨rfl, k5⟩
  replace HG := Lib.hid (HG.out.keep k5)
  replace k5 := k4.trans (k5.mono k4.size)
  clear x0 x1 x2 x3 x4
  obtain ⟨x0, x1, x2, x3, x4⟩ := OYh.out.keep k5
  go_wp2_with fail
  replace HG : Hid (GlobW w5 R p1) := by have e := G1.out.1; rw [← e]; exact HG.out
  with_reducible refine (glow p1 p2 G2 R _ HG.out).mono ?_
  rintro e w7 ⟨R7, rfl, hG7, k7⟩
  replace k7 := k5.trans (k7.mono k5.size)
  have HG := Lib.hid hG7
  clear hG7
  clear x0 x1 x2 x3 x4
  go_wp2_with fail
  have hGf : Hid (GlobW w7 R7 p2) := HG.out
  have K1 : Hid (∀ W, Below w7.heap.size w7 W → Calls Tryd.prog 14 #[.string (strOf v), .agg #[.bool false, .bool true, .bool st, .bool true, .bool true], .bool false] W fun e w' => e = .returned (.string (strOf d)) ∧ Below w7.heap.size w7 w') := fun W hb =>
    (lof_is false true st true true false v d L1 W (ut_keep (ut_keep TY.out k7) hb)).mono fun e w' h => ⟨h.1, hb.trans (h.2.mono hb.size)⟩
  have K2 : Hid (∀ W, Below w7.heap.size w7 W → Calls Tryd.prog 19 #[.pointer (some ⟨R7, 0, none⟩), .string (strOf d)] W fun e w' => e = .returned (.bool m) ∧ Below w7.heap.size w7 w') := fun W hb =>
    (match_is2 d p2 m M2 R7 W (ut_keep (ut_keep TY.out k7) hb) (hGf.out.keep hb)).mono fun e w' h => ⟨h.1, hb.trans (h.2.mono hb.size)⟩
  have K3 : Hid (∀ W, Below w7.heap.size w7 W → Calls Tryd.prog 12 #[.agg #[.bool false, .bool a2, .bool b2, .bool c2, .bool d2, .bool e2, .string (strOf t2), .pointer q2], .string (strOf v)] W fun e w' => e = .returned (.bool m) ∧ Below w7.heap.size w7 w') := fun W hb =>
    (QW.is QX v m M1 W (k7.trans (hb.mono k7.size))).mono fun e w' h => ⟨h.1, hb.trans (h.2.mono hb.size)⟩
  have HS : Hid (∀ W, Below w7.heap.size w7 W → (W.cell? ⟨w.heap.size, 0, none⟩ = some (.bool false) ∧ W.cell? ⟨w.heap.size, 1, none⟩ = some (.bool true) ∧ W.cell? ⟨w.heap.size, 2, none⟩ = some (.bool st) ∧ W.cell? ⟨w.heap.size, 3, none⟩ = some (.bool true) ∧ W.cell? ⟨w.heap.size, 4, none⟩ = some (.bool true)) ∧ (W.cell? ⟨w2.heap.size, 0, none⟩ = some (.bool false) ∧ W.cell? ⟨w2.heap.size, 1, none⟩ = some (.bool a2) ∧ W.cell? ⟨w2.heap.size, 2, none⟩ = some (.bool b2) ∧ W.cell? ⟨w2.heap.size, 3, none⟩ = some (.bool c2) ∧ W.cell? ⟨w2.heap.size, 4, none⟩ = some (.bool d2) ∧ W.cell? ⟨w2.heap.size, 5, none⟩ = some (.bool e2) ∧ W.cell? ⟨w2.heap.size, 6, none⟩ = some (.string (strOf t2)) ∧ W.cell? ⟨w2.heap.size, 7, none⟩ = some (.pointer q2))) := fun W hb => ⟨OYh.out.keep (k7.trans (hb.mono k7.size)), AYh.out.keep (k7.trans (hb.mono k7.size))⟩
  have BW := Lib.hid (BY.out.trans (k7.mono BY.out.size))
  clear OYh AYh BY TY QX HG hGf QY
  go_region_held3 (fun W => (W.cell? ⟨w.heap.size, 0, none⟩ = some (.bool false) ∧ W.cell? ⟨w.heap.size, 1, none⟩ = some (.bool true) ∧ W.cell? ⟨w.heap.size, 2, none⟩ = some (.bool st) ∧ W.cell? ⟨w.heap.size, 3, none⟩ = some (.bool true) ∧ W.cell? ⟨w.heap.size, 4, none⟩ = some (.bool true)) ∧ (W.cell? ⟨w2.heap.size, 0, none⟩ = some (.bool false) ∧ W.cell? ⟨w2.heap.size, 1, none⟩ = some (.bool a2) ∧ W.cell? ⟨w2.heap.size, 2, none⟩ = some (.bool b2) ∧ W.cell? ⟨w2.heap.size, 3, none⟩ = some (.bool c2) ∧ W.cell? ⟨w2.heap.size, 4, none⟩ = some (.bool d2) ∧ W.cell? ⟨w2.heap.size, 5, none⟩ = some (.bool e2) ∧ W.cell? ⟨w2.heap.size, 6, none⟩ = some (.string (strOf t2)) ∧ W.cell? ⟨w2.heap.size, 7, none⟩ = some (.pointer q2)))
    (first | exact HS.out _ (Below.refl _ _).drew | exact HS.out _ (by assumption))
    (first
      | (go_at_call 14; (with_reducible refine (K1.out _ ?_).mono ?_); (first | exact (Below.refl _ _).drew | assumption); rintro e w8 ⟨rfl, hb8⟩)
      | (go_at_call 19; (with_reducible refine (K2.out _ ?_).mono ?_); (first | exact (Below.refl _ _).drew | assumption); rintro e w9 ⟨rfl, hb9⟩)
      | (go_at_call 12; (with_reducible refine (K3.out _ ?_).mono ?_); (first | exact (Below.refl _ _).drew | assumption); rintro e w10 ⟨rfl, hb10⟩))
  all_goals
    go_wp2_with fail
    go_ret
    exact ⟨ret_bool (by simp), BW.out.trans ((show Below w7.heap.size w7 _ by assumption).mono BW.out.size)⟩
set_option maxHeartbeats 8000000 in
theorem fg_pattff (st wd : Bool) (l v : List UInt8) (hl : l.length ≤ 30) (hv : v.length ≤ 30) (hu : Lib.validD l = true) (hs : stopB l = false) (hp : pE l = 0) (w : World) (hT : UT w) :
    Calls Tryd.prog 4 #[.string (strOf l), .string (strOf v), .agg #[.bool false, .bool false, .bool st, .bool true, .bool wd]] w fun e w' => e = .returned (.bool true) ∧ Below w.heap.size w w' := by
  have HV := Lib.hid hu
  have HP := Lib.hid (pE_ok hp)
  have hA : anyQ l true = false := by unfold anyQ; rw [hs]; rfl
  have HST : Hid (stopB l = false ∧ l.length ≤ 10000000) := ⟨hs, by omega⟩
  have HM : MkIs l true true 0 false := ⟨(mkE_pat hu hA).trans hp, by rw [hA]; rfl, by omega⟩
  have hsg := pP_sg l
  have hok := pP_ok l
  have hwl := wholeL_len false false v
  obtain ⟨ps, hps⟩ : ∃ ps, pP l = ps := ⟨_, rfl⟩
  rw [hps] at HP hsg hok
  obtain ⟨p1, hp1⟩ : ∃ p1, marksG false ps = p1 := ⟨_, rfl⟩
  obtain ⟨p2, hp2⟩ : ∃ p2, caseG false p1 = p2 := ⟨_, rfl⟩
  have hs1 : sgGP p1 := by rw [← hp1]; exact marksG_sg false hsg
  have hw2 : p2 = partsQ l false false := by rw [← hp2, ← hp1, whole_stepsG false false hsg]; unfold partsQ; rw [hps]
  have hl1 : p1.length ≤ 200 := by rw [← hp1]; show (ps.map (mapG plainI)).length ≤ 200; rw [List.length_map]; exact hok.2
  have hl2 : p2.length ≤ 200 := by rw [hw2]; unfold partsQ; rw [List.length_map, hps]; exact hok.2
  have hok2 : okGP p2 := by rw [hw2]; exact mapG_ok _ (pP_ok l).1
  obtain ⟨d, hd⟩ : ∃ d, wholeL false false v = d := ⟨_, rfl⟩
  obtain ⟨m, hm⟩ : ∃ m, matchT p2 d = m := ⟨_, rfl⟩
  have M1 : Hid (matQ l false false st true true v = m ∧ v.length ≤ 10000) := ⟨by unfold matQ; rw [hA, hd, ← hw2]; exact hm, by omega⟩
  have M2 : Hid (matchT p2 d = m ∧ d.length ≤ 100000 ∧ p2.length ≤ 200 ∧ okGP p2) := ⟨hm, by rw [← hd]; omega, hl2, hok2⟩
  have L1 : Hid (ofL false false false v = d ∧ v.length ≤ 1000000) := ⟨hd, by omega⟩
  have G1 : Hid (ps.map (mapG plainI) = p1 ∧ ps.length ≤ 200 ∧ ∀ p ∈ ps, 0 ≤ p.2.1 ∧ p.2.1 ≤ 1114111) := ⟨hp1, hok.2, sg_bd hsg⟩
  have G2 : Hid (p1.map (mapG lowI) = p2 ∧ p1.length ≤ 200 ∧ ∀ p ∈ p1, 0 ≤ p.2.1 ∧ p.2.1 ≤ 1114111) := ⟨hp2, hl1, sg_bd hs1⟩
  have hz : ((strOf l).size : Int) ≤ 30 := by rw [size8]; omega
  have hz2 : ((strOf v).size : Int) ≤ 30 := by rw [size8]; omega
  have b0 := (Below.refl w.heap.size w).alloc (Nat.le_refl _) (.cells #[.bool false, .bool false, .bool st, .bool true, .bool wd] 23)
  have HT0 := Lib.hid hT
  have HT := Lib.hid (ut_keep hT b0)
  have O0 := Lib.hid (OptAt.new w false false st true wd)
  have HF := Lib.hid (fun W hb i => OptAt.frz w false false st true wd (W := W) hb i)
  clear hT hu hp hA hsg hok hwl hps hp1 hp2 hs1 hw2 hl1 hl2 hok2 hd hm hs
  go_enter Tryd.func4, Tryd.ntmps4
  go_wp2_with fail
  refine (head_any _ HT.out).mono ?_
  rintro e w1 ⟨rfl, b1⟩
  have O1 := O0.out.keep b1
  have f4 := HF.out w1 b1 4
  have B1 := Lib.hid (b0.trans (b1.mono b0.size))
  have O1h := Lib.hid O1
  obtain ⟨x0, x1, x2, x3, x4⟩ := O1
  clear b0 b1 HF O0 HT
  go_wp2_with fail
  obtain ⟨X, hX⟩ : ∃ X, X = w1.setCell ⟨w.heap.size, 4, none⟩ (.bool true) := ⟨_, rfl⟩
  rw [← hX]
  have OX : Hid (OptAt X w.heap.size false false st true true) := by rw [hX]; exact O1h.out.set4 true
  have BX : Hid (Below w.heap.size w X) := by rw [hX]; exact B1.out.setCell (p := ⟨w.heap.size, 4, none⟩) (Nat.le_refl _) _
  have TX := Lib.hid (ut_keep HT0.out BX.out)
  clear hX O1h B1 x0 x1 x2 x3 x4 f4
  with_reducible refine (make_is false false st true true l 0 false HM _ TX.out).mono ?_
  rintro e w2 ⟨a2, b2, c2, d2, e2, t2, q2, rfl, k2, hQ⟩
  obtain ⟨Y, hY⟩ : ∃ Y, Y = w2.alloc (.cells #[.bool false, .bool a2, .bool b2, .bool c2, .bool d2, .bool e2, .string (strOf t2), .pointer q2] 27) := ⟨_, rfl⟩
  have b2Y : Below w2.heap.size w2 Y := by rw [hY]; exact (Below.refl _ _).alloc (Nat.le_refl _) _
  have OY := OX.out.keep (k2.trans (b2Y.mono k2.size))
  have BY := Lib.hid (BX.out.trans ((k2.trans (b2Y.mono k2.size)).mono BX.out.size))
  have TY := Lib.hid (ut_keep HT0.out BY.out)
  have AY : At8 Y w2.heap.size (.bool false) (.bool a2) (.bool b2) (.bool c2) (.bool d2) (.bool e2) (.string (strOf t2)) (.pointer q2) := by rw [hY]; exact At8.new w2 _ _ _ _ _ _ _ _ _
  have OYh := Lib.hid OY
  have AYh := Lib.hid AY
  have QY := hQ.keep b2Y
  clear OX TX BX k2 b2Y hQ OY AY
  go_wp2_with fail
  rw [← hY]
  clear hY
  with_reducible refine (parse_good l ps HV HP (by omega) _ TY.out).mono ?_
  rintro e w3 ⟨R, rfl, hG, k3⟩
  have HG := Lib.hid (GlobAt.w hG)
  clear hG
  have QX := Lib.hid QY.get
  obtain ⟨x0, x1, x2, x3, x4⟩ := OYh.out.keep k3
  go_wp2_with fail
  with_reducible refine (right_is l true HV _ (ut_keep TY.out k3) (by omega)).mono ?_
  rintro e w4 ⟨rfl, k4⟩
  replace HG := Lib.hid (HG.out.keep k4)
  replace k4 := k3.trans (k4.mono k3.size)
  clear x0 x1 x2 x3 x4
  obtain ⟨x0, x1, x2, x3, x4⟩ := OYh.out.keep k4
  go_wp2_with fail
  with_reducible refine (stop_is l false HST _ (ut_keep TY.out k4)).mono ?_
  rintro e w5 ⟨rfl, k5⟩
  replace HG := Lib.hid (HG.out.keep k5)
  replace k5 := k4.trans (k5.mono k4.size)
  clear x0 x1 x2 x3 x4
  obtain ⟨x0, x1, x2, x3, x4⟩ := OYh.out.keep k5
  go_wp2_with fail
  with_reducible refine (gplain ps p1 G1 R _ HG.out).mono ?_
  rintro e w6 ⟨R6, rfl, hG6, k6⟩
  replace k6 := k5.trans (k6.mono k5.size)
  have HG := Lib.hid hG6
  clear hG6
  clear x0 x1 x2 x3 x4
  obtain ⟨x0, x1, x2, x3, x4⟩ := OYh.out.keep k6
  go_wp2_with fail
  with_reducible refine (glow p1 p2 G2 R6 _ HG.out).mono ?_
  rintro e w7 ⟨R7, rfl, hG7, k7⟩
  replace k7 := k6.trans (k7.mono k6.size)
  have HG := Lib.hid hG7
  clear hG7
  clear x0 x1 x2 x3 x4
  go_wp2_with fail
  have hGf : Hid (GlobW w7 R7 p2) := HG.out
  have K1 : Hid (∀ W, Below w7.heap.size w7 W → Calls Tryd.prog 14 #[.string (strOf v), .agg #[.bool false, .bool false, .bool st, .bool true, .bool true], .bool false] W fun e w' => e = .returned (.string (strOf d)) ∧ Below w7.heap.size w7 w') := fun W hb =>
    (lof_is false false st true true false v d L1 W (ut_keep (ut_keep TY.out k7) hb)).mono fun e w' h => ⟨h.1, hb.trans (h.2.mono hb.size)⟩
  have K2 : Hid (∀ W, Below w7.heap.size w7 W → Calls Tryd.prog 19 #[.pointer (some ⟨R7, 0, none⟩), .string (strOf d)] W fun e w' => e = .returned (.bool m) ∧ Below w7.heap.size w7 w') := fun W hb =>
    (match_is2 d p2 m M2 R7 W (ut_keep (ut_keep TY.out k7) hb) (hGf.out.keep hb)).mono fun e w' h => ⟨h.1, hb.trans (h.2.mono hb.size)⟩
  have K3 : Hid (∀ W, Below w7.heap.size w7 W → Calls Tryd.prog 12 #[.agg #[.bool false, .bool a2, .bool b2, .bool c2, .bool d2, .bool e2, .string (strOf t2), .pointer q2], .string (strOf v)] W fun e w' => e = .returned (.bool m) ∧ Below w7.heap.size w7 w') := fun W hb =>
    (QW.is QX v m M1 W (k7.trans (hb.mono k7.size))).mono fun e w' h => ⟨h.1, hb.trans (h.2.mono hb.size)⟩
  have HS : Hid (∀ W, Below w7.heap.size w7 W → (W.cell? ⟨w.heap.size, 0, none⟩ = some (.bool false) ∧ W.cell? ⟨w.heap.size, 1, none⟩ = some (.bool false) ∧ W.cell? ⟨w.heap.size, 2, none⟩ = some (.bool st) ∧ W.cell? ⟨w.heap.size, 3, none⟩ = some (.bool true) ∧ W.cell? ⟨w.heap.size, 4, none⟩ = some (.bool true)) ∧ (W.cell? ⟨w2.heap.size, 0, none⟩ = some (.bool false) ∧ W.cell? ⟨w2.heap.size, 1, none⟩ = some (.bool a2) ∧ W.cell? ⟨w2.heap.size, 2, none⟩ = some (.bool b2) ∧ W.cell? ⟨w2.heap.size, 3, none⟩ = some (.bool c2) ∧ W.cell? ⟨w2.heap.size, 4, none⟩ = some (.bool d2) ∧ W.cell? ⟨w2.heap.size, 5, none⟩ = some (.bool e2) ∧ W.cell? ⟨w2.heap.size, 6, none⟩ = some (.string (strOf t2)) ∧ W.cell? ⟨w2.heap.size, 7, none⟩ = some (.pointer q2))) := fun W hb => ⟨OYh.out.keep (k7.trans (hb.mono k7.size)), AYh.out.keep (k7.trans (hb.mono k7.size))⟩
  have BW := Lib.hid (BY.out.trans (k7.mono BY.out.size))
  clear OYh AYh BY TY QX HG hGf QY
  go_region_held3 (fun W => (W.cell? ⟨w.heap.size, 0, none⟩ = some (.bool false) ∧ W.cell? ⟨w.heap.size, 1, none⟩ = some (.bool false) ∧ W.cell? ⟨w.heap.size, 2, none⟩ = some (.bool st) ∧ W.cell? ⟨w.heap.size, 3, none⟩ = some (.bool true) ∧ W.cell? ⟨w.heap.size, 4, none⟩ = some (.bool true)) ∧ (W.cell? ⟨w2.heap.size, 0, none⟩ = some (.bool false) ∧ W.cell? ⟨w2.heap.size, 1, none⟩ = some (.bool a2) ∧ W.cell? ⟨w2.heap.size, 2, none⟩ = some (.bool b2) ∧ W.cell? ⟨w2.heap.size, 3, none⟩ = some (.bool c2) ∧ W.cell? ⟨w2.heap.size, 4, none⟩ = some (.bool d2) ∧ W.cell? ⟨w2.heap.size, 5, none⟩ = some (.bool e2) ∧ W.cell? ⟨w2.heap.size, 6, none⟩ = some (.string (strOf t2)) ∧ W.cell? ⟨w2.heap.size, 7, none⟩ = some (.pointer q2)))
    (first | exact HS.out _ (Below.refl _ _).drew | exact HS.out _ (by assumption))
    (first
      | (go_at_call 14; (with_reducible refine (K1.out _ ?_).mono ?_); (first | exact (Below.refl _ _).drew | assumption); rintro e w8 ⟨rfl, hb8⟩)
      | (go_at_call 19; (with_reducible refine (K2.out _ ?_).mono ?_); (first | exact (Below.refl _ _).drew | assumption); rintro e w9 ⟨rfl, hb9⟩)
      | (go_at_call 12; (with_reducible refine (K3.out _ ?_).mono ?_); (first | exact (Below.refl _ _).drew | assumption); rintro e w10 ⟨rfl, hb10⟩))
  all_goals
    go_wp2_with fail
    go_ret
    exact ⟨ret_bool (by simp), BW.out.trans ((show Below w7.heap.size w7 _ by assumption).mono BW.out.size)⟩
set_option maxHeartbeats 8000000 in
theorem fg_patftt (st wd : Bool) (l v : List UInt8) (hl : l.length ≤ 30) (hv : v.length ≤ 30) (hu : Lib.validD l = true) (hp : pE l = 0) (w : World) (hT : UT w) :
    Calls Tryd.prog 4 #[.string (strOf l), .string (strOf v), .agg #[.bool true, .bool true, .bool st, .bool false, .bool wd]] w fun e w' => e = .returned (.bool true) ∧ Below w.heap.size w w' := by
  have HV := Lib.hid hu
  have HP := Lib.hid (pE_ok hp)
  have hA : anyQ l false = false := rfl
  have HM : MkIs l false true 0 false := ⟨(mkE_pat hu hA).trans hp, by rw [hA]; rfl, by omega⟩
  have hsg := pP_sg l
  have hok := pP_ok l
  have hwl := wholeL_len true true v
  obtain ⟨ps, hps⟩ : ∃ ps, pP l = ps := ⟨_, rfl⟩
  rw [hps] at HP hsg hok
  obtain ⟨p1, hp1⟩ : ∃ p1, marksG true ps = p1 := ⟨_, rfl⟩
  obtain ⟨p2, hp2⟩ : ∃ p2, caseG true p1 = p2 := ⟨_, rfl⟩
  have hs1 : sgGP p1 := by rw [← hp1]; exact marksG_sg true hsg
  have hw2 : p2 = partsQ l true true := by rw [← hp2, ← hp1, whole_stepsG true true hsg]; unfold partsQ; rw [hps]
  have hl1 : p1.length ≤ 200 := by rw [← hp1]; exact hok.2
  have hl2 : p2.length ≤ 200 := by rw [hw2]; unfold partsQ; rw [List.length_map, hps]; exact hok.2
  have hok2 : okGP p2 := by rw [hw2]; exact mapG_ok _ (pP_ok l).1
  obtain ⟨d, hd⟩ : ∃ d, wholeL true true v = d := ⟨_, rfl⟩
  obtain ⟨m, hm⟩ : ∃ m, matchT p2 d = m := ⟨_, rfl⟩
  have M1 : Hid (matQ l true true st false true v = m ∧ v.length ≤ 10000) := ⟨by unfold matQ; rw [hA, hd, ← hw2]; exact hm, by omega⟩
  have M2 : Hid (matchT p2 d = m ∧ d.length ≤ 100000 ∧ p2.length ≤ 200 ∧ okGP p2) := ⟨hm, by rw [← hd]; omega, hl2, hok2⟩
  have L1 : Hid (ofL true true false v = d ∧ v.length ≤ 1000000) := ⟨hd, by omega⟩
  have G1 : Hid (ps = p1 ∧ ps.length ≤ 200 ∧ ∀ p ∈ ps, 0 ≤ p.2.1 ∧ p.2.1 ≤ 1114111) := ⟨hp1, hok.2, sg_bd hsg⟩
  have G2 : Hid (p1 = p2 ∧ p1.length ≤ 200 ∧ ∀ p ∈ p1, 0 ≤ p.2.1 ∧ p.2.1 ≤ 1114111) := ⟨hp2, hl1, sg_bd hs1⟩
  have hz : ((strOf l).size : Int) ≤ 30 := by rw [size8]; omega
  have hz2 : ((strOf v).size : Int) ≤ 30 := by rw [size8]; omega
  have b0 := (Below.refl w.heap.size w).alloc (Nat.le_refl _) (.cells #[.bool true, .bool true, .bool st, .bool false, .bool wd] 23)
  have HT0 := Lib.hid hT
  have HT := Lib.hid (ut_keep hT b0)
  have O0 := Lib.hid (OptAt.new w true true st false wd)
  have HF := Lib.hid (fun W hb i => OptAt.frz w true true st false wd (W := W) hb i)
  clear hT hu hp hA hsg hok hwl hps hp1 hp2 hs1 hw2 hl1 hl2 hok2 hd hm
  go_enter Tryd.func4, Tryd.ntmps4
  go_wp2_with fail
  refine (head_any _ HT.out).mono ?_
  rintro e w1 ⟨rfl, b1⟩
  have O1 := O0.out.keep b1
  have f4 := HF.out w1 b1 4
  have B1 := Lib.hid (b0.trans (b1.mono b0.size))
  have O1h := Lib.hid O1
  obtain ⟨x0, x1, x2, x3, x4⟩ := O1
  clear b0 b1 HF O0 HT
  go_wp2_with fail
  obtain ⟨X, hX⟩ : ∃ X, X = w1.setCell ⟨w.heap.size, 4, none⟩ (.bool true) := ⟨_, rfl⟩
  rw [← hX]
  have OX : Hid (OptAt X w.heap.size true true st false true) := by rw [hX]; exact O1h.out.set4 true
  have BX : Hid (Below w.heap.size w X) := by rw [hX]; exact B1.out.setCell (p := ⟨w.heap.size, 4, none⟩) (Nat.le_refl _) _
  have TX := Lib.hid (ut_keep HT0.out BX.out)
  clear hX O1h B1 x0 x1 x2 x3 x4 f4
  with_reducible refine (make_is true true st false true l 0 false HM _ TX.out).mono ?_
  rintro e w2 ⟨a2, b2, c2, d2, e2, t2, q2, rfl, k2, hQ⟩
  obtain ⟨Y, hY⟩ : ∃ Y, Y = w2.alloc (.cells #[.bool false, .bool a2, .bool b2, .bool c2, .bool d2, .bool e2, .string (strOf t2), .pointer q2] 27) := ⟨_, rfl⟩
  have b2Y : Below w2.heap.size w2 Y := by rw [hY]; exact (Below.refl _ _).alloc (Nat.le_refl _) _
  have OY := OX.out.keep (k2.trans (b2Y.mono k2.size))
  have BY := Lib.hid (BX.out.trans ((k2.trans (b2Y.mono k2.size)).mono BX.out.size))
  have TY := Lib.hid (ut_keep HT0.out BY.out)
  have AY : At8 Y w2.heap.size (.bool false) (.bool a2) (.bool b2) (.bool c2) (.bool d2) (.bool e2) (.string (strOf t2)) (.pointer q2) := by rw [hY]; exact At8.new w2 _ _ _ _ _ _ _ _ _
  have OYh := Lib.hid OY
  have AYh := Lib.hid AY
  have QY := hQ.keep b2Y
  clear OX TX BX k2 b2Y hQ OY AY
  go_wp2_with fail
  rw [← hY]
  clear hY
  with_reducible refine (parse_good l ps HV HP (by omega) _ TY.out).mono ?_
  rintro e w3 ⟨R, rfl, hG, k3⟩
  have HG := Lib.hid (GlobAt.w hG)
  clear hG
  have QX := Lib.hid QY.get
  obtain ⟨x0, x1, x2, x3, x4⟩ := OYh.out.keep k3
  go_wp2_with fail
  replace HG : Hid (GlobW w3 R p1) := by have e := G1.out.1; rw [← e]; exact HG.out
  clear x0 x1 x2 x3 x4
  replace HG : Hid (GlobW w3 R p2) := by have e := G2.out.1; rw [← e]; exact HG.out
  have hGf : Hid (GlobW w3 R p2) := HG.out
  have K1 : Hid (∀ W, Below w3.heap.size w3 W → Calls Tryd.prog 14 #[.string (strOf v), .agg #[.bool true, .bool true, .bool st, .bool false, .bool true], .bool false] W fun e w' => e = .returned (.string (strOf d)) ∧ Below w3.heap.size w3 w') := fun W hb =>
    (lof_is true true st false true false v d L1 W (ut_keep (ut_keep TY.out k3) hb)).mono fun e w' h => ⟨h.1, hb.trans (h.2.mono hb.size)⟩
  have K2 : Hid (∀ W, Below w3.heap.size w3 W → Calls Tryd.prog 19 #[.pointer (some ⟨R, 0, none⟩), .string (strOf d)] W fun e w' => e = .returned (.bool m) ∧ Below w3.heap.size w3 w') := fun W hb =>
    (match_is2 d p2 m M2 R W (ut_keep (ut_keep TY.out k3) hb) (hGf.out.keep hb)).mono fun e w' h => ⟨h.1, hb.trans (h.2.mono hb.size)⟩
  have K3 : Hid (∀ W, Below w3.heap.size w3 W → Calls Tryd.prog 12 #[.agg #[.bool false, .bool a2, .bool b2, .bool c2, .bool d2, .bool e2, .string (strOf t2), .pointer q2], .string (strOf v)] W fun e w' => e = .returned (.bool m) ∧ Below w3.heap.size w3 w') := fun W hb =>
    (QW.is QX v m M1 W (k3.trans (hb.mono k3.size))).mono fun e w' h => ⟨h.1, hb.trans (h.2.mono hb.size)⟩
  have HS : Hid (∀ W, Below w3.heap.size w3 W → (W.cell? ⟨w.heap.size, 0, none⟩ = some (.bool true) ∧ W.cell? ⟨w.heap.size, 1, none⟩ = some (.bool true) ∧ W.cell? ⟨w.heap.size, 2, none⟩ = some (.bool st) ∧ W.cell? ⟨w.heap.size, 3, none⟩ = some (.bool false) ∧ W.cell? ⟨w.heap.size, 4, none⟩ = some (.bool true)) ∧ (W.cell? ⟨w2.heap.size, 0, none⟩ = some (.bool false) ∧ W.cell? ⟨w2.heap.size, 1, none⟩ = some (.bool a2) ∧ W.cell? ⟨w2.heap.size, 2, none⟩ = some (.bool b2) ∧ W.cell? ⟨w2.heap.size, 3, none⟩ = some (.bool c2) ∧ W.cell? ⟨w2.heap.size, 4, none⟩ = some (.bool d2) ∧ W.cell? ⟨w2.heap.size, 5, none⟩ = some (.bool e2) ∧ W.cell? ⟨w2.heap.size, 6, none⟩ = some (.string (strOf t2)) ∧ W.cell? ⟨w2.heap.size, 7, none⟩ = some (.pointer q2))) := fun W hb => ⟨OYh.out.keep (k3.trans (hb.mono k3.size)), AYh.out.keep (k3.trans (hb.mono k3.size))⟩
  have BW := Lib.hid (BY.out.trans (k3.mono BY.out.size))
  clear OYh AYh BY TY QX HG hGf QY
  go_region_held3 (fun W => (W.cell? ⟨w.heap.size, 0, none⟩ = some (.bool true) ∧ W.cell? ⟨w.heap.size, 1, none⟩ = some (.bool true) ∧ W.cell? ⟨w.heap.size, 2, none⟩ = some (.bool st) ∧ W.cell? ⟨w.heap.size, 3, none⟩ = some (.bool false) ∧ W.cell? ⟨w.heap.size, 4, none⟩ = some (.bool true)) ∧ (W.cell? ⟨w2.heap.size, 0, none⟩ = some (.bool false) ∧ W.cell? ⟨w2.heap.size, 1, none⟩ = some (.bool a2) ∧ W.cell? ⟨w2.heap.size, 2, none⟩ = some (.bool b2) ∧ W.cell? ⟨w2.heap.size, 3, none⟩ = some (.bool c2) ∧ W.cell? ⟨w2.heap.size, 4, none⟩ = some (.bool d2) ∧ W.cell? ⟨w2.heap.size, 5, none⟩ = some (.bool e2) ∧ W.cell? ⟨w2.heap.size, 6, none⟩ = some (.string (strOf t2)) ∧ W.cell? ⟨w2.heap.size, 7, none⟩ = some (.pointer q2)))
    (first | exact HS.out _ (Below.refl _ _).drew | exact HS.out _ (by assumption))
    (first
      | (go_at_call 14; (with_reducible refine (K1.out _ ?_).mono ?_); (first | exact (Below.refl _ _).drew | assumption); rintro e w8 ⟨rfl, hb8⟩)
      | (go_at_call 19; (with_reducible refine (K2.out _ ?_).mono ?_); (first | exact (Below.refl _ _).drew | assumption); rintro e w9 ⟨rfl, hb9⟩)
      | (go_at_call 12; (with_reducible refine (K3.out _ ?_).mono ?_); (first | exact (Below.refl _ _).drew | assumption); rintro e w10 ⟨rfl, hb10⟩))
  all_goals
    go_wp2_with fail
    go_ret
    exact ⟨ret_bool (by simp), BW.out.trans ((show Below w3.heap.size w3 _ by assumption).mono BW.out.size)⟩
set_option maxHeartbeats 8000000 in
theorem fg_patftf (st wd : Bool) (l v : List UInt8) (hl : l.length ≤ 30) (hv : v.length ≤ 30) (hu : Lib.validD l = true) (hp : pE l = 0) (w : World) (hT : UT w) :
    Calls Tryd.prog 4 #[.string (strOf l), .string (strOf v), .agg #[.bool true, .bool false, .bool st, .bool false, .bool wd]] w fun e w' => e = .returned (.bool true) ∧ Below w.heap.size w w' := by
  have HV := Lib.hid hu
  have HP := Lib.hid (pE_ok hp)
  have hA : anyQ l false = false := rfl
  have HM : MkIs l false true 0 false := ⟨(mkE_pat hu hA).trans hp, by rw [hA]; rfl, by omega⟩
  have hsg := pP_sg l
  have hok := pP_ok l
  have hwl := wholeL_len true false v
  obtain ⟨ps, hps⟩ : ∃ ps, pP l = ps := ⟨_, rfl⟩
  rw [hps] at HP hsg hok
  obtain ⟨p1, hp1⟩ : ∃ p1, marksG false ps = p1 := ⟨_, rfl⟩
  obtain ⟨p2, hp2⟩ : ∃ p2, caseG true p1 = p2 := ⟨_, rfl⟩
  have hs1 : sgGP p1 := by rw [← hp1]; exact marksG_sg false hsg
  have hw2 : p2 = partsQ l true false := by rw [← hp2, ← hp1, whole_stepsG true false hsg]; unfold partsQ; rw [hps]
  have hl1 : p1.length ≤ 200 := by rw [← hp1]; show (ps.map (mapG plainI)).length ≤ 200; rw [List.length_map]; exact hok.2
  have hl2 : p2.length ≤ 200 := by rw [hw2]; unfold partsQ; rw [List.length_map, hps]; exact hok.2
  have hok2 : okGP p2 := by rw [hw2]; exact mapG_ok _ (pP_ok l).1
  obtain ⟨d, hd⟩ : ∃ d, wholeL true false v = d := ⟨_, rfl⟩
  obtain ⟨m, hm⟩ : ∃ m, matchT p2 d = m := ⟨_, rfl⟩
  have M1 : Hid (matQ l true false st false true v = m ∧ v.length ≤ 10000) := ⟨by unfold matQ; rw [hA, hd, ← hw2]; exact hm, by omega⟩
  have M2 : Hid (matchT p2 d = m ∧ d.length ≤ 100000 ∧ p2.length ≤ 200 ∧ okGP p2) := ⟨hm, by rw [← hd]; omega, hl2, hok2⟩
  have L1 : Hid (ofL true false false v = d ∧ v.length ≤ 1000000) := ⟨hd, by omega⟩
  have G1 : Hid (ps.map (mapG plainI) = p1 ∧ ps.length ≤ 200 ∧ ∀ p ∈ ps, 0 ≤ p.2.1 ∧ p.2.1 ≤ 1114111) := ⟨hp1, hok.2, sg_bd hsg⟩
  have G2 : Hid (p1 = p2 ∧ p1.length ≤ 200 ∧ ∀ p ∈ p1, 0 ≤ p.2.1 ∧ p.2.1 ≤ 1114111) := ⟨hp2, hl1, sg_bd hs1⟩
  have hz : ((strOf l).size : Int) ≤ 30 := by rw [size8]; omega
  have hz2 : ((strOf v).size : Int) ≤ 30 := by rw [size8]; omega
  have b0 := (Below.refl w.heap.size w).alloc (Nat.le_refl _) (.cells #[.bool true, .bool false, .bool st, .bool false, .bool wd] 23)
  have HT0 := Lib.hid hT
  have HT := Lib.hid (ut_keep hT b0)
  have O0 := Lib.hid (OptAt.new w true false st false wd)
  have HF := Lib.hid (fun W hb i => OptAt.frz w true false st false wd (W := W) hb i)
  clear hT hu hp hA hsg hok hwl hps hp1 hp2 hs1 hw2 hl1 hl2 hok2 hd hm
  go_enter Tryd.func4, Tryd.ntmps4
  go_wp2_with fail
  refine (head_any _ HT.out).mono ?_
  rintro e w1 ⟨rfl, b1⟩
  have O1 := O0.out.keep b1
  have f4 := HF.out w1 b1 4
  have B1 := Lib.hid (b0.trans (b1.mono b0.size))
  have O1h := Lib.hid O1
  obtain ⟨x0, x1, x2, x3, x4⟩ := O1
  clear b0 b1 HF O0 HT
  go_wp2_with fail
  obtain ⟨X, hX⟩ : ∃ X, X = w1.setCell ⟨w.heap.size, 4, none⟩ (.bool true) := ⟨_, rfl⟩
  rw [← hX]
  have OX : Hid (OptAt X w.heap.size true false st false true) := by rw [hX]; exact O1h.out.set4 true
  have BX : Hid (Below w.heap.size w X) := by rw [hX]; exact B1.out.setCell (p := ⟨w.heap.size, 4, none⟩) (Nat.le_refl _) _
  have TX := Lib.hid (ut_keep HT0.out BX.out)
  clear hX O1h B1 x0 x1 x2 x3 x4 f4
  with_reducible refine (make_is true false st false true l 0 false HM _ TX.out).mono ?_
  rintro e w2 ⟨a2, b2, c2, d2, e2, t2, q2, rfl, k2, hQ⟩
  obtain ⟨Y, hY⟩ : ∃ Y, Y = w2.alloc (.cells #[.bool false, .bool a2, .bool b2, .bool c2, .bool d2, .bool e2, .string (strOf t2), .pointer q2] 27) := ⟨_, rfl⟩
  have b2Y : Below w2.heap.size w2 Y := by rw [hY]; exact (Below.refl _ _).alloc (Nat.le_refl _) _
  have OY := OX.out.keep (k2.trans (b2Y.mono k2.size))
  have BY := Lib.hid (BX.out.trans ((k2.trans (b2Y.mono k2.size)).mono BX.out.size))
  have TY := Lib.hid (ut_keep HT0.out BY.out)
  have AY : At8 Y w2.heap.size (.bool false) (.bool a2) (.bool b2) (.bool c2) (.bool d2) (.bool e2) (.string (strOf t2)) (.pointer q2) := by rw [hY]; exact At8.new w2 _ _ _ _ _ _ _ _ _
  have OYh := Lib.hid OY
  have AYh := Lib.hid AY
  have QY := hQ.keep b2Y
  clear OX TX BX k2 b2Y hQ OY AY
  go_wp2_with fail
  rw [← hY]
  clear hY
  with_reducible refine (parse_good l ps HV HP (by omega) _ TY.out).mono ?_
  rintro e w3 ⟨R, rfl, hG, k3⟩
  have HG := Lib.hid (GlobAt.w hG)
  clear hG
  have QX := Lib.hid QY.get
  obtain ⟨x0, x1, x2, x3, x4⟩ := OYh.out.keep k3
  go_wp2_with fail
  with_reducible refine (gplain ps p1 G1 R _ HG.out).mono ?_
  rintro e w6 ⟨R6, rfl, hG6, k6⟩
  replace k6 := k3.trans (k6.mono k3.size)
  have HG := Lib.hid hG6
  clear hG6
  clear x0 x1 x2 x3 x4
  obtain ⟨x0, x1, x2, x3, x4⟩ := OYh.out.keep k6
  go_wp2_with fail
  clear x0 x1 x2 x3 x4
  replace HG : Hid (GlobW w6 R6 p2) := by have e := G2.out.1; rw [← e]; exact HG.out
  have hGf : Hid (GlobW w6 R6 p2) := HG.out
  have K1 : Hid (∀ W, Below w6.heap.size w6 W → Calls Tryd.prog 14 #[.string (strOf v), .agg #[.bool true, .bool false, .bool st, .bool false, .bool true], .bool false] W fun e w' => e = .returned (.string (strOf d)) ∧ Below w6.heap.size w6 w') := fun W hb =>
    (lof_is true false st false true false v d L1 W (ut_keep (ut_keep TY.out k6) hb)).mono fun e w' h => ⟨h.1, hb.trans (h.2.mono hb.size)⟩
  have K2 : Hid (∀ W, Below w6.heap.size w6 W → Calls Tryd.prog 19 #[.pointer (some ⟨R6, 0, none⟩), .string (strOf d)] W fun e w' => e = .returned (.bool m) ∧ Below w6.heap.size w6 w') := fun W hb =>
    (match_is2 d p2 m M2 R6 W (ut_keep (ut_keep TY.out k6) hb) (hGf.out.keep hb)).mono fun e w' h => ⟨h.1, hb.trans (h.2.mono hb.size)⟩
  have K3 : Hid (∀ W, Below w6.heap.size w6 W → Calls Tryd.prog 12 #[.agg #[.bool false, .bool a2, .bool b2, .bool c2, .bool d2, .bool e2, .string (strOf t2), .pointer q2], .string (strOf v)] W fun e w' => e = .returned (.bool m) ∧ Below w6.heap.size w6 w') := fun W hb =>
    (QW.is QX v m M1 W (k6.trans (hb.mono k6.size))).mono fun e w' h => ⟨h.1, hb.trans (h.2.mono hb.size)⟩
  have HS : Hid (∀ W, Below w6.heap.size w6 W → (W.cell? ⟨w.heap.size, 0, none⟩ = some (.bool true) ∧ W.cell? ⟨w.heap.size, 1, none⟩ = some (.bool false) ∧ W.cell? ⟨w.heap.size, 2, none⟩ = some (.bool st) ∧ W.cell? ⟨w.heap.size, 3, none⟩ = some (.bool false) ∧ W.cell? ⟨w.heap.size, 4, none⟩ = some (.bool true)) ∧ (W.cell? ⟨w2.heap.size, 0, none⟩ = some (.bool false) ∧ W.cell? ⟨w2.heap.size, 1, none⟩ = some (.bool a2) ∧ W.cell? ⟨w2.heap.size, 2, none⟩ = some (.bool b2) ∧ W.cell? ⟨w2.heap.size, 3, none⟩ = some (.bool c2) ∧ W.cell? ⟨w2.heap.size, 4, none⟩ = some (.bool d2) ∧ W.cell? ⟨w2.heap.size, 5, none⟩ = some (.bool e2) ∧ W.cell? ⟨w2.heap.size, 6, none⟩ = some (.string (strOf t2)) ∧ W.cell? ⟨w2.heap.size, 7, none⟩ = some (.pointer q2))) := fun W hb => ⟨OYh.out.keep (k6.trans (hb.mono k6.size)), AYh.out.keep (k6.trans (hb.mono k6.size))⟩
  have BW := Lib.hid (BY.out.trans (k6.mono BY.out.size))
  clear OYh AYh BY TY QX HG hGf QY
  go_region_held3 (fun W => (W.cell? ⟨w.heap.size, 0, none⟩ = some (.bool true) ∧ W.cell? ⟨w.heap.size, 1, none⟩ = some (.bool false) ∧ W.cell? ⟨w.heap.size, 2, none⟩ = some (.bool st) ∧ W.cell? ⟨w.heap.size, 3, none⟩ = some (.bool false) ∧ W.cell? ⟨w.heap.size, 4, none⟩ = some (.bool true)) ∧ (W.cell? ⟨w2.heap.size, 0, none⟩ = some (.bool false) ∧ W.cell? ⟨w2.heap.size, 1, none⟩ = some (.bool a2) ∧ W.cell? ⟨w2.heap.size, 2, none⟩ = some (.bool b2) ∧ W.cell? ⟨w2.heap.size, 3, none⟩ = some (.bool c2) ∧ W.cell? ⟨w2.heap.size, 4, none⟩ = some (.bool d2) ∧ W.cell? ⟨w2.heap.size, 5, none⟩ = some (.bool e2) ∧ W.cell? ⟨w2.heap.size, 6, none⟩ = some (.string (strOf t2)) ∧ W.cell? ⟨w2.heap.size, 7, none⟩ = some (.pointer q2)))
    (first | exact HS.out _ (Below.refl _ _).drew | exact HS.out _ (by assumption))
    (first
      | (go_at_call 14; (with_reducible refine (K1.out _ ?_).mono ?_); (first | exact (Below.refl _ _).drew | assumption); rintro e w8 ⟨rfl, hb8⟩)
      | (go_at_call 19; (with_reducible refine (K2.out _ ?_).mono ?_); (first | exact (Below.refl _ _).drew | assumption); rintro e w9 ⟨rfl, hb9⟩)
      | (go_at_call 12; (with_reducible refine (K3.out _ ?_).mono ?_); (first | exact (Below.refl _ _).drew | assumption); rintro e w10 ⟨rfl, hb10⟩))
  all_goals
    go_wp2_with fail
    go_ret
    exact ⟨ret_bool (by simp), BW.out.trans ((show Below w6.heap.size w6 _ by assumption).mono BW.out.size)⟩
set_option maxHeartbeats 8000000 in
theorem fg_patfft (st wd : Bool) (l v : List UInt8) (hl : l.length ≤ 30) (hv : v.length ≤ 30) (hu : Lib.validD l = true) (hp : pE l = 0) (w : World) (hT : UT w) :
    Calls Tryd.prog 4 #[.string (strOf l), .string (strOf v), .agg #[.bool false, .bool true, .bool st, .bool false, .bool wd]] w fun e w' => e = .returned (.bool true) ∧ Below w.heap.size w w' := by
  have HV := Lib.hid hu
  have HP := Lib.hid (pE_ok hp)
  have hA : anyQ l false = false := rfl
  have HM : MkIs l false true 0 false := ⟨(mkE_pat hu hA).trans hp, by rw [hA]; rfl, by omega⟩
  have hsg := pP_sg l
  have hok := pP_ok l
  have hwl := wholeL_len false true v
  obtain ⟨ps, hps⟩ : ∃ ps, pP l = ps := ⟨_, rfl⟩
  rw [hps] at HP hsg hok
  obtain ⟨p1, hp1⟩ : ∃ p1, marksG true ps = p1 := ⟨_, rfl⟩
  obtain ⟨p2, hp2⟩ : ∃ p2, caseG false p1 = p2 := ⟨_, rfl⟩
  have hs1 : sgGP p1 := by rw [← hp1]; exact marksG_sg true hsg
  have hw2 : p2 = partsQ l false true := by rw [← hp2, ← hp1, whole_stepsG false true hsg]; unfold partsQ; rw [hps]
  have hl1 : p1.length ≤ 200 := by rw [← hp1]; exact hok.2
  have hl2 : p2.length ≤ 200 := by rw [hw2]; unfold partsQ; rw [List.length_map, hps]; exact hok.2
  have hok2 : okGP p2 := by rw [hw2]; exact mapG_ok _ (pP_ok l).1
  obtain ⟨d, hd⟩ : ∃ d, wholeL false true v = d := ⟨_, rfl⟩
  obtain ⟨m, hm⟩ : ∃ m, matchT p2 d = m := ⟨_, rfl⟩
  have M1 : Hid (matQ l false true st false true v = m ∧ v.length ≤ 10000) := ⟨by unfold matQ; rw [hA, hd, ← hw2]; exact hm, by omega⟩
  have M2 : Hid (matchT p2 d = m ∧ d.length ≤ 100000 ∧ p2.length ≤ 200 ∧ okGP p2) := ⟨hm, by rw [← hd]; omega, hl2, hok2⟩
  have L1 : Hid (ofL false true false v = d ∧ v.length ≤ 1000000) := ⟨hd, by omega⟩
  have G1 : Hid (ps = p1 ∧ ps.length ≤ 200 ∧ ∀ p ∈ ps, 0 ≤ p.2.1 ∧ p.2.1 ≤ 1114111) := ⟨hp1, hok.2, sg_bd hsg⟩
  have G2 : Hid (p1.map (mapG lowI) = p2 ∧ p1.length ≤ 200 ∧ ∀ p ∈ p1, 0 ≤ p.2.1 ∧ p.2.1 ≤ 1114111) := ⟨hp2, hl1, sg_bd hs1⟩
  have hz : ((strOf l).size : Int) ≤ 30 := by rw [size8]; omega
  have hz2 : ((strOf v).size : Int) ≤ 30 := by rw [size8]; omega
  have b0 := (Below.refl w.heap.size w).alloc (Nat.le_refl _) (.cells #[.bool false, .bool true, .bool st, .bool false, .bool wd] 23)
  have HT0 := Lib.hid hT
  have HT := Lib.hid (ut_keep hT b0)
  have O0 := Lib.hid (OptAt.new w false true st false wd)
  have HF := Lib.hid (fun W hb i => OptAt.frz w false true st false wd (W := W) hb i)
  clear hT hu hp hA hsg hok hwl hps hp1 hp2 hs1 hw2 hl1 hl2 hok2 hd hm
  go_enter Tryd.func4, Tryd.ntmps4
  go_wp2_with fail
  refine (head_any _ HT.out).mono ?_
  rintro e w1 ⟨rfl, b1⟩
  have O1 := O0.out.keep b1
  have f4 := HF.out w1 b1 4
  have B1 := Lib.hid (b0.trans (b1.mono b0.size))
  have O1h := Lib.hid O1
  obtain ⟨x0, x1, x2, x3, x4⟩ := O1
  clear b0 b1 HF O0 HT
  go_wp2_with fail
  obtain ⟨X, hX⟩ : ∃ X, X = w1.setCell ⟨w.heap.size, 4, none⟩ (.bool true) := ⟨_, rfl⟩
  rw [← hX]
  have OX : Hid (OptAt X w.heap.size false true st false true) := by rw [hX]; exact O1h.out.set4 true
  have BX : Hid (Below w.heap.size w X) := by rw [hX]; exact B1.out.setCell (p := ⟨w.heap.size, 4, none⟩) (Nat.le_refl _) _
  have TX := Lib.hid (ut_keep HT0.out BX.out)
  clear hX O1h B1 x0 x1 x2 x3 x4 f4
  with_reducible refine (make_is false true st false true l 0 false HM _ TX.out).mono ?_
  rintro e w2 ⟨a2, b2, c2, d2, e2, t2, q2, rfl, k2, hQ⟩
  obtain ⟨Y, hY⟩ : ∃ Y, Y = w2.alloc (.cells #[.bool false, .bool a2, .bool b2, .bool c2, .bool d2, .bool e2, .string (strOf t2), .pointer q2] 27) := ⟨_, rfl⟩
  have b2Y : Below w2.heap.size w2 Y := by rw [hY]; exact (Below.refl _ _).alloc (Nat.le_refl _) _
  have OY := OX.out.keep (k2.trans (b2Y.mono k2.size))
  have BY := Lib.hid (BX.out.trans ((k2.trans (b2Y.mono k2.size)).mono BX.out.size))
  have TY := Lib.hid (ut_keep HT0.out BY.out)
  have AY : At8 Y w2.heap.size (.bool false) (.bool a2) (.bool b2) (.bool c2) (.bool d2) (.bool e2) (.string (strOf t2)) (.pointer q2) := by rw [hY]; exact At8.new w2 _ _ _ _ _ _ _ _ _
  have OYh := Lib.hid OY
  have AYh := Lib.hid AY
  have QY := hQ.keep b2Y
  clear OX TX BX k2 b2Y hQ OY AY
  go_wp2_with fail
  rw [← hY]
  clear hY
  with_reducible refine (parse_good l ps HV HP (by omega) _ TY.out).mono ?_
  rintro e w3 ⟨R, rfl, hG, k3⟩
  have HG := Lib.hid (GlobAt.w hG)
  clear hG
  have QX := Lib.hid QY.get
  obtain ⟨x0, x1, x2, x3, x4⟩ := OYh.out.keep k3
  go_wp2_with fail
  replace HG : Hid (GlobW w3 R p1) := by have e := G1.out.1; rw [← e]; exact HG.out
  with_reducible refine (glow p1 p2 G2 R _ HG.out).mono ?_
  rintro e w7 ⟨R7, rfl, hG7, k7⟩
  replace k7 := k3.trans (k7.mono k3.size)
  have HG := Lib.hid hG7
  clear hG7
  clear x0 x1 x2 x3 x4
  go_wp2_with fail
  have hGf : Hid (GlobW w7 R7 p2) := HG.out
  have K1 : Hid (∀ W, Below w7.heap.size w7 W → Calls Tryd.prog 14 #[.string (strOf v), .agg #[.bool false, .bool true, .bool st, .bool false, .bool true], .bool false] W fun e w' => e = .returned (.string (strOf d)) ∧ Below w7.heap.size w7 w') := fun W hb =>
    (lof_is false true st false true false v d L1 W (ut_keep (ut_keep TY.out k7) hb)).mono fun e w' h => ⟨h.1, hb.trans (h.2.mono hb.size)⟩
  have K2 : Hid (∀ W, Below w7.heap.size w7 W → Calls Tryd.prog 19 #[.pointer (some ⟨R7, 0, none⟩), .string (strOf d)] W fun e w' => e = .returned (.bool m) ∧ Below w7.heap.size w7 w') := fun W hb =>
    (match_is2 d p2 m M2 R7 W (ut_keep (ut_keep TY.out k7) hb) (hGf.out.keep hb)).mono fun e w' h => ⟨h.1, hb.trans (h.2.mono hb.size)⟩
  have K3 : Hid (∀ W, Below w7.heap.size w7 W → Calls Tryd.prog 12 #[.agg #[.bool false, .bool a2, .bool b2, .bool c2, .bool d2, .bool e2, .string (strOf t2), .pointer q2], .string (strOf v)] W fun e w' => e = .returned (.bool m) ∧ Below w7.heap.size w7 w') := fun W hb =>
    (QW.is QX v m M1 W (k7.trans (hb.mono k7.size))).mono fun e w' h => ⟨h.1, hb.trans (h.2.mono hb.size)⟩
  have HS : Hid (∀ W, Below w7.heap.size w7 W → (W.cell? ⟨w.heap.size, 0, none⟩ = some (.bool false) ∧ W.cell? ⟨w.heap.size, 1, none⟩ = some (.bool true) ∧ W.cell? ⟨w.heap.size, 2, none⟩ = some (.bool st) ∧ W.cell? ⟨w.heap.size, 3, none⟩ = some (.bool false) ∧ W.cell? ⟨w.heap.size, 4, none⟩ = some (.bool true)) ∧ (W.cell? ⟨w2.heap.size, 0, none⟩ = some (.bool false) ∧ W.cell? ⟨w2.heap.size, 1, none⟩ = some (.bool a2) ∧ W.cell? ⟨w2.heap.size, 2, none⟩ = some (.bool b2) ∧ W.cell? ⟨w2.heap.size, 3, none⟩ = some (.bool c2) ∧ W.cell? ⟨w2.heap.size, 4, none⟩ = some (.bool d2) ∧ W.cell? ⟨w2.heap.size, 5, none⟩ = some (.bool e2) ∧ W.cell? ⟨w2.heap.size, 6, none⟩ = some (.string (strOf t2)) ∧ W.cell? ⟨w2.heap.size, 7, none⟩ = some (.pointer q2))) := fun W hb => ⟨OYh.out.keep (k7.trans (hb.mono k7.size)), AYh.out.keep (k7.trans (hb.mono k7.size))⟩
  have BW := Lib.hid (BY.out.trans (k7.mono BY.out.size))
  clear OYh AYh BY TY QX HG hGf QY
  go_region_held3 (fun W => (W.cell? ⟨w.heap.size, 0, none⟩ = some (.bool false) ∧ W.cell? ⟨w.heap.size, 1, none⟩ = some (.bool true) ∧ W.cell? ⟨w.heap.size, 2, none⟩ = some (.bool st) ∧ W.cell? ⟨w.heap.size, 3, none⟩ = some (.bool false) ∧ W.cell? ⟨w.heap.size, 4, none⟩ = some (.bool true)) ∧ (W.cell? ⟨w2.heap.size, 0, none⟩ = some (.bool false) ∧ W.cell? ⟨w2.heap.size, 1, none⟩ = some (.bool a2) ∧ W.cell? ⟨w2.heap.size, 2, none⟩ = some (.bool b2) ∧ W.cell? ⟨w2.heap.size, 3, none⟩ = some (.bool c2) ∧ W.cell? ⟨w2.heap.size, 4, none⟩ = some (.bool d2) ∧ W.cell? ⟨w2.heap.size, 5, none⟩ = some (.bool e2) ∧ W.cell? ⟨w2.heap.size, 6, none⟩ = some (.string (strOf t2)) ∧ W.cell? ⟨w2.heap.size, 7, none⟩ = some (.pointer q2)))
    (first | exact HS.out _ (Below.refl _ _).drew | exact HS.out _ (by assumption))
    (first
      | (go_at_call 14; (with_reducible refine (K1.out _ ?_).mono ?_); (first | exact (Below.refl _ _).drew | assumption); rintro e w8 ⟨rfl, hb8⟩)
      | (go_at_call 19; (with_reducible refine (K2.out _ ?_).mono ?_); (first | exact (Below.refl _ _).drew | assumption); rintro e w9 ⟨rfl, hb9⟩)
      | (go_at_call 12; (with_reducible refine (K3.out _ ?_).mono ?_); (first | exact (Below.refl _ _).drew | assumption); rintro e w10 ⟨rfl, hb10⟩))
  all_goals
    go_wp2_with fail
    go_ret
    exact ⟨ret_bool (by simp), BW.out.trans ((show Below w7.heap.size w7 _ by assumption).mono BW.out.size)⟩
set_option maxHeartbeats 8000000 in
theorem fg_patfff (st wd : Bool) (l v : List UInt8) (hl : l.length ≤ 30) (hv : v.length ≤ 30) (hu : Lib.validD l = true) (hp : pE l = 0) (w : World) (hT : UT w) :
    Calls Tryd.prog 4 #[.string (strOf l), .string (strOf v), .agg #[.bool false, .bool false, .bool st, .bool false, .bool wd]] w fun e w' => e = .returned (.bool true) ∧ Below w.heap.size w w' := by
  have HV := Lib.hid hu
  have HP := Lib.hid (pE_ok hp)
  have hA : anyQ l false = false := rfl
  have HM : MkIs l false true 0 false := ⟨(mkE_pat hu hA).trans hp, by rw [hA]; rfl, by omega⟩
  have hsg := pP_sg l
  have hok := pP_ok l
  have hwl := wholeL_len false false v
  obtain ⟨ps, hps⟩ : ∃ ps, pP l = ps := ⟨_, rfl⟩
  rw [hps] at HP hsg hok
  obtain ⟨p1, hp1⟩ : ∃ p1, marksG false ps = p1 := ⟨_, rfl⟩
  obtain ⟨p2, hp2⟩ : ∃ p2, caseG false p1 = p2 := ⟨_, rfl⟩
  have hs1 : sgGP p1 := by rw [← hp1]; exact marksG_sg false hsg
  have hw2 : p2 = partsQ l false false := by rw [← hp2, ← hp1, whole_stepsG false false hsg]; unfold partsQ; rw [hps]
  have hl1 : p1.length ≤ 200 := by rw [← hp1]; show (ps.map (mapG plainI)).length ≤ 200; rw [List.length_map]; exact hok.2
  have hl2 : p2.length ≤ 200 := by rw [hw2]; unfold partsQ; rw [List.length_map, hps]; exact hok.2
  have hok2 : okGP p2 := by rw [hw2]; exact mapG_ok _ (pP_ok l).1
  obtain ⟨d, hd⟩ : ∃ d, wholeL false false v = d := ⟨_, rfl⟩
  obtain ⟨m, hm⟩ : ∃ m, matchT p2 d = m := ⟨_, rfl⟩
  have M1 : Hid (matQ l false false st false true v = m ∧ v.length ≤ 10000) := ⟨by unfold matQ; rw [hA, hd, ← hw2]; exact hm, by omega⟩
  have M2 : Hid (matchT p2 d = m ∧ d.length ≤ 100000 ∧ p2.length ≤ 200 ∧ okGP p2) := ⟨hm, by rw [← hd]; omega, hl2, hok2⟩
  have L1 : Hid (ofL false false false v = d ∧ v.length ≤ 1000000) := ⟨hd, by omega⟩
  have G1 : Hid (ps.map (mapG plainI) = p1 ∧ ps.length ≤ 200 ∧ ∀ p ∈ ps, 0 ≤ p.2.1 ∧ p.2.1 ≤ 1114111) := ⟨hp1, hok.2, sg_bd hsg⟩
  have G2 : Hid (p1.map (mapG lowI) = p2 ∧ p1.length ≤ 200 ∧ ∀ p ∈ p1, 0 ≤ p.2.1 ∧ p.2.1 ≤ 1114111) := ⟨hp2, hl1, sg_bd hs1⟩
  have hz : ((strOf l).size : Int) ≤ 30 := by rw [size8]; omega
  have hz2 : ((strOf v).size : Int) ≤ 30 := by rw [size8]; omega
  have b0 := (Below.refl w.heap.size w).alloc (Nat.le_refl _) (.cells #[.bool false, .bool false, .bool st, .bool false, .bool wd] 23)
  have HT0 := Lib.hid hT
  have HT := Lib.hid (ut_keep hT b0)
  have O0 := Lib.hid (OptAt.new w false false st false wd)
  have HF := Lib.hid (fun W hb i => OptAt.frz w false false st false wd (W := W) hb i)
  clear hT hu hp hA hsg hok hwl hps hp1 hp2 hs1 hw2 hl1 hl2 hok2 hd hm
  go_enter Tryd.func4, Tryd.ntmps4
  go_wp2_with fail
  refine (head_any _ HT.out).mono ?_
  rintro e w1 ⟨rfl, b1⟩
  have O1 := O0.out.keep b1
  have f4 := HF.out w1 b1 4
  have B1 := Lib.hid (b0.trans (b1.mono b0.size))
  have O1h := Lib.hid O1
  obtain ⟨x0, x1, x2, x3, x4⟩ := O1
  clear b0 b1 HF O0 HT
  go_wp2_with fail
  obtain ⟨X, hX⟩ : ∃ X, X = w1.setCell ⟨w.heap.size, 4, none⟩ (.bool true) := ⟨_, rfl⟩
  rw [← hX]
  have OX : Hid (OptAt X w.heap.size false false st false true) := by rw [hX]; exact O1h.out.set4 true
  have BX : Hid (Below w.heap.size w X) := by rw [hX]; exact B1.out.setCell (p := ⟨w.heap.size, 4, none⟩) (Nat.le_refl _) _
  have TX := Lib.hid (ut_keep HT0.out BX.out)
  clear hX O1h B1 x0 x1 x2 x3 x4 f4
  with_reducible refine (make_is false false st false true l 0 false HM _ TX.out).mono ?_
  rintro e w2 ⟨a2, b2, c2, d2, e2, t2, q2, rfl, k2, hQ⟩
  obtain ⟨Y, hY⟩ : ∃ Y, Y = w2.alloc (.cells #[.bool false, .bool a2, .bool b2, .bool c2, .bool d2, .bool e2, .string (strOf t2), .pointer q2] 27) := ⟨_, rfl⟩
  have b2Y : Below w2.heap.size w2 Y := by rw [hY]; exact (Below.refl _ _).alloc (Nat.le_refl _) _
  have OY := OX.out.keep (k2.trans (b2Y.mono k2.size))
  have BY := Lib.hid (BX.out.trans ((k2.trans (b2Y.mono k2.size)).mono BX.out.size))
  have TY := Lib.hid (ut_keep HT0.out BY.out)
  have AY : At8 Y w2.heap.size (.bool false) (.bool a2) (.bool b2) (.bool c2) (.bool d2) (.bool e2) (.string (strOf t2)) (.pointer q2) := by rw [hY]; exact At8.new w2 _ _ _ _ _ _ _ _ _
  have OYh := Lib.hid OY
  have AYh := Lib.hid AY
  have QY := hQ.keep b2Y
  clear OX TX BX k2 b2Y hQ OY AY
  go_wp2_with fail
  rw [← hY]
  clear hY
  with_reducible refine (parse_good l ps HV HP (by omega) _ TY.out).mono ?_
  rintro e w3 ⟨R, rfl, hG, k3⟩
  have HG := Lib.hid (GlobAt.w hG)
  clear hG
  have QX := Lib.hid QY.get
  obtain ⟨x0, x1, x2, x3, x4⟩ := OYh.out.keep k3
  go_wp2_with fail
  with_reducible refine (gplain ps p1 G1 R _ HG.out).mono ?_
  rintro e w6 ⟨R6, rfl, hG6, k6⟩
  replace k6 := k3.trans (k6.mono k3.size)
  have HG := Lib.hid hG6
  clear hG6
  clear x0 x1 x2 x3 x4
  obtain ⟨x0, x1, x2, x3, x4⟩ := OYh.out.keep k6
  go_wp2_with fail
  with_reducible refine (glow p1 p2 G2 R6 _ HG.out).mono ?_
  rintro e w7 ⟨R7, rfl, hG7, k7⟩
  replace k7 := k6.trans (k7.mono k6.size)
  have HG := Lib.hid hG7
  clear hG7
  clear x0 x1 x2 x3 x4
  go_wp2_with fail
  have hGf : Hid (GlobW w7 R7 p2) := HG.out
  have K1 : Hid (∀ W, Below w7.heap.size w7 W → Calls Tryd.prog 14 #[.string (strOf v), .agg #[.bool false, .bool false, .bool st, .bool false, .bool true], .bool false] W fun e w' => e = .returned (.string (strOf d)) ∧ Below w7.heap.size w7 w') := fun W hb =>
    (lof_is false false st false true false v d L1 W (ut_keep (ut_keep TY.out k7) hb)).mono fun e w' h => ⟨h.1, hb.trans (h.2.mono hb.size)⟩
  have K2 : Hid (∀ W, Below w7.heap.size w7 W → Calls Tryd.prog 19 #[.pointer (some ⟨R7, 0, none⟩), .string (strOf d)] W fun e w' => e = .returned (.bool m) ∧ Below w7.heap.size w7 w') := fun W hb =>
    (match_is2 d p2 m M2 R7 W (ut_keep (ut_keep TY.out k7) hb) (hGf.out.keep hb)).mono fun e w' h => ⟨h.1, hb.trans (h.2.mono hb.size)⟩
  have K3 : Hid (∀ W, Below w7.heap.size w7 W → Calls Tryd.prog 12 #[.agg #[.bool false, .bool a2, .bool b2, .bool c2, .bool d2, .bool e2, .string (strOf t2), .pointer q2], .string (strOf v)] W fun e w' => e = .returned (.bool m) ∧ Below w7.heap.size w7 w') := fun W hb =>
    (QW.is QX v m M1 W (k7.trans (hb.mono k7.size))).mono fun e w' h => ⟨h.1, hb.trans (h.2.mono hb.size)⟩
  have HS : Hid (∀ W, Below w7.heap.size w7 W → (W.cell? ⟨w.heap.size, 0, none⟩ = some (.bool false) ∧ W.cell? ⟨w.heap.size, 1, none⟩ = some (.bool false) ∧ W.cell? ⟨w.heap.size, 2, none⟩ = some (.bool st) ∧ W.cell? ⟨w.heap.size, 3, none⟩ = some (.bool false) ∧ W.cell? ⟨w.heap.size, 4, none⟩ = some (.bool true)) ∧ (W.cell? ⟨w2.heap.size, 0, none⟩ = some (.bool false) ∧ W.cell? ⟨w2.heap.size, 1, none⟩ = some (.bool a2) ∧ W.cell? ⟨w2.heap.size, 2, none⟩ = some (.bool b2) ∧ W.cell? ⟨w2.heap.size, 3, none⟩ = some (.bool c2) ∧ W.cell? ⟨w2.heap.size, 4, none⟩ = some (.bool d2) ∧ W.cell? ⟨w2.heap.size, 5, none⟩ = some (.bool e2) ∧ W.cell? ⟨w2.heap.size, 6, none⟩ = some (.string (strOf t2)) ∧ W.cell? ⟨w2.heap.size, 7, none⟩ = some (.pointer q2))) := fun W hb => ⟨OYh.out.keep (k7.trans (hb.mono k7.size)), AYh.out.keep (k7.trans (hb.mono k7.size))⟩
  have BW := Lib.hid (BY.out.trans (k7.mono BY.out.size))
  clear OYh AYh BY TY QX HG hGf QY
  go_region_held3 (fun W => (W.cell? ⟨w.heap.size, 0, none⟩ = some (.bool false) ∧ W.cell? ⟨w.heap.size, 1, none⟩ = some (.bool false) ∧ W.cell? ⟨w.heap.size, 2, none⟩ = some (.bool st) ∧ W.cell? ⟨w.heap.size, 3, none⟩ = some (.bool false) ∧ W.cell? ⟨w.heap.size, 4, none⟩ = some (.bool true)) ∧ (W.cell? ⟨w2.heap.size, 0, none⟩ = some (.bool false) ∧ W.cell? ⟨w2.heap.size, 1, none⟩ = some (.bool a2) ∧ W.cell? ⟨w2.heap.size, 2, none⟩ = some (.bool b2) ∧ W.cell? ⟨w2.heap.size, 3, none⟩ = some (.bool c2) ∧ W.cell? ⟨w2.heap.size, 4, none⟩ = some (.bool d2) ∧ W.cell? ⟨w2.heap.size, 5, none⟩ = some (.bool e2) ∧ W.cell? ⟨w2.heap.size, 6, none⟩ = some (.string (strOf t2)) ∧ W.cell? ⟨w2.heap.size, 7, none⟩ = some (.pointer q2)))
    (first | exact HS.out _ (Below.refl _ _).drew | exact HS.out _ (by assumption))
    (first
      | (go_at_call 14; (with_reducible refine (K1.out _ ?_).mono ?_); (first | exact (Below.refl _ _).drew | assumption); rintro e w8 ⟨rfl, hb8⟩)
      | (go_at_call 19; (with_reducible refine (K2.out _ ?_).mono ?_); (first | exact (Below.refl _ _).drew | assumption); rintro e w9 ⟨rfl, hb9⟩)
      | (go_at_call 12; (with_reducible refine (K3.out _ ?_).mono ?_); (first | exact (Below.refl _ _).drew | assumption); rintro e w10 ⟨rfl, hb10⟩))
  all_goals
    go_wp2_with fail
    go_ret
    exact ⟨ret_bool (by simp), BW.out.trans ((show Below w7.heap.size w7 _ by assumption).mono BW.out.size)⟩
end Go.Proofs.YtbchmfkdhaggbaaDoor
