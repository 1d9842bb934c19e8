/- FormPrefixes: its walks, way by way. -/
import Derived.Test.YtbchmfkdhaggbaaDoorAlFw
namespace Go.Proofs.YtbchmfkdhaggbaaDoor
open Go.RowKit
set_option maxRecDepth 100000
set_option linter.unusedVariables false

set_option maxHeartbeats 8000000 in
theorem fp_bad (cs mk st sp wd : Bool) (l v : List UInt8) (E : Int) (hE : (E == 0) = false) (hl : l.length ≤ 30) (hv : v.length ≤ 30) (HM : MkIs l sp wd E false) (w : World) (hT : UT w) :
    Calls Tryd.prog 5 #[.string (strOf l), .string (strOf v), .agg #[.bool cs, .bool mk, .bool st, .bool sp, .bool wd]] w fun e w' => e = .returned (.bool true) ∧ Below w.heap.size w w' := by
  have hz : ((strOf l).size : Int) ≤ 30 := by rw [size8]; omega
  have hz2 : ((strOf v).size : Int) ≤ 30 := by rw [size8]; omega
  have b0 := (Below.refl w.heap.size w).alloc (Nat.le_refl _) (.cells #[.bool cs, .bool mk, .bool st, .bool sp, .bool wd] 23)
  have HT := Lib.hid (ut_keep hT b0)
  have O0 := Lib.hid (OptAt.new w cs mk st sp wd)
  clear hT
  go_enter Tryd.func5, Tryd.ntmps5
  go_wp2_with fail
  refine (head_any _ HT.out).mono ?_
  rintro e w1 ⟨rfl, b1⟩
  have T1 := Lib.hid (ut_keep HT.out b1)
  obtain ⟨x0, x1, x2, x3, x4⟩ := O0.out.keep b1
  have B1 := Lib.hid (b0.trans (b1.mono b0.size))
  clear b0 b1 O0 HT
  go_wp2_with fail
  with_reducible refine (make_is cs mk st sp wd l E false HM _ T1.out).mono ?_
  rintro e w2 ⟨a2, b2, c2, d2, e2, t2, q2, rfl, k2, hQ⟩
  have B2 := Lib.hid ((B1.out.trans (k2.mono B1.out.size)).alloc (B1.out.trans (k2.mono B1.out.size)).size (.cells #[.bool false, .bool a2, .bool b2, .bool c2, .bool d2, .bool e2, .string (strOf t2), .pointer q2] 27))
  go_wp2_with fail
  go_ret
  exact ⟨rfl, B2.out⟩
set_option maxHeartbeats 8000000 in
theorem fp_a1t (cs mk st sp wd : Bool) (l v p : List UInt8) (hl : l.length ≤ 30) (hv : v.length ≤ 30) (HM : MkIs l sp wd 0 true) (HMm : Hid (matQ l cs mk st sp wd v = true ∧ v.length ≤ 10000)) (HP : Hid (preQ l cs mk st sp wd = p)) (hp : p.length ≤ 1000)
    (hpe : p.isEmpty = true) (hm : true = true → p.length ≤ v.length ∧ v.take p.length = p) (w : World) (hT : UT w) :
    Calls Tryd.prog 5 #[.string (strOf l), .string (strOf v), .agg #[.bool cs, .bool mk, .bool st, .bool sp, .bool wd]] w fun e w' => e = .returned (.bool true) ∧ Below w.heap.size w w' := by
  have hz : ((strOf l).size : Int) ≤ 30 := by rw [size8]; omega
  have hz2 : ((strOf v).size : Int) ≤ 30 := by rw [size8]; omega
  have b0 := (Below.refl w.heap.size w).alloc (Nat.le_refl _) (.cells #[.bool cs, .bool mk, .bool st, .bool sp, .bool wd] 23)
  have HT := Lib.hid (ut_keep hT b0)
  have O0 := Lib.hid (OptAt.new w cs mk st sp wd)
  have he : (strOf p).toList.isEmpty = true := by rw [str_empty]; exact hpe
  have hps : (strOf p).size ≤ 1000 := by rw [size8]; omega
  have hself : ((strOf p).toList == (strOf p).toList) = true := by simp
  have hc1 : ((strOf p).size : Int) ≤ ((strOf v).size : Int) := by rw [size8, size8]; have := (hm rfl).1; omega
  have hc2 : (strOf v).extract 0 (strOf p).size = strOf p := by rw [take8, size8, (hm rfl).2]
  clear hT hm hpe hp
  go_enter Tryd.func5, Tryd.ntmps5
  go_wp2_with fail
  refine (head_any _ HT.out).mono ?_
  rintro e w1 ⟨rfl, b1⟩
  have T1 := Lib.hid (ut_keep HT.out b1)
  have O1 := O0.out.keep b1
  have B1 := Lib.hid (b0.trans (b1.mono b0.size))
  have O1h := Lib.hid O1
  obtain ⟨x0, x1, x2, x3, x4⟩ := O1
  clear b1 HT O0
  go_wp2_with fail
  with_reducible refine (make_is _ _ _ _ _ l 0 _ HM _ T1.out).mono ?_
  rintro e w2 ⟨a2, b2, c2, d2, e2, t2, q2, rfl, k2, hQ⟩
  obtain ⟨Y, hY⟩ : ∃ Y, Y = w2.alloc (.cells #[.bool true, .bool a2, .bool b2, .bool c2, .bool d2, .bool e2, .string (strOf t2), .pointer q2] 27) := ⟨_, rfl⟩
  have b2Y : Below w2.heap.size w2 Y := by rw [hY]; exact (Below.refl _ _).alloc (Nat.le_refl _) _
  have OY := Lib.hid (O1h.out.keep (k2.trans (b2Y.mono k2.size)))
  have BY := Lib.hid (B1.out.trans ((k2.trans (b2Y.mono k2.size)).mono B1.out.size))
  have AY : At8 Y w2.heap.size (.bool true) (.bool a2) (.bool b2) (.bool c2) (.bool d2) (.bool e2) (.string (strOf t2)) (.pointer q2) := by rw [hY]; exact At8.new w2 _ _ _ _ _ _ _ _ _
  have AYh := Lib.hid AY
  have QY := Lib.hid (hQ.keep b2Y).get
  clear O1h T1 B1 k2 b2Y hQ x0 x1 x2 x3 x4
  obtain ⟨y0, y1, y2, y3, y4, y5, y6, y7⟩ := AY
  go_wp2_with fail
  rw [← hY]
  clear hY y0 y1 y2 y3 y4 y5 y6 y7
  with_reducible refine (QW.begins QY p HP _ (Below.refl _ _)).mono ?_
  rintro e w3 ⟨rfl, k3⟩
  obtain ⟨y0, y1, y2, y3, y4, y5, y6, y7⟩ := AYh.out.keep k3
  go_wp2_with fail
  with_reducible refine (QW.is QY v _ HMm _ k3).mono ?_
  rintro e w4 ⟨rfl, k4⟩
  replace k4 := k3.trans (k4.mono k3.size)
  clear y0 y1 y2 y3 y4 y5 y6 y7
  obtain ⟨y0, y1, y2, y3, y4, y5, y6, y7⟩ := AYh.out.keep k4
  obtain ⟨x0, x1, x2, x3, x4⟩ := OY.out.keep k4
  go_wp2_with fail
  go_ret
  exact ⟨rfl, BY.out.trans (k4.mono BY.out.size)⟩
set_option maxHeartbeats 8000000 in
theorem fp_a1f (cs mk st sp wd : Bool) (l v p : List UInt8) (hl : l.length ≤ 30) (hv : v.length ≤ 30) (HM : MkIs l sp wd 0 true) (HMm : Hid (matQ l cs mk st sp wd v = false ∧ v.length ≤ 10000)) (HP : Hid (preQ l cs mk st sp wd = p)) (hp : p.length ≤ 1000)
    (hpe : p.isEmpty = true) (hm : false = true → p.length ≤ v.length ∧ v.take p.length = p) (w : World) (hT : UT w) :
    Calls Tryd.prog 5 #[.string (strOf l), .string (strOf v), .agg #[.bool cs, .bool mk, .bool st, .bool sp, .bool wd]] w fun e w' => e = .returned (.bool true) ∧ Below w.heap.size w w' := by
  have hz : ((strOf l).size : Int) ≤ 30 := by rw [size8]; omega
  have hz2 : ((strOf v).size : Int) ≤ 30 := by rw [size8]; omega
  have b0 := (Below.refl w.heap.size w).alloc (Nat.le_refl _) (.cells #[.bool cs, .bool mk, .bool st, .bool sp, .bool wd] 23)
  have HT := Lib.hid (ut_keep hT b0)
  have O0 := Lib.hid (OptAt.new w cs mk st sp wd)
  have he : (strOf p).toList.isEmpty = true := by rw [str_empty]; exact hpe
  have hps : (strOf p).size ≤ 1000 := by rw [size8]; omega
  clear hT hm hpe hp
  go_enter Tryd.func5, Tryd.ntmps5
  go_wp2_with fail
  refine (head_any _ HT.out).mono ?_
  rintro e w1 ⟨rfl, b1⟩
  have T1 := Lib.hid (ut_keep HT.out b1)
  have O1 := O0.out.keep b1
  have B1 := Lib.hid (b0.trans (b1.mono b0.size))
  have O1h := Lib.hid O1
  obtain ⟨x0, x1, x2, x3, x4⟩ := O1
  clear b1 HT O0
  go_wp2_with fail
  with_reducible refine (make_is _ _ _ _ _ l 0 _ HM _ T1.out).mono ?_
  rintro e w2 ⟨a2, b2, c2, d2, e2, t2, q2, rfl, k2, hQ⟩
  obtain ⟨Y, hY⟩ : ∃ Y, Y = w2.alloc (.cells #[.bool true, .bool a2, .bool b2, .bool c2, .bool d2, .bool e2, .string (strOf t2), .pointer q2] 27) := ⟨_, rfl⟩
  have b2Y : Below w2.heap.size w2 Y := by rw [hY]; exact (Below.refl _ _).alloc (Nat.le_refl _) _
  have OY := Lib.hid (O1h.out.keep (k2.trans (b2Y.mono k2.size)))
  have BY := Lib.hid (B1.out.trans ((k2.trans (b2Y.mono k2.size)).mono B1.out.size))
  have AY : At8 Y w2.heap.size (.bool true) (.bool a2) (.bool b2) (.bool c2) (.bool d2) (.bool e2) (.string (strOf t2)) (.pointer q2) := by rw [hY]; exact At8.new w2 _ _ _ _ _ _ _ _ _
  have AYh := Lib.hid AY
  have QY := Lib.hid (hQ.keep b2Y).get
  clear O1h T1 B1 k2 b2Y hQ x0 x1 x2 x3 x4
  obtain ⟨y0, y1, y2, y3, y4, y5, y6, y7⟩ := AY
  go_wp2_with fail
  rw [← hY]
  clear hY y0 y1 y2 y3 y4 y5 y6 y7
  with_reducible refine (QW.begins QY p HP _ (Below.refl _ _)).mono ?_
  rintro e w3 ⟨rfl, k3⟩
  obtain ⟨y0, y1, y2, y3, y4, y5, y6, y7⟩ := AYh.out.keep k3
  go_wp2_with fail
  with_reducible refine (QW.is QY v _ HMm _ k3).mono ?_
  rintro e w4 ⟨rfl, k4⟩
  replace k4 := k3.trans (k4.mono k3.size)
  clear y0 y1 y2 y3 y4 y5 y6 y7
  obtain ⟨y0, y1, y2, y3, y4, y5, y6, y7⟩ := AYh.out.keep k4
  obtain ⟨x0, x1, x2, x3, x4⟩ := OY.out.keep k4
  go_wp2_with fail
  go_ret
  exact ⟨rfl, BY.out.trans (k4.mono BY.out.size)⟩
set_option maxHeartbeats 8000000 in
theorem fp_a2t (mk st sp wd : Bool) (l v p : List UInt8) (hl : l.length ≤ 30) (hv : v.length ≤ 30) (HM : MkIs l sp wd 0 false) (HMm : Hid (matQ l false mk st sp wd v = true ∧ v.length ≤ 10000)) (HP : Hid (preQ l false mk st sp wd = p)) (hp : p.length ≤ 1000)
    (hpe : p.isEmpty = true) (hm : true = true → p.length ≤ v.length ∧ v.take p.length = p) (w : World) (hT : UT w) :
    Calls Tryd.prog 5 #[.string (strOf l), .string (strOf v), .agg #[.bool false, .bool mk, .bool st, .bool sp, .bool wd]] w fun e w' => e = .returned (.bool true) ∧ Below w.heap.size w w' := by
  have hz : ((strOf l).size : Int) ≤ 30 := by rw [size8]; omega
  have hz2 : ((strOf v).size : Int) ≤ 30 := by rw [size8]; omega
  have b0 := (Below.refl w.heap.size w).alloc (Nat.le_refl _) (.cells #[.bool false, .bool mk, .bool st, .bool sp, .bool wd] 23)
  have HT := Lib.hid (ut_keep hT b0)
  have O0 := Lib.hid (OptAt.new w false mk st sp wd)
  have he : (strOf p).toList.isEmpty = true := by rw [str_empty]; exact hpe
  have hps : (strOf p).size ≤ 1000 := by rw [size8]; omega
  have hself : ((strOf p).toList == (strOf p).toList) = true := by simp
  have hc1 : ((strOf p).size : Int) ≤ ((strOf v).size : Int) := by rw [size8, size8]; have := (hm rfl).1; omega
  have hc2 : (strOf v).extract 0 (strOf p).size = strOf p := by rw [take8, size8, (hm rfl).2]
  clear hT hm hpe hp
  go_enter Tryd.func5, Tryd.ntmps5
  go_wp2_with fail
  refine (head_any _ HT.out).mono ?_
  rintro e w1 ⟨rfl, b1⟩
  have T1 := Lib.hid (ut_keep HT.out b1)
  have O1 := O0.out.keep b1
  have B1 := Lib.hid (b0.trans (b1.mono b0.size))
  have O1h := Lib.hid O1
  obtain ⟨x0, x1, x2, x3, x4⟩ := O1
  clear b1 HT O0
  go_wp2_with fail
  with_reducible refine (make_is _ _ _ _ _ l 0 _ HM _ T1.out).mono ?_
  rintro e w2 ⟨a2, b2, c2, d2, e2, t2, q2, rfl, k2, hQ⟩
  obtain ⟨Y, hY⟩ : ∃ Y, Y = w2.alloc (.cells #[.bool false, .bool a2, .bool b2, .bool c2, .bool d2, .bool e2, .string (strOf t2), .pointer q2] 27) := ⟨_, rfl⟩
  have b2Y : Below w2.heap.size w2 Y := by rw [hY]; exact (Below.refl _ _).alloc (Nat.le_refl _) _
  have OY := Lib.hid (O1h.out.keep (k2.trans (b2Y.mono k2.size)))
  have BY := Lib.hid (B1.out.trans ((k2.trans (b2Y.mono k2.size)).mono B1.out.size))
  have AY : At8 Y w2.heap.size (.bool false) (.bool a2) (.bool b2) (.bool c2) (.bool d2) (.bool e2) (.string (strOf t2)) (.pointer q2) := by rw [hY]; exact At8.new w2 _ _ _ _ _ _ _ _ _
  have AYh := Lib.hid AY
  have QY := Lib.hid (hQ.keep b2Y).get
  clear O1h T1 B1 k2 b2Y hQ x0 x1 x2 x3 x4
  obtain ⟨y0, y1, y2, y3, y4, y5, y6, y7⟩ := AY
  go_wp2_with fail
  rw [← hY]
  clear hY y0 y1 y2 y3 y4 y5 y6 y7
  with_reducible refine (QW.begins QY p HP _ (Below.refl _ _)).mono ?_
  rintro e w3 ⟨rfl, k3⟩
  obtain ⟨y0, y1, y2, y3, y4, y5, y6, y7⟩ := AYh.out.keep k3
  go_wp2_with fail
  with_reducible refine (QW.is QY v _ HMm _ k3).mono ?_
  rintro e w4 ⟨rfl, k4⟩
  replace k4 := k3.trans (k4.mono k3.size)
  clear y0 y1 y2 y3 y4 y5 y6 y7
  obtain ⟨y0, y1, y2, y3, y4, y5, y6, y7⟩ := AYh.out.keep k4
  obtain ⟨x0, x1, x2, x3, x4⟩ := OY.out.keep k4
  go_wp2_with fail
  go_ret
  exact ⟨rfl, BY.out.trans (k4.mono BY.out.size)⟩
set_option maxHeartbeats 8000000 in
theorem fp_a2f (mk st sp wd : Bool) (l v p : List UInt8) (hl : l.length ≤ 30) (hv : v.length ≤ 30) (HM : MkIs l sp wd 0 false) (HMm : Hid (matQ l false mk st sp wd v = false ∧ v.length ≤ 10000)) (HP : Hid (preQ l false mk st sp wd = p)) (hp : p.length ≤ 1000)
    (hpe : p.isEmpty = true) (hm : false = true → p.length ≤ v.length ∧ v.take p.length = p) (w : World) (hT : UT w) :
    Calls Tryd.prog 5 #[.string (strOf l), .string (strOf v), .agg #[.bool false, .bool mk, .bool st, .bool sp, .bool wd]] w fun e w' => e = .returned (.bool true) ∧ Below w.heap.size w w' := by
  have hz : ((strOf l).size : Int) ≤ 30 := by rw [size8]; omega
  have hz2 : ((strOf v).size : Int) ≤ 30 := by rw [size8]; omega
  have b0 := (Below.refl w.heap.size w).alloc (Nat.le_refl _) (.cells #[.bool false, .bool mk, .bool st, .bool sp, .bool wd] 23)
  have HT := Lib.hid (ut_keep hT b0)
  have O0 := Lib.hid (OptAt.new w false mk st sp wd)
  have he : (strOf p).toList.isEmpty = true := by rw [str_empty]; exact hpe
  have hps : (strOf p).size ≤ 1000 := by rw [size8]; omega
  clear hT hm hpe hp
  go_enter Tryd.func5, Tryd.ntmps5
  go_wp2_with fail
  refine (head_any _ HT.out).mono ?_
  rintro e w1 ⟨rfl, b1⟩
  have T1 := Lib.hid (ut_keep HT.out b1)
  have O1 := O0.out.keep b1
  have B1 := Lib.hid (b0.trans (b1.mono b0.size))
  have O1h := Lib.hid O1
  obtain ⟨x0, x1, x2, x3, x4⟩ := O1
  clear b1 HT O0
  go_wp2_with fail
  with_reducible refine (make_is _ _ _ _ _ l 0 _ HM _ T1.out).mono ?_
  rintro e w2 ⟨a2, b2, c2, d2, e2, t2, q2, rfl, k2, hQ⟩
  obtain ⟨Y, hY⟩ : ∃ Y, Y = w2.alloc (.cells #[.bool false, .bool a2, .bool b2, .bool c2, .bool d2, .bool e2, .string (strOf t2), .pointer q2] 27) := ⟨_, rfl⟩
  have b2Y : Below w2.heap.size w2 Y := by rw [hY]; exact (Below.refl _ _).alloc (Nat.le_refl _) _
  have OY := Lib.hid (O1h.out.keep (k2.trans (b2Y.mono k2.size)))
  have BY := Lib.hid (B1.out.trans ((k2.trans (b2Y.mono k2.size)).mono B1.out.size))
  have AY : At8 Y w2.heap.size (.bool false) (.bool a2) (.bool b2) (.bool c2) (.bool d2) (.bool e2) (.string (strOf t2)) (.pointer q2) := by rw [hY]; exact At8.new w2 _ _ _ _ _ _ _ _ _
  have AYh := Lib.hid AY
  have QY := Lib.hid (hQ.keep b2Y).get
  clear O1h T1 B1 k2 b2Y hQ x0 x1 x2 x3 x4
  obtain ⟨y0, y1, y2, y3, y4, y5, y6, y7⟩ := AY
  go_wp2_with fail
  rw [← hY]
  clear hY y0 y1 y2 y3 y4 y5 y6 y7
  with_reducible refine (QW.begins QY p HP _ (Below.refl _ _)).mono ?_
  rintro e w3 ⟨rfl, k3⟩
  obtain ⟨y0, y1, y2, y3, y4, y5, y6, y7⟩ := AYh.out.keep k3
  go_wp2_with fail
  with_reducible refine (QW.is QY v _ HMm _ k3).mono ?_
  rintro e w4 ⟨rfl, k4⟩
  replace k4 := k3.trans (k4.mono k3.size)
  clear y0 y1 y2 y3 y4 y5 y6 y7
  obtain ⟨y0, y1, y2, y3, y4, y5, y6, y7⟩ := AYh.out.keep k4
  obtain ⟨x0, x1, x2, x3, x4⟩ := OY.out.keep k4
  go_wp2_with fail
  go_ret
  exact ⟨rfl, BY.out.trans (k4.mono BY.out.size)⟩
set_option maxHeartbeats 8000000 in
theorem fp_a3t (st sp wd : Bool) (l v p : List UInt8) (hl : l.length ≤ 30) (hv : v.length ≤ 30) (HM : MkIs l sp wd 0 false) (HMm : Hid (matQ l true false st sp wd v = true ∧ v.length ≤ 10000)) (HP : Hid (preQ l true false st sp wd = p)) (hp : p.length ≤ 1000)
    (hpe : p.isEmpty = true) (hm : true = true → p.length ≤ v.length ∧ v.take p.length = p) (w : World) (hT : UT w) :
    Calls Tryd.prog 5 #[.string (strOf l), .string (strOf v), .agg #[.bool true, .bool false, .bool st, .bool sp, .bool wd]] w fun e w' => e = .returned (.bool true) ∧ Below w.heap.size w w' := by
  have hz : ((strOf l).size : Int) ≤ 30 := by rw [size8]; omega
  have hz2 : ((strOf v).size : Int) ≤ 30 := by rw [size8]; omega
  have b0 := (Below.refl w.heap.size w).alloc (Nat.le_refl _) (.cells #[.bool true, .bool false, .bool st, .bool sp, .bool wd] 23)
  have HT := Lib.hid (ut_keep hT b0)
  have O0 := Lib.hid (OptAt.new w true false st sp wd)
  have he : (strOf p).toList.isEmpty = true := by rw [str_empty]; exact hpe
  have hps : (strOf p).size ≤ 1000 := by rw [size8]; omega
  have hself : ((strOf p).toList == (strOf p).toList) = true := by simp
  have hc1 : ((strOf p).size : Int) ≤ ((strOf v).size : Int) := by rw [size8, size8]; have := (hm rfl).1; omega
  have hc2 : (strOf v).extract 0 (strOf p).size = strOf p := by rw [take8, size8, (hm rfl).2]
  clear hT hm hpe hp
  go_enter Tryd.func5, Tryd.ntmps5
  go_wp2_with fail
  refine (head_any _ HT.out).mono ?_
  rintro e w1 ⟨rfl, b1⟩
  have T1 := Lib.hid (ut_keep HT.out b1)
  have O1 := O0.out.keep b1
  have B1 := Lib.hid (b0.trans (b1.mono b0.size))
  have O1h := Lib.hid O1
  obtain ⟨x0, x1, x2, x3, x4⟩ := O1
  clear b1 HT O0
  go_wp2_with fail
  with_reducible refine (make_is _ _ _ _ _ l 0 _ HM _ T1.out).mono ?_
  rintro e w2 ⟨a2, b2, c2, d2, e2, t2, q2, rfl, k2, hQ⟩
  obtain ⟨Y, hY⟩ : ∃ Y, Y = w2.alloc (.cells #[.bool false, .bool a2, .bool b2, .bool c2, .bool d2, .bool e2, .string (strOf t2), .pointer q2] 27) := ⟨_, rfl⟩
  have b2Y : Below w2.heap.size w2 Y := by rw [hY]; exact (Below.refl _ _).alloc (Nat.le_refl _) _
  have OY := Lib.hid (O1h.out.keep (k2.trans (b2Y.mono k2.size)))
  have BY := Lib.hid (B1.out.trans ((k2.trans (b2Y.mono k2.size)).mono B1.out.size))
  have AY : At8 Y w2.heap.size (.bool false) (.bool a2) (.bool b2) (.bool c2) (.bool d2) (.bool e2) (.string (strOf t2)) (.pointer q2) := by rw [hY]; exact At8.new w2 _ _ _ _ _ _ _ _ _
  have AYh := Lib.hid AY
  have QY := Lib.hid (hQ.keep b2Y).get
  clear O1h T1 B1 k2 b2Y hQ x0 x1 x2 x3 x4
  obtain ⟨y0, y1, y2, y3, y4, y5, y6, y7⟩ := AY
  go_wp2_with fail
  rw [← hY]
  clear hY y0 y1 y2 y3 y4 y5 y6 y7
  with_reducible refine (QW.begins QY p HP _ (Below.refl _ _)).mono ?_
  rintro e w3 ⟨rfl, k3⟩
  obtain ⟨y0, y1, y2, y3, y4, y5, y6, y7⟩ := AYh.out.keep k3
  go_wp2_with fail
  with_reducible refine (QW.is QY v _ HMm _ k3).mono ?_
  rintro e w4 ⟨rfl, k4⟩
  replace k4 := k3.trans (k4.mono k3.size)
  clear y0 y1 y2 y3 y4 y5 y6 y7
  obtain ⟨y0, y1, y2, y3, y4, y5, y6, y7⟩ := AYh.out.keep k4
  obtain ⟨x0, x1, x2, x3, x4⟩ := OY.out.keep k4
  go_wp2_with fail
  go_ret
  exact ⟨rfl, BY.out.trans (k4.mono BY.out.size)⟩
set_option maxHeartbeats 8000000 in
theorem fp_a3f (st sp wd : Bool) (l v p : List UInt8) (hl : l.length ≤ 30) (hv : v.length ≤ 30) (HM : MkIs l sp wd 0 false) (HMm : Hid (matQ l true false st sp wd v = false ∧ v.length ≤ 10000)) (HP : Hid (preQ l true false st sp wd = p)) (hp : p.length ≤ 1000)
    (hpe : p.isEmpty = true) (hm : false = true → p.length ≤ v.length ∧ v.take p.length = p) (w : World) (hT : UT w) :
    Calls Tryd.prog 5 #[.string (strOf l), .string (strOf v), .agg #[.bool true, .bool false, .bool st, .bool sp, .bool wd]] w fun e w' => e = .returned (.bool true) ∧ Below w.heap.size w w' := by
  have hz : ((strOf l).size : Int) ≤ 30 := by rw [size8]; omega
  have hz2 : ((strOf v).size : Int) ≤ 30 := by rw [size8]; omega
  have b0 := (Below.refl w.heap.size w).alloc (Nat.le_refl _) (.cells #[.bool true, .bool false, .bool st, .bool sp, .bool wd] 23)
  have HT := Lib.hid (ut_keep hT b0)
  have O0 := Lib.hid (OptAt.new w true false st sp wd)
  have he : (strOf p).toList.isEmpty = true := by rw [str_empty]; exact hpe
  have hps : (strOf p).size ≤ 1000 := by rw [size8]; omega
  clear hT hm hpe hp
  go_enter Tryd.func5, Tryd.ntmps5
  go_wp2_with fail
  refine (head_any _ HT.out).mono ?_
  rintro e w1 ⟨rfl, b1⟩
  have T1 := Lib.hid (ut_keep HT.out b1)
  have O1 := O0.out.keep b1
  have B1 := Lib.hid (b0.trans (b1.mono b0.size))
  have O1h := Lib.hid O1
  obtain ⟨x0, x1, x2, x3, x4⟩ := O1
  clear b1 HT O0
  go_wp2_with fail
  with_reducible refine (make_is _ _ _ _ _ l 0 _ HM _ T1.out).mono ?_
  rintro e w2 ⟨a2, b2, c2, d2, e2, t2, q2, rfl, k2, hQ⟩
  obtain ⟨Y, hY⟩ : ∃ Y, Y = w2.alloc (.cells #[.bool false, .bool a2, .bool b2, .bool c2, .bool d2, .bool e2, .string (strOf t2), .pointer q2] 27) := ⟨_, rfl⟩
  have b2Y : Below w2.heap.size w2 Y := by rw [hY]; exact (Below.refl _ _).alloc (Nat.le_refl _) _
  have OY := Lib.hid (O1h.out.keep (k2.trans (b2Y.mono k2.size)))
  have BY := Lib.hid (B1.out.trans ((k2.trans (b2Y.mono k2.size)).mono B1.out.size))
  have AY : At8 Y w2.heap.size (.bool false) (.bool a2) (.bool b2) (.bool c2) (.bool d2) (.bool e2) (.string (strOf t2)) (.pointer q2) := by rw [hY]; exact At8.new w2 _ _ _ _ _ _ _ _ _
  have AYh := Lib.hid AY
  have QY := Lib.hid (hQ.keep b2Y).get
  clear O1h T1 B1 k2 b2Y hQ x0 x1 x2 x3 x4
  obtain ⟨y0, y1, y2, y3, y4, y5, y6, y7⟩ := AY
  go_wp2_with fail
  rw [← hY]
  clear hY y0 y1 y2 y3 y4 y5 y6 y7
  with_reducible refine (QW.begins QY p HP _ (Below.refl _ _)).mono ?_
  rintro e w3 ⟨rfl, k3⟩
  obtain ⟨y0, y1, y2, y3, y4, y5, y6, y7⟩ := AYh.out.keep k3
  go_wp2_with fail
  with_reducible refine (QW.is QY v _ HMm _ k3).mono ?_
  rintro e w4 ⟨rfl, k4⟩
  replace k4 := k3.trans (k4.mono k3.size)
  clear y0 y1 y2 y3 y4 y5 y6 y7
  obtain ⟨y0, y1, y2, y3, y4, y5, y6, y7⟩ := AYh.out.keep k4
  obtain ⟨x0, x1, x2, x3, x4⟩ := OY.out.keep k4
  go_wp2_with fail
  go_ret
  exact ⟨rfl, BY.out.trans (k4.mono BY.out.size)⟩
set_option maxHeartbeats 8000000 in
theorem fp_a4t (sp : Bool) (l v p : List UInt8) (hl : l.length ≤ 30) (hv : v.length ≤ 30) (HM : MkIs l sp false 0 false) (HMm : Hid (matQ l true true true sp false v = true ∧ v.length ≤ 10000)) (HP : Hid (preQ l true true true sp false = p)) (hp : p.length ≤ 1000)
    (hpe : p.isEmpty = true) (hm : true = true → p.length ≤ v.length ∧ v.take p.length = p) (w : World) (hT : UT w) :
    Calls Tryd.prog 5 #[.string (strOf l), .string (strOf v), .agg #[.bool true, .bool true, .bool true, .bool sp, .bool false]] w fun e w' => e = .returned (.bool true) ∧ Below w.heap.size w w' := by
  have hz : ((strOf l).size : Int) ≤ 30 := by rw [size8]; omega
  have hz2 : ((strOf v).size : Int) ≤ 30 := by rw [size8]; omega
  have b0 := (Below.refl w.heap.size w).alloc (Nat.le_refl _) (.cells #[.bool true, .bool true, .bool true, .bool sp, .bool false] 23)
  have HT := Lib.hid (ut_keep hT b0)
  have O0 := Lib.hid (OptAt.new w true true true sp false)
  have he : (strOf p).toList.isEmpty = true := by rw [str_empty]; exact hpe
  have hps : (strOf p).size ≤ 1000 := by rw [size8]; omega
  have hself : ((strOf p).toList == (strOf p).toList) = true := by simp
  have hc1 : ((strOf p).size : Int) ≤ ((strOf v).size : Int) := by rw [size8, size8]; have := (hm rfl).1; omega
  have hc2 : (strOf v).extract 0 (strOf p).size = strOf p := by rw [take8, size8, (hm rfl).2]
  clear hT hm hpe hp
  go_enter Tryd.func5, Tryd.ntmps5
  go_wp2_with fail
  refine (head_any _ HT.out).mono ?_
  rintro e w1 ⟨rfl, b1⟩
  have T1 := Lib.hid (ut_keep HT.out b1)
  have O1 := O0.out.keep b1
  have B1 := Lib.hid (b0.trans (b1.mono b0.size))
  have O1h := Lib.hid O1
  obtain ⟨x0, x1, x2, x3, x4⟩ := O1
  clear b1 HT O0
  go_wp2_with fail
  with_reducible refine (make_is _ _ _ _ _ l 0 _ HM _ T1.out).mono ?_
  rintro e w2 ⟨a2, b2, c2, d2, e2, t2, q2, rfl, k2, hQ⟩
  obtain ⟨Y, hY⟩ : ∃ Y, Y = w2.alloc (.cells #[.bool false, .bool a2, .bool b2, .bool c2, .bool d2, .bool e2, .string (strOf t2), .pointer q2] 27) := ⟨_, rfl⟩
  have b2Y : Below w2.heap.size w2 Y := by rw [hY]; exact (Below.refl _ _).alloc (Nat.le_refl _) _
  have OY := Lib.hid (O1h.out.keep (k2.trans (b2Y.mono k2.size)))
  have BY := Lib.hid (B1.out.trans ((k2.trans (b2Y.mono k2.size)).mono B1.out.size))
  have AY : At8 Y w2.heap.size (.bool false) (.bool a2) (.bool b2) (.bool c2) (.bool d2) (.bool e2) (.string (strOf t2)) (.pointer q2) := by rw [hY]; exact At8.new w2 _ _ _ _ _ _ _ _ _
  have AYh := Lib.hid AY
  have QY := Lib.hid (hQ.keep b2Y).get
  clear O1h T1 B1 k2 b2Y hQ x0 x1 x2 x3 x4
  obtain ⟨y0, y1, y2, y3, y4, y5, y6, y7⟩ := AY
  go_wp2_with fail
  rw [← hY]
  clear hY y0 y1 y2 y3 y4 y5 y6 y7
  with_reducible refine (QW.begins QY p HP _ (Below.refl _ _)).mono ?_
  rintro e w3 ⟨rfl, k3⟩
  obtain ⟨y0, y1, y2, y3, y4, y5, y6, y7⟩ := AYh.out.keep k3
  go_wp2_with fail
  with_reducible refine (QW.is QY v _ HMm _ k3).mono ?_
  rintro e w4 ⟨rfl, k4⟩
  replace k4 := k3.trans (k4.mono k3.size)
  clear y0 y1 y2 y3 y4 y5 y6 y7
  obtain ⟨y0, y1, y2, y3, y4, y5, y6, y7⟩ := AYh.out.keep k4
  obtain ⟨x0, x1, x2, x3, x4⟩ := OY.out.keep k4
  go_wp2_with fail
  go_ret
  exact ⟨rfl, BY.out.trans (k4.mono BY.out.size)⟩
set_option maxHeartbeats 8000000 in
theorem fp_a4f (sp : Bool) (l v p : List UInt8) (hl : l.length ≤ 30) (hv : v.length ≤ 30) (HM : MkIs l sp false 0 false) (HMm : Hid (matQ l true true true sp false v = false ∧ v.length ≤ 10000)) (HP : Hid (preQ l true true true sp false = p)) (hp : p.length ≤ 1000)
    (hpe : p.isEmpty = true) (hm : false = true → p.length ≤ v.length ∧ v.take p.length = p) (w : World) (hT : UT w) :
    Calls Tryd.prog 5 #[.string (strOf l), .string (strOf v), .agg #[.bool true, .bool true, .bool true, .bool sp, .bool false]] w fun e w' => e = .returned (.bool true) ∧ Below w.heap.size w w' := by
  have hz : ((strOf l).size : Int) ≤ 30 := by rw [size8]; omega
  have hz2 : ((strOf v).size : Int) ≤ 30 := by rw [size8]; omega
  have b0 := (Below.refl w.heap.size w).alloc (Nat.le_refl _) (.cells #[.bool true, .bool true, .bool true, .bool sp, .bool false] 23)
  have HT := Lib.hid (ut_keep hT b0)
  have O0 := Lib.hid (OptAt.new w true true true sp false)
  have he : (strOf p).toList.isEmpty = true := by rw [str_empty]; exact hpe
  have hps : (strOf p).size ≤ 1000 := by rw [size8]; omega
  clear hT hm hpe hp
  go_enter Tryd.func5, Tryd.ntmps5
  go_wp2_with fail
  refine (head_any _ HT.out).mono ?_
  rintro e w1 ⟨rfl, b1⟩
  have T1 := Lib.hid (ut_keep HT.out b1)
  have O1 := O0.out.keep b1
  have B1 := Lib.hid (b0.trans (b1.mono b0.size))
  have O1h := Lib.hid O1
  obtain ⟨x0, x1, x2, x3, x4⟩ := O1
  clear b1 HT O0
  go_wp2_with fail
  with_reducible refine (make_is _ _ _ _ _ l 0 _ HM _ T1.out).mono ?_
  rintro e w2 ⟨a2, b2, c2, d2, e2, t2, q2, rfl, k2, hQ⟩
  obtain ⟨Y, hY⟩ : ∃ Y, Y = w2.alloc (.cells #[.bool false, .bool a2, .bool b2, .bool c2, .bool d2, .bool e2, .string (strOf t2), .pointer q2] 27) := ⟨_, rfl⟩
  have b2Y : Below w2.heap.size w2 Y := by rw [hY]; exact (Below.refl _ _).alloc (Nat.le_refl _) _
  have OY := Lib.hid (O1h.out.keep (k2.trans (b2Y.mono k2.size)))
  have BY := Lib.hid (B1.out.trans ((k2.trans (b2Y.mono k2.size)).mono B1.out.size))
  have AY : At8 Y w2.heap.size (.bool false) (.bool a2) (.bool b2) (.bool c2) (.bool d2) (.bool e2) (.string (strOf t2)) (.pointer q2) := by rw [hY]; exact At8.new w2 _ _ _ _ _ _ _ _ _
  have AYh := Lib.hid AY
  have QY := Lib.hid (hQ.keep b2Y).get
  clear O1h T1 B1 k2 b2Y hQ x0 x1 x2 x3 x4
  obtain ⟨y0, y1, y2, y3, y4, y5, y6, y7⟩ := AY
  go_wp2_with fail
  rw [← hY]
  clear hY y0 y1 y2 y3 y4 y5 y6 y7
  with_reducible refine (QW.begins QY p HP _ (Below.refl _ _)).mono ?_
  rintro e w3 ⟨rfl, k3⟩
  obtain ⟨y0, y1, y2, y3, y4, y5, y6, y7⟩ := AYh.out.keep k3
  go_wp2_with fail
  with_reducible refine (QW.is QY v _ HMm _ k3).mono ?_
  rintro e w4 ⟨rfl, k4⟩
  replace k4 := k3.trans (k4.mono k3.size)
  clear y0 y1 y2 y3 y4 y5 y6 y7
  obtain ⟨y0, y1, y2, y3, y4, y5, y6, y7⟩ := AYh.out.keep k4
  obtain ⟨x0, x1, x2, x3, x4⟩ := OY.out.keep k4
  go_wp2_with fail
  go_ret
  exact ⟨rfl, BY.out.trans (k4.mono BY.out.size)⟩
set_option maxHeartbeats 8000000 in
theorem fp_bttt (sp : Bool) (l v p : List UInt8) (hl : l.length ≤ 30) (hv : v.length ≤ 30) (HM : MkIs l sp true 0 false) (HMm : Hid (matQ l true true true sp true v = true ∧ v.length ≤ 10000)) (HP : Hid (preQ l true true true sp true = p)) (hp : p.length ≤ 1000)
    (hpe : p.isEmpty = true) (hm : true = true → p.length ≤ v.length ∧ v.take p.length = p) (w : World) (hT : UT w) :
    Calls Tryd.prog 5 #[.string (strOf l), .string (strOf v), .agg #[.bool true, .bool true, .bool true, .bool sp, .bool true]] w fun e w' => e = .returned (.bool true) ∧ Below w.heap.size w w' := by
  have hz : ((strOf l).size : Int) ≤ 30 := by rw [size8]; omega
  have hz2 : ((strOf v).size : Int) ≤ 30 := by rw [size8]; omega
  have b0 := (Below.refl w.heap.size w).alloc (Nat.le_refl _) (.cells #[.bool true, .bool true, .bool true, .bool sp, .bool true] 23)
  have HT := Lib.hid (ut_keep hT b0)
  have O0 := Lib.hid (OptAt.new w true true true sp true)
  have he : (strOf p).toList.isEmpty = true := by rw [str_empty]; exact hpe
  have hps : (strOf p).size ≤ 1000 := by rw [size8]; omega
  have hself : ((strOf p).toList == (strOf p).toList) = true := by simp
  have hc1 : ((strOf p).size : Int) ≤ ((strOf v).size : Int) := by rw [size8, size8]; have := (hm rfl).1; omega
  have hc2 : (strOf v).extract 0 (strOf p).size = strOf p := by rw [take8, size8, (hm rfl).2]
  clear hT hm hpe hp
  go_enter Tryd.func5, Tryd.ntmps5
  go_wp2_with fail
  refine (head_any _ HT.out).mono ?_
  rintro e w1 ⟨rfl, b1⟩
  have T1 := Lib.hid (ut_keep HT.out b1)
  have O1 := O0.out.keep b1
  have B1 := Lib.hid (b0.trans (b1.mono b0.size))
  have O1h := Lib.hid O1
  obtain ⟨x0, x1, x2, x3, x4⟩ := O1
  clear b1 HT O0
  go_wp2_with fail
  with_reducible refine (make_is _ _ _ _ _ l 0 _ HM _ T1.out).mono ?_
  rintro e w2 ⟨a2, b2, c2, d2, e2, t2, q2, rfl, k2, hQ⟩
  obtain ⟨Y, hY⟩ : ∃ Y, Y = w2.alloc (.cells #[.bool false, .bool a2, .bool b2, .bool c2, .bool d2, .bool e2, .string (strOf t2), .pointer q2] 27) := ⟨_, rfl⟩
  have b2Y : Below w2.heap.size w2 Y := by rw [hY]; exact (Below.refl _ _).alloc (Nat.le_refl _) _
  have OY := Lib.hid (O1h.out.keep (k2.trans (b2Y.mono k2.size)))
  have BY := Lib.hid (B1.out.trans ((k2.trans (b2Y.mono k2.size)).mono B1.out.size))
  have AY : At8 Y w2.heap.size (.bool false) (.bool a2) (.bool b2) (.bool c2) (.bool d2) (.bool e2) (.string (strOf t2)) (.pointer q2) := by rw [hY]; exact At8.new w2 _ _ _ _ _ _ _ _ _
  have AYh := Lib.hid AY
  have QY := Lib.hid (hQ.keep b2Y).get
  clear O1h T1 B1 k2 b2Y hQ x0 x1 x2 x3 x4
  obtain ⟨y0, y1, y2, y3, y4, y5, y6, y7⟩ := AY
  go_wp2_with fail
  rw [← hY]
  clear hY y0 y1 y2 y3 y4 y5 y6 y7
  with_reducible refine (QW.begins QY p HP _ (Below.refl _ _)).mono ?_
  rintro e w3 ⟨rfl, k3⟩
  obtain ⟨y0, y1, y2, y3, y4, y5, y6, y7⟩ := AYh.out.keep k3
  go_wp2_with fail
  with_reducible refine (QW.is QY v _ HMm _ k3).mono ?_
  rintro e w4 ⟨rfl, k4⟩
  replace k4 := k3.trans (k4.mono k3.size)
  clear y0 y1 y2 y3 y4 y5 y6 y7
  obtain ⟨y0, y1, y2, y3, y4, y5, y6, y7⟩ := AYh.out.keep k4
  obtain ⟨x0, x1, x2, x3, x4⟩ := OY.out.keep k4
  go_wp2_with fail
  go_ret
  exact ⟨rfl, BY.out.trans (k4.mono BY.out.size)⟩
set_option maxHeartbeats 8000000 in
theorem fp_bttf (sp : Bool) (l v p : List UInt8) (hl : l.length ≤ 30) (hv : v.length ≤ 30) (HM : MkIs l sp true 0 false) (HMm : Hid (matQ l true true true sp true v = false ∧ v.length ≤ 10000)) (HP : Hid (preQ l true true true sp true = p)) (hp : p.length ≤ 1000)
    (hpe : p.isEmpty = true) (hm : false = true → p.length ≤ v.length ∧ v.take p.length = p) (w : World) (hT : UT w) :
    Calls Tryd.prog 5 #[.string (strOf l), .string (strOf v), .agg #[.bool true, .bool true, .bool true, .bool sp, .bool true]] w fun e w' => e = .returned (.bool true) ∧ Below w.heap.size w w' := by
  have hz : ((strOf l).size : Int) ≤ 30 := by rw [size8]; omega
  have hz2 : ((strOf v).size : Int) ≤ 30 := by rw [size8]; omega
  have b0 := (Below.refl w.heap.size w).alloc (Nat.le_refl _) (.cells #[.bool true, .bool true, .bool true, .bool sp, .bool true] 23)
  have HT := Lib.hid (ut_keep hT b0)
  have O0 := Lib.hid (OptAt.new w true true true sp true)
  have he : (strOf p).toList.isEmpty = true := by rw [str_empty]; exact hpe
  have hps : (strOf p).size ≤ 1000 := by rw [size8]; omega
  clear hT hm hpe hp
  go_enter Tryd.func5, Tryd.ntmps5
  go_wp2_with fail
  refine (head_any _ HT.out).mono ?_
  rintro e w1 ⟨rfl, b1⟩
  have T1 := Lib.hid (ut_keep HT.out b1)
  have O1 := O0.out.keep b1
  have B1 := Lib.hid (b0.trans (b1.mono b0.size))
  have O1h := Lib.hid O1
  obtain ⟨x0, x1, x2, x3, x4⟩ := O1
  clear b1 HT O0
  go_wp2_with fail
  with_reducible refine (make_is _ _ _ _ _ l 0 _ HM _ T1.out).mono ?_
  rintro e w2 ⟨a2, b2, c2, d2, e2, t2, q2, rfl, k2, hQ⟩
  obtain ⟨Y, hY⟩ : ∃ Y, Y = w2.alloc (.cells #[.bool false, .bool a2, .bool b2, .bool c2, .bool d2, .bool e2, .string (strOf t2), .pointer q2] 27) := ⟨_, rfl⟩
  have b2Y : Below w2.heap.size w2 Y := by rw [hY]; exact (Below.refl _ _).alloc (Nat.le_refl _) _
  have OY := Lib.hid (O1h.out.keep (k2.trans (b2Y.mono k2.size)))
  have BY := Lib.hid (B1.out.trans ((k2.trans (b2Y.mono k2.size)).mono B1.out.size))
  have AY : At8 Y w2.heap.size (.bool false) (.bool a2) (.bool b2) (.bool c2) (.bool d2) (.bool e2) (.string (strOf t2)) (.pointer q2) := by rw [hY]; exact At8.new w2 _ _ _ _ _ _ _ _ _
  have AYh := Lib.hid AY
  have QY := Lib.hid (hQ.keep b2Y).get
  clear O1h T1 B1 k2 b2Y hQ x0 x1 x2 x3 x4
  obtain ⟨y0, y1, y2, y3, y4, y5, y6, y7⟩ := AY
  go_wp2_with fail
  rw [← hY]
  clear hY y0 y1 y2 y3 y4 y5 y6 y7
  with_reducible refine (QW.begins QY p HP _ (Below.refl _ _)).mono ?_
  rintro e w3 ⟨rfl, k3⟩
  obtain ⟨y0, y1, y2, y3, y4, y5, y6, y7⟩ := AYh.out.keep k3
  go_wp2_with fail
  with_reducible refine (QW.is QY v _ HMm _ k3).mono ?_
  rintro e w4 ⟨rfl, k4⟩
  replace k4 := k3.trans (k4.mono k3.size)
  clear y0 y1 y2 y3 y4 y5 y6 y7
  obtain ⟨y0, y1, y2, y3, y4, y5, y6, y7⟩ := AYh.out.keep k4
  obtain ⟨x0, x1, x2, x3, x4⟩ := OY.out.keep k4
  go_wp2_with fail
  go_ret
  exact ⟨rfl, BY.out.trans (k4.mono BY.out.size)⟩
set_option maxHeartbeats 8000000 in
theorem fp_btft (sp : Bool) (l v p : List UInt8) (hl : l.length ≤ 30) (hv : v.length ≤ 30) (HM : MkIs l sp true 0 false) (HMm : Hid (matQ l true true true sp true v = true ∧ v.length ≤ 10000)) (HP : Hid (preQ l true true true sp true = p)) (hp : p.length ≤ 1000)
    (hpe : p.isEmpty = false) (hm : true = true → p.length ≤ v.length ∧ v.take p.length = p) (w : World) (hT : UT w) :
    Calls Tryd.prog 5 #[.string (strOf l), .string (strOf v), .agg #[.bool true, .bool true, .bool true, .bool sp, .bool true]] w fun e w' => e = .returned (.bool true) ∧ Below w.heap.size w w' := by
  have hz : ((strOf l).size : Int) ≤ 30 := by rw [size8]; omega
  have hz2 : ((strOf v).size : Int) ≤ 30 := by rw [size8]; omega
  have b0 := (Below.refl w.heap.size w).alloc (Nat.le_refl _) (.cells #[.bool true, .bool true, .bool true, .bool sp, .bool true] 23)
  have HT := Lib.hid (ut_keep hT b0)
  have O0 := Lib.hid (OptAt.new w true true true sp true)
  have he : (strOf p).toList.isEmpty = false := by rw [str_empty]; exact hpe
  have hps : (strOf p).size ≤ 1000 := by rw [size8]; omega
  have hself : ((strOf p).toList == (strOf p).toList) = true := by simp
  have hc1 : ((strOf p).size : Int) ≤ ((strOf v).size : Int) := by rw [size8, size8]; have := (hm rfl).1; omega
  have hc2 : (strOf v).extract 0 (strOf p).size = strOf p := by rw [take8, size8, (hm rfl).2]
  clear hT hm hpe hp
  go_enter Tryd.func5, Tryd.ntmps5
  go_wp2_with fail
  refine (head_any _ HT.out).mono ?_
  rintro e w1 ⟨rfl, b1⟩
  have T1 := Lib.hid (ut_keep HT.out b1)
  have O1 := O0.out.keep b1
  have B1 := Lib.hid (b0.trans (b1.mono b0.size))
  have O1h := Lib.hid O1
  obtain ⟨x0, x1, x2, x3, x4⟩ := O1
  clear b1 HT O0
  go_wp2_with fail
  with_reducible refine (make_is _ _ _ _ _ l 0 _ HM _ T1.out).mono ?_
  rintro e w2 ⟨a2, b2, c2, d2, e2, t2, q2, rfl, k2, hQ⟩
  obtain ⟨Y, hY⟩ : ∃ Y, Y = w2.alloc (.cells #[.bool false, .bool a2, .bool b2, .bool c2, .bool d2, .bool e2, .string (strOf t2), .pointer q2] 27) := ⟨_, rfl⟩
  have b2Y : Below w2.heap.size w2 Y := by rw [hY]; exact (Below.refl _ _).alloc (Nat.le_refl _) _
  have OY := Lib.hid (O1h.out.keep (k2.trans (b2Y.mono k2.size)))
  have BY := Lib.hid (B1.out.trans ((k2.trans (b2Y.mono k2.size)).mono B1.out.size))
  have AY : At8 Y w2.heap.size (.bool false) (.bool a2) (.bool b2) (.bool c2) (.bool d2) (.bool e2) (.string (strOf t2)) (.pointer q2) := by rw [hY]; exact At8.new w2 _ _ _ _ _ _ _ _ _
  have AYh := Lib.hid AY
  have QY := Lib.hid (hQ.keep b2Y).get
  clear O1h T1 B1 k2 b2Y hQ x0 x1 x2 x3 x4
  obtain ⟨y0, y1, y2, y3, y4, y5, y6, y7⟩ := AY
  go_wp2_with fail
  rw [← hY]
  clear hY y0 y1 y2 y3 y4 y5 y6 y7
  with_reducible refine (QW.begins QY p HP _ (Below.refl _ _)).mono ?_
  rintro e w3 ⟨rfl, k3⟩
  obtain ⟨y0, y1, y2, y3, y4, y5, y6, y7⟩ := AYh.out.keep k3
  go_wp2_with fail
  with_reducible refine (QW.is QY v _ HMm _ k3).mono ?_
  rintro e w4 ⟨rfl, k4⟩
  replace k4 := k3.trans (k4.mono k3.size)
  clear y0 y1 y2 y3 y4 y5 y6 y7
  obtain ⟨y0, y1, y2, y3, y4, y5, y6, y7⟩ := AYh.out.keep k4
  obtain ⟨x0, x1, x2, x3, x4⟩ := OY.out.keep k4
  go_wp2_with fail
  go_ret
  exact ⟨rfl, BY.out.trans (k4.mono BY.out.size)⟩
set_option maxHeartbeats 8000000 in
theorem fp_btff (sp : Bool) (l v p : List UInt8) (hl : l.length ≤ 30) (hv : v.length ≤ 30) (HM : MkIs l sp true 0 false) (HMm : Hid (matQ l true true true sp true v = false ∧ v.length ≤ 10000)) (HP : Hid (preQ l true true true sp true = p)) (hp : p.length ≤ 1000)
    (hpe : p.isEmpty = false) (hm : false = true → p.length ≤ v.length ∧ v.take p.length = p) (w : World) (hT : UT w) :
    Calls Tryd.prog 5 #[.string (strOf l), .string (strOf v), .agg #[.bool true, .bool true, .bool true, .bool sp, .bool true]] w fun e w' => e = .returned (.bool true) ∧ Below w.heap.size w w' := by
  have hz : ((strOf l).size : Int) ≤ 30 := by rw [size8]; omega
  have hz2 : ((strOf v).size : Int) ≤ 30 := by rw [size8]; omega
  have b0 := (Below.refl w.heap.size w).alloc (Nat.le_refl _) (.cells #[.bool true, .bool true, .bool true, .bool sp, .bool true] 23)
  have HT := Lib.hid (ut_keep hT b0)
  have O0 := Lib.hid (OptAt.new w true true true sp true)
  have he : (strOf p).toList.isEmpty = false := by rw [str_empty]; exact hpe
  have hps : (strOf p).size ≤ 1000 := by rw [size8]; omega
  clear hT hm hpe hp
  go_enter Tryd.func5, Tryd.ntmps5
  go_wp2_with fail
  refine (head_any _ HT.out).mono ?_
  rintro e w1 ⟨rfl, b1⟩
  have T1 := Lib.hid (ut_keep HT.out b1)
  have O1 := O0.out.keep b1
  have B1 := Lib.hid (b0.trans (b1.mono b0.size))
  have O1h := Lib.hid O1
  obtain ⟨x0, x1, x2, x3, x4⟩ := O1
  clear b1 HT O0
  go_wp2_with fail
  with_reducible refine (make_is _ _ _ _ _ l 0 _ HM _ T1.out).mono ?_
  rintro e w2 ⟨a2, b2, c2, d2, e2, t2, q2, rfl, k2, hQ⟩
  obtain ⟨Y, hY⟩ : ∃ Y, Y = w2.alloc (.cells #[.bool false, .bool a2, .bool b2, .bool c2, .bool d2, .bool e2, .string (strOf t2), .pointer q2] 27) := ⟨_, rfl⟩
  have b2Y : Below w2.heap.size w2 Y := by rw [hY]; exact (Below.refl _ _).alloc (Nat.le_refl _) _
  have OY := Lib.hid (O1h.out.keep (k2.trans (b2Y.mono k2.size)))
  have BY := Lib.hid (B1.out.trans ((k2.trans (b2Y.mono k2.size)).mono B1.out.size))
  have AY : At8 Y w2.heap.size (.bool false) (.bool a2) (.bool b2) (.bool c2) (.bool d2) (.bool e2) (.string (strOf t2)) (.pointer q2) := by rw [hY]; exact At8.new w2 _ _ _ _ _ _ _ _ _
  have AYh := Lib.hid AY
  have QY := Lib.hid (hQ.keep b2Y).get
  clear O1h T1 B1 k2 b2Y hQ x0 x1 x2 x3 x4
  obtain ⟨y0, y1, y2, y3, y4, y5, y6, y7⟩ := AY
  go_wp2_with fail
  rw [← hY]
  clear hY y0 y1 y2 y3 y4 y5 y6 y7
  with_reducible refine (QW.begins QY p HP _ (Below.refl _ _)).mono ?_
  rintro e w3 ⟨rfl, k3⟩
  obtain ⟨y0, y1, y2, y3, y4, y5, y6, y7⟩ := AYh.out.keep k3
  go_wp2_with fail
  with_reducible refine (QW.is QY v _ HMm _ k3).mono ?_
  rintro e w4 ⟨rfl, k4⟩
  replace k4 := k3.trans (k4.mono k3.size)
  clear y0 y1 y2 y3 y4 y5 y6 y7
  obtain ⟨y0, y1, y2, y3, y4, y5, y6, y7⟩ := AYh.out.keep k4
  obtain ⟨x0, x1, x2, x3, x4⟩ := OY.out.keep k4
  go_wp2_with fail
  go_ret
  exact ⟨rfl, BY.out.trans (k4.mono BY.out.size)⟩
set_option maxHeartbeats 8000000 in
theorem fp_bftt (sp : Bool) (l v p : List UInt8) (hl : l.length ≤ 30) (hv : v.length ≤ 30) (HM : MkIs l sp true 0 false) (HMm : Hid (matQ l true true false sp true v = true ∧ v.length ≤ 10000)) (HP : Hid (preQ l true true false sp true = p)) (hp : p.length ≤ 1000)
    (hpe : p.isEmpty = true) (hm : true = true → p.length ≤ v.length ∧ v.take p.length = p) (w : World) (hT : UT w) :
    Calls Tryd.prog 5 #[.string (strOf l), .string (strOf v), .agg #[.bool true, .bool true, .bool false, .bool sp, .bool true]] w fun e w' => e = .returned (.bool true) ∧ Below w.heap.size w w' := by
  have hz : ((strOf l).size : Int) ≤ 30 := by rw [size8]; omega
  have hz2 : ((strOf v).size : Int) ≤ 30 := by rw [size8]; omega
  have b0 := (Below.refl w.heap.size w).alloc (Nat.le_refl _) (.cells #[.bool true, .bool true, .bool false, .bool sp, .bool true] 23)
  have HT := Lib.hid (ut_keep hT b0)
  have O0 := Lib.hid (OptAt.new w true true false sp true)
  have he : (strOf p).toList.isEmpty = true := by rw [str_empty]; exact hpe
  have hps : (strOf p).size ≤ 1000 := by rw [size8]; omega
  have hself : ((strOf p).toList == (strOf p).toList) = true := by simp
  have hc1 : ((strOf p).size : Int) ≤ ((strOf v).size : Int) := by rw [size8, size8]; have := (hm rfl).1; omega
  have hc2 : (strOf v).extract 0 (strOf p).size = strOf p := by rw [take8, size8, (hm rfl).2]
  clear hT hm hpe hp
  go_enter Tryd.func5, Tryd.ntmps5
  go_wp2_with fail
  refine (head_any _ HT.out).mono ?_
  rintro e w1 ⟨rfl, b1⟩
  have T1 := Lib.hid (ut_keep HT.out b1)
  have O1 := O0.out.keep b1
  have B1 := Lib.hid (b0.trans (b1.mono b0.size))
  have O1h := Lib.hid O1
  obtain ⟨x0, x1, x2, x3, x4⟩ := O1
  clear b1 HT O0
  go_wp2_with fail
  with_reducible refine (make_is _ _ _ _ _ l 0 _ HM _ T1.out).mono ?_
  rintro e w2 ⟨a2, b2, c2, d2, e2, t2, q2, rfl, k2, hQ⟩
  obtain ⟨Y, hY⟩ : ∃ Y, Y = w2.alloc (.cells #[.bool false, .bool a2, .bool b2, .bool c2, .bool d2, .bool e2, .string (strOf t2), .pointer q2] 27) := ⟨_, rfl⟩
  have b2Y : Below w2.heap.size w2 Y := by rw [hY]; exact (Below.refl _ _).alloc (Nat.le_refl _) _
  have OY := Lib.hid (O1h.out.keep (k2.trans (b2Y.mono k2.size)))
  have BY := Lib.hid (B1.out.trans ((k2.trans (b2Y.mono k2.size)).mono B1.out.size))
  have AY : At8 Y w2.heap.size (.bool false) (.bool a2) (.bool b2) (.bool c2) (.bool d2) (.bool e2) (.string (strOf t2)) (.pointer q2) := by rw [hY]; exact At8.new w2 _ _ _ _ _ _ _ _ _
  have AYh := Lib.hid AY
  have QY := Lib.hid (hQ.keep b2Y).get
  clear O1h T1 B1 k2 b2Y hQ x0 x1 x2 x3 x4
  obtain ⟨y0, y1, y2, y3, y4, y5, y6, y7⟩ := AY
  go_wp2_with fail
  rw [← hY]
  clear hY y0 y1 y2 y3 y4 y5 y6 y7
  with_reducible refine (QW.begins QY p HP _ (Below.refl _ _)).mono ?_
  rintro e w3 ⟨rfl, k3⟩
  obtain ⟨y0, y1, y2, y3, y4, y5, y6, y7⟩ := AYh.out.keep k3
  go_wp2_with fail
  with_reducible refine (QW.is QY v _ HMm _ k3).mono ?_
  rintro e w4 ⟨rfl, k4⟩
  replace k4 := k3.trans (k4.mono k3.size)
  clear y0 y1 y2 y3 y4 y5 y6 y7
  obtain ⟨y0, y1, y2, y3, y4, y5, y6, y7⟩ := AYh.out.keep k4
  obtain ⟨x0, x1, x2, x3, x4⟩ := OY.out.keep k4
  go_wp2_with fail
  go_ret
  exact ⟨rfl, BY.out.trans (k4.mono BY.out.size)⟩
set_option maxHeartbeats 8000000 in
theorem fp_bftf (sp : Bool) (l v p : List UInt8) (hl : l.length ≤ 30) (hv : v.length ≤ 30) (HM : MkIs l sp true 0 false) (HMm : Hid (matQ l true true false sp true v = false ∧ v.length ≤ 10000)) (HP : Hid (preQ l true true false sp true = p)) (hp : p.length ≤ 1000)
    (hpe : p.isEmpty = true) (hm : false = true → p.length ≤ v.length ∧ v.take p.length = p) (w : World) (hT : UT w) :
    Calls Tryd.prog 5 #[.string (strOf l), .string (strOf v), .agg #[.bool true, .bool true, .bool false, .bool sp, .bool true]] w fun e w' => e = .returned (.bool true) ∧ Below w.heap.size w w' := by
  have hz : ((strOf l).size : Int) ≤ 30 := by rw [size8]; omega
  have hz2 : ((strOf v).size : Int) ≤ 30 := by rw [size8]; omega
  have b0 := (Below.refl w.heap.size w).alloc (Nat.le_refl _) (.cells #[.bool true, .bool true, .bool false, .bool sp, .bool true] 23)
  have HT := Lib.hid (ut_keep hT b0)
  have O0 := Lib.hid (OptAt.new w true true false sp true)
  have he : (strOf p).toList.isEmpty = true := by rw [str_empty]; exact hpe
  have hps : (strOf p).size ≤ 1000 := by rw [size8]; omega
  clear hT hm hpe hp
  go_enter Tryd.func5, Tryd.ntmps5
  go_wp2_with fail
  refine (head_any _ HT.out).mono ?_
  rintro e w1 ⟨rfl, b1⟩
  have T1 := Lib.hid (ut_keep HT.out b1)
  have O1 := O0.out.keep b1
  have B1 := Lib.hid (b0.trans (b1.mono b0.size))
  have O1h := Lib.hid O1
  obtain ⟨x0, x1, x2, x3, x4⟩ := O1
  clear b1 HT O0
  go_wp2_with fail
  with_reducible refine (make_is _ _ _ _ _ l 0 _ HM _ T1.out).mono ?_
  rintro e w2 ⟨a2, b2, c2, d2, e2, t2, q2, rfl, k2, hQ⟩
  obtain ⟨Y, hY⟩ : ∃ Y, Y = w2.alloc (.cells #[.bool false, .bool a2, .bool b2, .bool c2, .bool d2, .bool e2, .string (strOf t2), .pointer q2] 27) := ⟨_, rfl⟩
  have b2Y : Below w2.heap.size w2 Y := by rw [hY]; exact (Below.refl _ _).alloc (Nat.le_refl _) _
  have OY := Lib.hid (O1h.out.keep (k2.trans (b2Y.mono k2.size)))
  have BY := Lib.hid (B1.out.trans ((k2.trans (b2Y.mono k2.size)).mono B1.out.size))
  have AY : At8 Y w2.heap.size (.bool false) (.bool a2) (.bool b2) (.bool c2) (.bool d2) (.bool e2) (.string (strOf t2)) (.pointer q2) := by rw [hY]; exact At8.new w2 _ _ _ _ _ _ _ _ _
  have AYh := Lib.hid AY
  have QY := Lib.hid (hQ.keep b2Y).get
  clear O1h T1 B1 k2 b2Y hQ x0 x1 x2 x3 x4
  obtain ⟨y0, y1, y2, y3, y4, y5, y6, y7⟩ := AY
  go_wp2_with fail
  rw [← hY]
  clear hY y0 y1 y2 y3 y4 y5 y6 y7
  with_reducible refine (QW.begins QY p HP _ (Below.refl _ _)).mono ?_
  rintro e w3 ⟨rfl, k3⟩
  obtain ⟨y0, y1, y2, y3, y4, y5, y6, y7⟩ := AYh.out.keep k3
  go_wp2_with fail
  with_reducible refine (QW.is QY v _ HMm _ k3).mono ?_
  rintro e w4 ⟨rfl, k4⟩
  replace k4 := k3.trans (k4.mono k3.size)
  clear y0 y1 y2 y3 y4 y5 y6 y7
  obtain ⟨y0, y1, y2, y3, y4, y5, y6, y7⟩ := AYh.out.keep k4
  obtain ⟨x0, x1, x2, x3, x4⟩ := OY.out.keep k4
  go_wp2_with fail
  go_ret
  exact ⟨rfl, BY.out.trans (k4.mono BY.out.size)⟩
set_option maxHeartbeats 8000000 in
theorem fp_bfft (sp : Bool) (l v p : List UInt8) (hl : l.length ≤ 30) (hv : v.length ≤ 30) (HM : MkIs l sp true 0 false) (HMm : Hid (matQ l true true false sp true v = true ∧ v.length ≤ 10000)) (HP : Hid (preQ l true true false sp true = p)) (hp : p.length ≤ 1000)
    (hpe : p.isEmpty = false) (hm : true = true → p.length ≤ v.length ∧ v.take p.length = p) (w : World) (hT : UT w) :
    Calls Tryd.prog 5 #[.string (strOf l), .string (strOf v), .agg #[.bool true, .bool true, .bool false, .bool sp, .bool true]] w fun e w' => e = .returned (.bool true) ∧ Below w.heap.size w w' := by
  have hz : ((strOf l).size : Int) ≤ 30 := by rw [size8]; omega
  have hz2 : ((strOf v).size : Int) ≤ 30 := by rw [size8]; omega
  have b0 := (Below.refl w.heap.size w).alloc (Nat.le_refl _) (.cells #[.bool true, .bool true, .bool false, .bool sp, .bool true] 23)
  have HT := Lib.hid (ut_keep hT b0)
  have O0 := Lib.hid (OptAt.new w true true false sp true)
  have he : (strOf p).toList.isEmpty = false := by rw [str_empty]; exact hpe
  have hps : (strOf p).size ≤ 1000 := by rw [size8]; omega
  have hself : ((strOf p).toList == (strOf p).toList) = true := by simp
  have hc1 : ((strOf p).size : Int) ≤ ((strOf v).size : Int) := by rw [size8, size8]; have := (hm rfl).1; omega
  have hc2 : (strOf v).extract 0 (strOf p).size = strOf p := by rw [take8, size8, (hm rfl).2]
  clear hT hm hpe hp
  go_enter Tryd.func5, Tryd.ntmps5
  go_wp2_with fail
  refine (head_any _ HT.out).mono ?_
  rintro e w1 ⟨rfl, b1⟩
  have T1 := Lib.hid (ut_keep HT.out b1)
  have O1 := O0.out.keep b1
  have B1 := Lib.hid (b0.trans (b1.mono b0.size))
  have O1h := Lib.hid O1
  obtain ⟨x0, x1, x2, x3, x4⟩ := O1
  clear b1 HT O0
  go_wp2_with fail
  with_reducible refine (make_is _ _ _ _ _ l 0 _ HM _ T1.out).mono ?_
  rintro e w2 ⟨a2, b2, c2, d2, e2, t2, q2, rfl, k2, hQ⟩
  obtain ⟨Y, hY⟩ : ∃ Y, Y = w2.alloc (.cells #[.bool false, .bool a2, .bool b2, .bool c2, .bool d2, .bool e2, .string (strOf t2), .pointer q2] 27) := ⟨_, rfl⟩
  have b2Y : Below w2.heap.size w2 Y := by rw [hY]; exact (Below.refl _ _).alloc (Nat.le_refl _) _
  have OY := Lib.hid (O1h.out.keep (k2.trans (b2Y.mono k2.size)))
  have BY := Lib.hid (B1.out.trans ((k2.trans (b2Y.mono k2.size)).mono B1.out.size))
  have AY : At8 Y w2.heap.size (.bool false) (.bool a2) (.bool b2) (.bool c2) (.bool d2) (.bool e2) (.string (strOf t2)) (.pointer q2) := by rw [hY]; exact At8.new w2 _ _ _ _ _ _ _ _ _
  have AYh := Lib.hid AY
  have QY := Lib.hid (hQ.keep b2Y).get
  clear O1h T1 B1 k2 b2Y hQ x0 x1 x2 x3 x4
  obtain ⟨y0, y1, y2, y3, y4, y5, y6, y7⟩ := AY
  go_wp2_with fail
  rw [← hY]
  clear hY y0 y1 y2 y3 y4 y5 y6 y7
  with_reducible refine (QW.begins QY p HP _ (Below.refl _ _)).mono ?_
  rintro e w3 ⟨rfl, k3⟩
  obtain ⟨y0, y1, y2, y3, y4, y5, y6, y7⟩ := AYh.out.keep k3
  go_wp2_with fail
  with_reducible refine (QW.is QY v _ HMm _ k3).mono ?_
  rintro e w4 ⟨rfl, k4⟩
  replace k4 := k3.trans (k4.mono k3.size)
  clear y0 y1 y2 y3 y4 y5 y6 y7
  obtain ⟨y0, y1, y2, y3, y4, y5, y6, y7⟩ := AYh.out.keep k4
  obtain ⟨x0, x1, x2, x3, x4⟩ := OY.out.keep k4
  go_wp2_with fail
  go_ret
  exact ⟨rfl, BY.out.trans (k4.mono BY.out.size)⟩
set_option maxHeartbeats 8000000 in
theorem fp_bfff (sp : Bool) (l v p : List UInt8) (hl : l.length ≤ 30) (hv : v.length ≤ 30) (HM : MkIs l sp true 0 false) (HMm : Hid (matQ l true true false sp true v = false ∧ v.length ≤ 10000)) (HP : Hid (preQ l true true false sp true = p)) (hp : p.length ≤ 1000)
    (hpe : p.isEmpty = false) (hm : false = true → p.length ≤ v.length ∧ v.take p.length = p) (w : World) (hT : UT w) :
    Calls Tryd.prog 5 #[.string (strOf l), .string (strOf v), .agg #[.bool true, .bool true, .bool false, .bool sp, .bool true]] w fun e w' => e = .returned (.bool true) ∧ Below w.heap.size w w' := by
  have hz : ((strOf l).size : Int) ≤ 30 := by rw [size8]; omega
  have hz2 : ((strOf v).size : Int) ≤ 30 := by rw [size8]; omega
  have b0 := (Below.refl w.heap.size w).alloc (Nat.le_refl _) (.cells #[.bool true, .bool true, .bool false, .bool sp, .bool true] 23)
  have HT := Lib.hid (ut_keep hT b0)
  have O0 := Lib.hid (OptAt.new w true true false sp true)
  have he : (strOf p).toList.isEmpty = false := by rw [str_empty]; exact hpe
  have hps : (strOf p).size ≤ 1000 := by rw [size8]; omega
  clear hT hm hpe hp
  go_enter Tryd.func5, Tryd.ntmps5
  go_wp2_with fail
  refine (head_any _ HT.out).mono ?_
  rintro e w1 ⟨rfl, b1⟩
  have T1 := Lib.hid (ut_keep HT.out b1)
  have O1 := O0.out.keep b1
  have B1 := Lib.hid (b0.trans (b1.mono b0.size))
  have O1h := Lib.hid O1
  obtain ⟨x0, x1, x2, x3, x4⟩ := O1
  clear b1 HT O0
  go_wp2_with fail
  with_reducible refine (make_is _ _ _ _ _ l 0 _ HM _ T1.out).mono ?_
  rintro e w2 ⟨a2, b2, c2, d2, e2, t2, q2, rfl, k2, hQ⟩
  obtain ⟨Y, hY⟩ : ∃ Y, Y = w2.alloc (.cells #[.bool false, .bool a2, .bool b2, .bool c2, .bool d2, .bool e2, .string (strOf t2), .pointer q2] 27) := ⟨_, rfl⟩
  have b2Y : Below w2.heap.size w2 Y := by rw [hY]; exact (Below.refl _ _).alloc (Nat.le_refl _) _
  have OY := Lib.hid (O1h.out.keep (k2.trans (b2Y.mono k2.size)))
  have BY := Lib.hid (B1.out.trans ((k2.trans (b2Y.mono k2.size)).mono B1.out.size))
  have AY : At8 Y w2.heap.size (.bool false) (.bool a2) (.bool b2) (.bool c2) (.bool d2) (.bool e2) (.string (strOf t2)) (.pointer q2) := by rw [hY]; exact At8.new w2 _ _ _ _ _ _ _ _ _
  have AYh := Lib.hid AY
  have QY := Lib.hid (hQ.keep b2Y).get
  clear O1h T1 B1 k2 b2Y hQ x0 x1 x2 x3 x4
  obtain ⟨y0, y1, y2, y3, y4, y5, y6, y7⟩ := AY
  go_wp2_with fail
  rw [← hY]
  clear hY y0 y1 y2 y3 y4 y5 y6 y7
  with_reducible refine (QW.begins QY p HP _ (Below.refl _ _)).mono ?_
  rintro e w3 ⟨rfl, k3⟩
  obtain ⟨y0, y1, y2, y3, y4, y5, y6, y7⟩ := AYh.out.keep k3
  go_wp2_with fail
  with_reducible refine (QW.is QY v _ HMm _ k3).mono ?_
  rintro e w4 ⟨rfl, k4⟩
  replace k4 := k3.trans (k4.mono k3.size)
  clear y0 y1 y2 y3 y4 y5 y6 y7
  obtain ⟨y0, y1, y2, y3, y4, y5, y6, y7⟩ := AYh.out.keep k4
  obtain ⟨x0, x1, x2, x3, x4⟩ := OY.out.keep k4
  go_wp2_with fail
  go_ret
  exact ⟨rfl, BY.out.trans (k4.mono BY.out.size)⟩
set_option maxHeartbeats 8000000 in
theorem fp_ctt (sp : Bool) (l v p : List UInt8) (hl : l.length ≤ 30) (hv : v.length ≤ 30) (HM : MkIs l sp false 0 false) (HMm : Hid (matQ l true true false sp false v = true ∧ v.length ≤ 10000)) (HP : Hid (preQ l true true false sp false = p)) (hp : p.length ≤ 1000)
    (hpe : p.isEmpty = true) (hm : true = true → p.length ≤ v.length ∧ v.take p.length = p) (hle : l.isEmpty = true) (w : World) (hT : UT w) :
    Calls Tryd.prog 5 #[.string (strOf l), .string (strOf v), .agg #[.bool true, .bool true, .bool false, .bool sp, .bool false]] w fun e w' => e = .returned (.bool true) ∧ Below w.heap.size w w' := by
  have hz : ((strOf l).size : Int) ≤ 30 := by rw [size8]; omega
  have hz2 : ((strOf v).size : Int) ≤ 30 := by rw [size8]; omega
  have b0 := (Below.refl w.heap.size w).alloc (Nat.le_refl _) (.cells #[.bool true, .bool true, .bool false, .bool sp, .bool false] 23)
  have HT := Lib.hid (ut_keep hT b0)
  have O0 := Lib.hid (OptAt.new w true true false sp false)
  have he : (strOf p).toList.isEmpty = true := by rw [str_empty]; exact hpe
  have hps : (strOf p).size ≤ 1000 := by rw [size8]; omega
  have hself : ((strOf p).toList == (strOf p).toList) = true := by simp
  have hc1 : ((strOf p).size : Int) ≤ ((strOf v).size : Int) := by rw [size8, size8]; have := (hm rfl).1; omega
  have hc2 : (strOf v).extract 0 (strOf p).size = strOf p := by rw [take8, size8, (hm rfl).2]
  have hel : (strOf l).toList.isEmpty = true := by rw [str_empty]; exact hle
  clear hT hm hpe hp hle
  go_enter Tryd.func5, Tryd.ntmps5
  go_wp2_with fail
  refine (head_any _ HT.out).mono ?_
  rintro e w1 ⟨rfl, b1⟩
  have T1 := Lib.hid (ut_keep HT.out b1)
  have O1 := O0.out.keep b1
  have B1 := Lib.hid (b0.trans (b1.mono b0.size))
  have O1h := Lib.hid O1
  obtain ⟨x0, x1, x2, x3, x4⟩ := O1
  clear b1 HT O0
  go_wp2_with fail
  with_reducible refine (make_is _ _ _ _ _ l 0 _ HM _ T1.out).mono ?_
  rintro e w2 ⟨a2, b2, c2, d2, e2, t2, q2, rfl, k2, hQ⟩
  obtain ⟨Y, hY⟩ : ∃ Y, Y = w2.alloc (.cells #[.bool false, .bool a2, .bool b2, .bool c2, .bool d2, .bool e2, .string (strOf t2), .pointer q2] 27) := ⟨_, rfl⟩
  have b2Y : Below w2.heap.size w2 Y := by rw [hY]; exact (Below.refl _ _).alloc (Nat.le_refl _) _
  have OY := Lib.hid (O1h.out.keep (k2.trans (b2Y.mono k2.size)))
  have BY := Lib.hid (B1.out.trans ((k2.trans (b2Y.mono k2.size)).mono B1.out.size))
  have AY : At8 Y w2.heap.size (.bool false) (.bool a2) (.bool b2) (.bool c2) (.bool d2) (.bool e2) (.string (strOf t2)) (.pointer q2) := by rw [hY]; exact At8.new w2 _ _ _ _ _ _ _ _ _
  have AYh := Lib.hid AY
  have QY := Lib.hid (hQ.keep b2Y).get
  clear O1h T1 B1 k2 b2Y hQ x0 x1 x2 x3 x4
  obtain ⟨y0, y1, y2, y3, y4, y5, y6, y7⟩ := AY
  go_wp2_with fail
  rw [← hY]
  clear hY y0 y1 y2 y3 y4 y5 y6 y7
  with_reducible refine (QW.begins QY p HP _ (Below.refl _ _)).mono ?_
  rintro e w3 ⟨rfl, k3⟩
  obtain ⟨y0, y1, y2, y3, y4, y5, y6, y7⟩ := AYh.out.keep k3
  go_wp2_with fail
  with_reducible refine (QW.is QY v _ HMm _ k3).mono ?_
  rintro e w4 ⟨rfl, k4⟩
  replace k4 := k3.trans (k4.mono k3.size)
  clear y0 y1 y2 y3 y4 y5 y6 y7
  obtain ⟨y0, y1, y2, y3, y4, y5, y6, y7⟩ := AYh.out.keep k4
  obtain ⟨x0, x1, x2, x3, x4⟩ := OY.out.keep k4
  go_wp2_with fail
  go_ret
  exact ⟨rfl, BY.out.trans (k4.mono BY.out.size)⟩
set_option maxHeartbeats 8000000 in
theorem fp_ctf (sp : Bool) (l v p : List UInt8) (hl : l.length ≤ 30) (hv : v.length ≤ 30) (HM : MkIs l sp false 0 false) (HMm : Hid (matQ l true true false sp false v = false ∧ v.length ≤ 10000)) (HP : Hid (preQ l true true false sp false = p)) (hp : p.length ≤ 1000)
    (hpe : p.isEmpty = true) (hm : false = true → p.length ≤ v.length ∧ v.take p.length = p) (hle : l.isEmpty = true) (w : World) (hT : UT w) :
    Calls Tryd.prog 5 #[.string (strOf l), .string (strOf v), .agg #[.bool true, .bool true, .bool false, .bool sp, .bool false]] w fun e w' => e = .returned (.bool true) ∧ Below w.heap.size w w' := by
  have hz : ((strOf l).size : Int) ≤ 30 := by rw [size8]; omega
  have hz2 : ((strOf v).size : Int) ≤ 30 := by rw [size8]; omega
  have b0 := (Below.refl w.heap.size w).alloc (Nat.le_refl _) (.cells #[.bool true, .bool true, .bool false, .bool sp, .bool false] 23)
  have HT := Lib.hid (ut_keep hT b0)
  have O0 := Lib.hid (OptAt.new w true true false sp false)
  have he : (strOf p).toList.isEmpty = true := by rw [str_empty]; exact hpe
  have hps : (strOf p).size ≤ 1000 := by rw [size8]; omega
  have hel : (strOf l).toList.isEmpty = true := by rw [str_empty]; exact hle
  clear hT hm hpe hp hle
  go_enter Tryd.func5, Tryd.ntmps5
  go_wp2_with fail
  refine (head_any _ HT.out).mono ?_
  rintro e w1 ⟨rfl, b1⟩
  have T1 := Lib.hid (ut_keep HT.out b1)
  have O1 := O0.out.keep b1
  have B1 := Lib.hid (b0.trans (b1.mono b0.size))
  have O1h := Lib.hid O1
  obtain ⟨x0, x1, x2, x3, x4⟩ := O1
  clear b1 HT O0
  go_wp2_with fail
  with_reducible refine (make_is _ _ _ _ _ l 0 _ HM _ T1.out).mono ?_
  rintro e w2 ⟨a2, b2, c2, d2, e2, t2, q2, rfl, k2, hQ⟩
  obtain ⟨Y, hY⟩ : ∃ Y, Y = w2.alloc (.cells #[.bool false, .bool a2, .bool b2, .bool c2, .bool d2, .bool e2, .string (strOf t2), .pointer q2] 27) := ⟨_, rfl⟩
  have b2Y : Below w2.heap.size w2 Y := by rw [hY]; exact (Below.refl _ _).alloc (Nat.le_refl _) _
  have OY := Lib.hid (O1h.out.keep (k2.trans (b2Y.mono k2.size)))
  have BY := Lib.hid (B1.out.trans ((k2.trans (b2Y.mono k2.size)).mono B1.out.size))
  have AY : At8 Y w2.heap.size (.bool false) (.bool a2) (.bool b2) (.bool c2) (.bool d2) (.bool e2) (.string (strOf t2)) (.pointer q2) := by rw [hY]; exact At8.new w2 _ _ _ _ _ _ _ _ _
  have AYh := Lib.hid AY
  have QY := Lib.hid (hQ.keep b2Y).get
  clear O1h T1 B1 k2 b2Y hQ x0 x1 x2 x3 x4
  obtain ⟨y0, y1, y2, y3, y4, y5, y6, y7⟩ := AY
  go_wp2_with fail
  rw [← hY]
  clear hY y0 y1 y2 y3 y4 y5 y6 y7
  with_reducible refine (QW.begins QY p HP _ (Below.refl _ _)).mono ?_
  rintro e w3 ⟨rfl, k3⟩
  obtain ⟨y0, y1, y2, y3, y4, y5, y6, y7⟩ := AYh.out.keep k3
  go_wp2_with fail
  with_reducible refine (QW.is QY v _ HMm _ k3).mono ?_
  rintro e w4 ⟨rfl, k4⟩
  replace k4 := k3.trans (k4.mono k3.size)
  clear y0 y1 y2 y3 y4 y5 y6 y7
  obtain ⟨y0, y1, y2, y3, y4, y5, y6, y7⟩ := AYh.out.keep k4
  obtain ⟨x0, x1, x2, x3, x4⟩ := OY.out.keep k4
  go_wp2_with fail
  go_ret
  exact ⟨rfl, BY.out.trans (k4.mono BY.out.size)⟩
set_option maxHeartbeats 8000000 in
theorem fp_cft (sp : Bool) (l v p : List UInt8) (hl : l.length ≤ 30) (hv : v.length ≤ 30) (HM : MkIs l sp false 0 false) (HMm : Hid (matQ l true true false sp false v = true ∧ v.length ≤ 10000)) (HP : Hid (preQ l true true false sp false = p)) (hp : p.length ≤ 1000)
    (hpe : p.isEmpty = false) (hm : true = true → p.length ≤ v.length ∧ v.take p.length = p) (hle : l.isEmpty = false) (w : World) (hT : UT w) :
    Calls Tryd.prog 5 #[.string (strOf l), .string (strOf v), .agg #[.bool true, .bool true, .bool false, .bool sp, .bool false]] w fun e w' => e = .returned (.bool true) ∧ Below w.heap.size w w' := by
  have hz : ((strOf l).size : Int) ≤ 30 := by rw [size8]; omega
  have hz2 : ((strOf v).size : Int) ≤ 30 := by rw [size8]; omega
  have b0 := (Below.refl w.heap.size w).alloc (Nat.le_refl _) (.cells #[.bool true, .bool true, .bool false, .bool sp, .bool false] 23)
  have HT := Lib.hid (ut_keep hT b0)
  have O0 := Lib.hid (OptAt.new w true true false sp false)
  have he : (strOf p).toList.isEmpty = false := by rw [str_empty]; exact hpe
  have hps : (strOf p).size ≤ 1000 := by rw [size8]; omega
  have hself : ((strOf p).toList == (strOf p).toList) = true := by simp
  have hc1 : ((strOf p).size : Int) ≤ ((strOf v).size : Int) := by rw [size8, size8]; have := (hm rfl).1; omega
  have hc2 : (strOf v).extract 0 (strOf p).size = strOf p := by rw [take8, size8, (hm rfl).2]
  have hel : (strOf l).toList.isEmpty = false := by rw [str_empty]; exact hle
  clear hT hm hpe hp hle
  go_enter Tryd.func5, Tryd.ntmps5
  go_wp2_with fail
  refine (head_any _ HT.out).mono ?_
  rintro e w1 ⟨rfl, b1⟩
  have T1 := Lib.hid (ut_keep HT.out b1)
  have O1 := O0.out.keep b1
  have B1 := Lib.hid (b0.trans (b1.mono b0.size))
  have O1h := Lib.hid O1
  obtain ⟨x0, x1, x2, x3, x4⟩ := O1
  clear b1 HT O0
  go_wp2_with fail
  with_reducible refine (make_is _ _ _ _ _ l 0 _ HM _ T1.out).mono ?_
  rintro e w2 ⟨a2, b2, c2, d2, e2, t2, q2, rfl, k2, hQ⟩
  obtain ⟨Y, hY⟩ : ∃ Y, Y = w2.alloc (.cells #[.bool false, .bool a2, .bool b2, .bool c2, .bool d2, .bool e2, .string (strOf t2), .pointer q2] 27) := ⟨_, rfl⟩
  have b2Y : Below w2.heap.size w2 Y := by rw [hY]; exact (Below.refl _ _).alloc (Nat.le_refl _) _
  have OY := Lib.hid (O1h.out.keep (k2.trans (b2Y.mono k2.size)))
  have BY := Lib.hid (B1.out.trans ((k2.trans (b2Y.mono k2.size)).mono B1.out.size))
  have AY : At8 Y w2.heap.size (.bool false) (.bool a2) (.bool b2) (.bool c2) (.bool d2) (.bool e2) (.string (strOf t2)) (.pointer q2) := by rw [hY]; exact At8.new w2 _ _ _ _ _ _ _ _ _
  have AYh := Lib.hid AY
  have QY := Lib.hid (hQ.keep b2Y).get
  clear O1h T1 B1 k2 b2Y hQ x0 x1 x2 x3 x4
  obtain ⟨y0, y1, y2, y3, y4, y5, y6, y7⟩ := AY
  go_wp2_with fail
  rw [← hY]
  clear hY y0 y1 y2 y3 y4 y5 y6 y7
  with_reducible refine (QW.begins QY p HP _ (Below.refl _ _)).mono ?_
  rintro e w3 ⟨rfl, k3⟩
  obtain ⟨y0, y1, y2, y3, y4, y5, y6, y7⟩ := AYh.out.keep k3
  go_wp2_with fail
  with_reducible refine (QW.is QY v _ HMm _ k3).mono ?_
  rintro e w4 ⟨rfl, k4⟩
  replace k4 := k3.trans (k4.mono k3.size)
  clear y0 y1 y2 y3 y4 y5 y6 y7
  obtain ⟨y0, y1, y2, y3, y4, y5, y6, y7⟩ := AYh.out.keep k4
  obtain ⟨x0, x1, x2, x3, x4⟩ := OY.out.keep k4
  go_wp2_with fail
  go_ret
  exact ⟨rfl, BY.out.trans (k4.mono BY.out.size)⟩
set_option maxHeartbeats 8000000 in
theorem fp_cff (sp : Bool) (l v p : List UInt8) (hl : l.length ≤ 30) (hv : v.length ≤ 30) (HM : MkIs l sp false 0 false) (HMm : Hid (matQ l true true false sp false v = false ∧ v.length ≤ 10000)) (HP : Hid (preQ l true true false sp false = p)) (hp : p.length ≤ 1000)
    (hpe : p.isEmpty = false) (hm : false = true → p.length ≤ v.length ∧ v.take p.length = p) (hle : l.isEmpty = false) (w : World) (hT : UT w) :
    Calls Tryd.prog 5 #[.string (strOf l), .string (strOf v), .agg #[.bool true, .bool true, .bool false, .bool sp, .bool false]] w fun e w' => e = .returned (.bool true) ∧ Below w.heap.size w w' := by
  have hz : ((strOf l).size : Int) ≤ 30 := by rw [size8]; omega
  have hz2 : ((strOf v).size : Int) ≤ 30 := by rw [size8]; omega
  have b0 := (Below.refl w.heap.size w).alloc (Nat.le_refl _) (.cells #[.bool true, .bool true, .bool false, .bool sp, .bool false] 23)
  have HT := Lib.hid (ut_keep hT b0)
  have O0 := Lib.hid (OptAt.new w true true false sp false)
  have he : (strOf p).toList.isEmpty = false := by rw [str_empty]; exact hpe
  have hps : (strOf p).size ≤ 1000 := by rw [size8]; omega
  have hel : (strOf l).toList.isEmpty = false := by rw [str_empty]; exact hle
  clear hT hm hpe hp hle
  go_enter Tryd.func5, Tryd.ntmps5
  go_wp2_with fail
  refine (head_any _ HT.out).mono ?_
  rintro e w1 ⟨rfl, b1⟩
  have T1 := Lib.hid (ut_keep HT.out b1)
  have O1 := O0.out.keep b1
  have B1 := Lib.hid (b0.trans (b1.mono b0.size))
  have O1h := Lib.hid O1
  obtain ⟨x0, x1, x2, x3, x4⟩ := O1
  clear b1 HT O0
  go_wp2_with fail
  with_reducible refine (make_is _ _ _ _ _ l 0 _ HM _ T1.out).mono ?_
  rintro e w2 ⟨a2, b2, c2, d2, e2, t2, q2, rfl, k2, hQ⟩
  obtain ⟨Y, hY⟩ : ∃ Y, Y = w2.alloc (.cells #[.bool false, .bool a2, .bool b2, .bool c2, .bool d2, .bool e2, .string (strOf t2), .pointer q2] 27) := ⟨_, rfl⟩
  have b2Y : Below w2.heap.size w2 Y := by rw [hY]; exact (Below.refl _ _).alloc (Nat.le_refl _) _
  have OY := Lib.hid (O1h.out.keep (k2.trans (b2Y.mono k2.size)))
  have BY := Lib.hid (B1.out.trans ((k2.trans (b2Y.mono k2.size)).mono B1.out.size))
  have AY : At8 Y w2.heap.size (.bool false) (.bool a2) (.bool b2) (.bool c2) (.bool d2) (.bool e2) (.string (strOf t2)) (.pointer q2) := by rw [hY]; exact At8.new w2 _ _ _ _ _ _ _ _ _
  have AYh := Lib.hid AY
  have QY := Lib.hid (hQ.keep b2Y).get
  clear O1h T1 B1 k2 b2Y hQ x0 x1 x2 x3 x4
  obtain ⟨y0, y1, y2, y3, y4, y5, y6, y7⟩ := AY
  go_wp2_with fail
  rw [← hY]
  clear hY y0 y1 y2 y3 y4 y5 y6 y7
  with_reducible refine (QW.begins QY p HP _ (Below.refl _ _)).mono ?_
  rintro e w3 ⟨rfl, k3⟩
  obtain ⟨y0, y1, y2, y3, y4, y5, y6, y7⟩ := AYh.out.keep k3
  go_wp2_with fail
  with_reducible refine (QW.is QY v _ HMm _ k3).mono ?_
  rintro e w4 ⟨rfl, k4⟩
  replace k4 := k3.trans (k4.mono k3.size)
  clear y0 y1 y2 y3 y4 y5 y6 y7
  obtain ⟨y0, y1, y2, y3, y4, y5, y6, y7⟩ := AYh.out.keep k4
  obtain ⟨x0, x1, x2, x3, x4⟩ := OY.out.keep k4
  go_wp2_with fail
  go_ret
  exact ⟨rfl, BY.out.trans (k4.mono BY.out.size)⟩
end Go.Proofs.YtbchmfkdhaggbaaDoor
