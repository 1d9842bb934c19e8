/- FormWider answers true. -/
import Derived.Test.YtbchmfkdhaggbaaDoorAlFw
namespace Go.Proofs.YtbchmfkdhaggbaaDoor
open Go.RowKit
set_option maxRecDepth 100000

theorem wider_q (l v : List UInt8) (cs mk sp c2 m2 s2 : Bool) (hc : c2 = true → cs = true) (hm : m2 = true → mk = true) (h : matQ l cs mk false sp false v = true) : matQ l c2 m2 s2 sp false v = true := by
  unfold matQ at h ⊢
  cases ha : anyQ l sp with
  | true => rfl
  | false =>
    rw [ha] at h
    have e : wholeL cs mk v = wholeL cs mk l := of_decide_eq_true h
    have e2 : wholeL c2 m2 v = wholeL c2 m2 l := by rw [← wholeL_wider cs mk c2 m2 hc hm v, e, wholeL_wider cs mk c2 m2 hc hm l]
    refine decide_eq_true ?_
    unfold ofL
    rw [e2]
set_option maxHeartbeats 8000000 in
theorem fwi_one (cs mk st sp wd : Bool) (l v : List UInt8) (E : Int) (A m : Bool) (hw : E = 10 ∨ (E = 0 ∧ m = false)) (hl : l.length ≤ 30) (hv : v.length ≤ 30) (HM : MkIs l sp false E A) (M1 : Hid (matQ l cs mk false sp false v = m ∧ v.length ≤ 10000)) (w : World) (hT : UT w) :
    Calls Tryd.prog 7 #[.string (strOf l), .string (strOf v), .agg #[.bool cs, .bool mk, .bool st, .bool sp, .bool wd]] w fun e w' => e = .returned (.bool true) ∧ Below w.heap.size w w' := by
  have hz : ((strOf l).size : Int) ≤ 30 := by rw [size8]; omega
  have hz2 : ((strOf v).size : Int) ≤ 30 := by rw [size8]; omega
  have b0 := (Below.refl w.heap.size w).alloc (Nat.le_refl _) (.cells #[.bool cs, .bool mk, .bool st, .bool sp, .bool wd] 23)
  have HT0 := Lib.hid hT
  have HT := Lib.hid (ut_keep hT b0)
  have O0 := Lib.hid (OptAt.new w cs mk st sp wd)
  have HF := Lib.hid (fun W hb i => OptAt.frz w cs mk st sp wd (W := W) hb i)
  clear hT
  rcases hw with rfl | ⟨rfl, rfl⟩
  · go_enter Tryd.func7, Tryd.ntmps7
    go_wp2_with fail
    refine (head_any _ HT.out).mono ?_
    rintro e w1 ⟨rfl, b1⟩
    have O1 := O0.out.keep b1
    have f4 := HF.out w1 b1 4
    have f2 := HF.out w1 b1 2
    have B1 := Lib.hid (b0.trans (b1.mono b0.size))
    have O1h := Lib.hid O1
    obtain ⟨x0, x1, x2, x3, x4⟩ := O1
    clear b0 b1 HF O0 HT
    go_wp2_with fail
    obtain ⟨X, hX⟩ : ∃ X, X = (w1.setCell ⟨w.heap.size, 2, none⟩ (.bool false)).setCell ⟨w.heap.size, 4, none⟩ (.bool false) := ⟨_, rfl⟩
    rw [← hX]
    have OX : Hid (OptAt X w.heap.size cs mk false sp false) := by rw [hX]; exact (O1h.out.set2 false).set4 false
    have BX : Hid (Below w.heap.size w X) := by rw [hX]; exact (B1.out.setCell (p := ⟨w.heap.size, 2, none⟩) (Nat.le_refl _) _).setCell (p := ⟨w.heap.size, 4, none⟩) (Nat.le_refl _) _
    have TX := Lib.hid (ut_keep HT0.out BX.out)
    clear hX O1h B1 x0 x1 x2 x3 x4 f4 f2
    with_reducible refine (make_is cs mk false sp false l _ A HM _ TX.out).mono ?_
    rintro e w2 ⟨a2, b2, c2, d2, e2, t2, q2, rfl, k2, hQ⟩
    obtain ⟨Y, hY⟩ : ∃ Y, Y = w2.alloc (.cells #[.bool A, .bool a2, .bool b2, .bool c2, .bool d2, .bool e2, .string (strOf t2), .pointer q2] 27) := ⟨_, rfl⟩
    have b2Y : Below w2.heap.size w2 Y := by rw [hY]; exact (Below.refl _ _).alloc (Nat.le_refl _) _
    have OY := Lib.hid (OX.out.keep (k2.trans (b2Y.mono k2.size)))
    have BY := Lib.hid (BX.out.trans ((k2.trans (b2Y.mono k2.size)).mono BX.out.size))
    have AY : At8 Y w2.heap.size (.bool A) (.bool a2) (.bool b2) (.bool c2) (.bool d2) (.bool e2) (.string (strOf t2)) (.pointer q2) := by rw [hY]; exact At8.new w2 _ _ _ _ _ _ _ _ _
    have AYh := Lib.hid AY
    have QY := hQ.keep b2Y
    clear OX TX BX k2 b2Y hQ
    obtain ⟨y0, y1, y2, y3, y4, y5, y6, y7⟩ := AY
    go_wp2_with fail
    go_ret
    exact ⟨rfl, by rw [← hY]; exact BY.out⟩
  · go_enter Tryd.func7, Tryd.ntmps7
    go_wp2_with fail
    refine (head_any _ HT.out).mono ?_
    rintro e w1 ⟨rfl, b1⟩
    have O1 := O0.out.keep b1
    have f4 := HF.out w1 b1 4
    have f2 := HF.out w1 b1 2
    have B1 := Lib.hid (b0.trans (b1.mono b0.size))
    have O1h := Lib.hid O1
    obtain ⟨x0, x1, x2, x3, x4⟩ := O1
    clear b0 b1 HF O0 HT
    go_wp2_with fail
    obtain ⟨X, hX⟩ : ∃ X, X = (w1.setCell ⟨w.heap.size, 2, none⟩ (.bool false)).setCell ⟨w.heap.size, 4, none⟩ (.bool false) := ⟨_, rfl⟩
    rw [← hX]
    have OX : Hid (OptAt X w.heap.size cs mk false sp false) := by rw [hX]; exact (O1h.out.set2 false).set4 false
    have BX : Hid (Below w.heap.size w X) := by rw [hX]; exact (B1.out.setCell (p := ⟨w.heap.size, 2, none⟩) (Nat.le_refl _) _).setCell (p := ⟨w.heap.size, 4, none⟩) (Nat.le_refl _) _
    have TX := Lib.hid (ut_keep HT0.out BX.out)
    clear hX O1h B1 x0 x1 x2 x3 x4 f4 f2
    with_reducible refine (make_is cs mk false sp false l _ A HM _ TX.out).mono ?_
    rintro e w2 ⟨a2, b2, c2, d2, e2, t2, q2, rfl, k2, hQ⟩
    obtain ⟨Y, hY⟩ : ∃ Y, Y = w2.alloc (.cells #[.bool A, .bool a2, .bool b2, .bool c2, .bool d2, .bool e2, .string (strOf t2), .pointer q2] 27) := ⟨_, rfl⟩
    have b2Y : Below w2.heap.size w2 Y := by rw [hY]; exact (Below.refl _ _).alloc (Nat.le_refl _) _
    have OY := Lib.hid (OX.out.keep (k2.trans (b2Y.mono k2.size)))
    have BY := Lib.hid (BX.out.trans ((k2.trans (b2Y.mono k2.size)).mono BX.out.size))
    have AY : At8 Y w2.heap.size (.bool A) (.bool a2) (.bool b2) (.bool c2) (.bool d2) (.bool e2) (.string (strOf t2)) (.pointer q2) := by rw [hY]; exact At8.new w2 _ _ _ _ _ _ _ _ _
    have AYh := Lib.hid AY
    have QY := hQ.keep b2Y
    clear OX TX BX k2 b2Y hQ
    obtain ⟨y0, y1, y2, y3, y4, y5, y6, y7⟩ := AY
    go_wp2_with fail
    rw [← hY]
    clear hY y0 y1 y2 y3 y4 y5 y6 y7
    with_reducible refine (QW.is (Lib.hid QY.get) v false M1 _ (Below.refl _ _)).mono ?_
    rintro e w3 ⟨rfl, k3⟩
    go_wp2_with fail
    go_ret
    exact ⟨rfl, BY.out.trans (k3.mono BY.out.size)⟩
set_option maxHeartbeats 16000000 in
theorem fwi_two (cs mk st sp wd : Bool) (l v : List UInt8) (A : Bool) (hl : l.length ≤ 30) (hv : v.length ≤ 30) (HM : MkIs l sp false 0 A) (hm : matQ l cs mk false sp false v = true) (w : World) (hT : UT w) :
    Calls Tryd.prog 7 #[.string (strOf l), .string (strOf v), .agg #[.bool cs, .bool mk, .bool st, .bool sp, .bool wd]] w fun e w' => e = .returned (.bool true) ∧ Below w.heap.size w w' := by
  have M1 : Hid (matQ l cs mk false sp false v = true ∧ v.length ≤ 10000) := ⟨hm, by omega⟩
  have N0 : Hid (matQ l false false false sp false v = true ∧ v.length ≤ 10000) := ⟨wider_q l v cs mk sp false false false (by simp) (by simp) hm, by omega⟩
  have N1 : Hid (matQ l false mk false sp false v = true ∧ v.length ≤ 10000) := ⟨wider_q l v cs mk sp false mk false (by simp) id hm, by omega⟩
  have N2 : Hid (matQ l cs false false sp false v = true ∧ v.length ≤ 10000) := ⟨wider_q l v cs mk sp cs false false id (by simp) hm, by omega⟩
  have N3 : Hid (matQ l false false true sp false v = true ∧ v.length ≤ 10000) := ⟨wider_q l v cs mk sp false false true (by simp) (by simp) hm, by omega⟩
  clear hm
  have hz : ((strOf l).size : Int) ≤ 30 := by rw [size8]; omega
  have hz2 : ((strOf v).size : Int) ≤ 30 := by rw [size8]; omega
  have b0 := (Below.refl w.heap.size w).alloc (Nat.le_refl _) (.cells #[.bool cs, .bool mk, .bool st, .bool sp, .bool wd] 23)
  have HT0 := Lib.hid hT
  have HT := Lib.hid (ut_keep hT b0)
  have O0 := Lib.hid (OptAt.new w cs mk st sp wd)
  have HF := Lib.hid (fun W hb i => OptAt.frz w cs mk st sp wd (W := W) hb i)
  clear hT
  go_enter Tryd.func7, Tryd.ntmps7
  go_wp2_with fail
  refine (head_any _ HT.out).mono ?_
  rintro e w1 ⟨rfl, b1⟩
  have O1 := O0.out.keep b1
  have f4 := HF.out w1 b1 4
  have f2 := HF.out w1 b1 2
  have B1 := Lib.hid (b0.trans (b1.mono b0.size))
  have O1h := Lib.hid O1
  obtain ⟨x0, x1, x2, x3, x4⟩ := O1
  clear b0 b1 HF O0 HT
  go_wp2_with fail
  obtain ⟨X, hX⟩ : ∃ X, X = (w1.setCell ⟨w.heap.size, 2, none⟩ (.bool false)).setCell ⟨w.heap.size, 4, none⟩ (.bool false) := ⟨_, rfl⟩
  rw [← hX]
  have OX : Hid (OptAt X w.heap.size cs mk false sp false) := by rw [hX]; exact (O1h.out.set2 false).set4 false
  have BX : Hid (Below w.heap.size w X) := by rw [hX]; exact (B1.out.setCell (p := ⟨w.heap.size, 2, none⟩) (Nat.le_refl _) _).setCell (p := ⟨w.heap.size, 4, none⟩) (Nat.le_refl _) _
  have TX := Lib.hid (ut_keep HT0.out BX.out)
  clear hX O1h B1 x0 x1 x2 x3 x4 f4 f2
  with_reducible refine (make_is cs mk false sp false l _ A HM _ TX.out).mono ?_
  rintro e w2 ⟨a2, b2, c2, d2, e2, t2, q2, rfl, k2, hQ⟩
  obtain ⟨Y, hY⟩ : ∃ Y, Y = w2.alloc (.cells #[.bool A, .bool a2, .bool b2, .bool c2, .bool d2, .bool e2, .string (strOf t2), .pointer q2] 27) := ⟨_, rfl⟩
  have b2Y : Below w2.heap.size w2 Y := by rw [hY]; exact (Below.refl _ _).alloc (Nat.le_refl _) _
  have OY := Lib.hid (OX.out.keep (k2.trans (b2Y.mono k2.size)))
  have BY := Lib.hid (BX.out.trans ((k2.trans (b2Y.mono k2.size)).mono BX.out.size))
  have AY : At8 Y w2.heap.size (.bool A) (.bool a2) (.bool b2) (.bool c2) (.bool d2) (.bool e2) (.string (strOf t2)) (.pointer q2) := by rw [hY]; exact At8.new w2 _ _ _ _ _ _ _ _ _
  have AYh := Lib.hid AY
  have QY := hQ.keep b2Y
  clear OX TX BX k2 b2Y hQ
  obtain ⟨y0, y1, y2, y3, y4, y5, y6, y7⟩ := AY
  go_wp2_with fail
  rw [← hY]
  clear hY y0 y1 y2 y3 y4 y5 y6 y7
  with_reducible refine (QW.is (Lib.hid QY.get) v true M1 _ (Below.refl _ _)).mono ?_
  rintro e w3 ⟨rfl, k3⟩
  have O3 := OY.out.keep k3
  have B3 := Lib.hid (BY.out.trans (k3.mono BY.out.size))
  have O3h := Lib.hid O3
  obtain ⟨x0, x1, x2, x3, x4⟩ := O3
  clear k3
  go_wp2_with fail
  obtain ⟨Z, hZ⟩ : ∃ Z, Z = w3.alloc (.cells #[.bool false, .bool false, .bool false, .bool sp, .bool false, .bool false, .bool mk, .bool false, .bool sp, .bool false, .bool cs, .bool false, .bool false, .bool sp, .bool false, .bool false, .bool false, .bool true, .bool sp, .bool false] 23) := ⟨_, rfl⟩
  rw [← hZ]
  have bZ : Below w3.heap.size w3 Z := by rw [hZ]; exact (Below.refl _ _).alloc (Nat.le_refl _) _
  have BZ := Lib.hid (B3.out.trans (bZ.mono B3.out.size))
  have TZ := Lib.hid (ut_keep HT0.out BZ.out)
  have CZ : Hid (∀ W, Below Z.heap.size Z W → ∀ k u, [.bool false, .bool false, .bool false, .bool sp, .bool false, .bool false, .bool mk, .bool false, .bool sp, .bool false, .bool cs, .bool false, .bool false, .bool sp, .bool false, .bool false, .bool false, .bool true, .bool sp, .bool false][k]? = some u → W.cell? ⟨w3.heap.size, k, none⟩ = some u) := fun W hb k u h => by
    rw [hZ] at hb
    exact opt_cell w3 W #[.bool false, .bool false, .bool false, .bool sp, .bool false, .bool false, .bool mk, .bool false, .bool sp, .bool false, .bool cs, .bool false, .bool false, .bool sp, .bool false, .bool false, .bool false, .bool true, .bool sp, .bool false] 23 k u h hb
  clear hZ bZ x0 x1 x2 x3 x4 O3h BY OY QY AYh
  go_loopw [57] (fun i wr => ∃ k : Nat, k ≤ 4 ∧ i = .int .i64 k ∧ Below Z.heap.size Z wr) (fun i _ => 4 - (intOf i).toNat)
  case atStart => exact ⟨0, by omega, rfl, Below.refl _ _⟩
  case round =>
    obtain ⟨k, hk, rfl, hb⟩ := hrel
    have TW := Lib.hid (ut_keep TZ.out hb)
    have CW := Lib.hid (fun i u h => CZ.out wr hb i u h)
    obtain rfl | rfl | rfl | rfl | rfl : k = 0 ∨ k = 1 ∨ k = 2 ∨ k = 3 ∨ k = 4 := by omega
    · have g0 := CW.out 0 _ rfl
      have g1 := CW.out 1 _ rfl
      have g2 := CW.out 2 _ rfl
      have g3 := CW.out 3 _ rfl
      have g4 := CW.out 4 _ rfl
      have bA : Below wr.heap.size wr (wr.alloc (.cells #[.bool false, .bool false, .bool false, .bool sp, .bool false] 23)) := (Below.refl _ _).alloc (Nat.le_refl _) _
      have TA := Lib.hid (ut_keep TW.out bA)
      have hbA := hb.trans (bA.mono hb.size)
      go_wp2_with fail
      with_reducible refine (make_is false false false sp false l 0 A HM _ TA.out).mono ?_
      rintro e w5 ⟨a5, b5, c5, d5, e5, t5, q5, rfl, k5, hQ5⟩
      have k5' := hbA.trans (k5.mono hbA.size)
      obtain ⟨V, hV⟩ : ∃ V, V = w5.alloc (.cells #[.bool A, .bool a5, .bool b5, .bool c5, .bool d5, .bool e5, .string (strOf t5), .pointer q5] 27) := ⟨_, rfl⟩
      have b5V : Below w5.heap.size w5 V := by rw [hV]; exact (Below.refl _ _).alloc (Nat.le_refl _) _
      have QV := hQ5.keep b5V
      have kV := Lib.hid (k5'.trans (b5V.mono k5'.size))
      have AV : At8 V w5.heap.size (.bool A) (.bool a5) (.bool b5) (.bool c5) (.bool d5) (.bool e5) (.string (strOf t5)) (.pointer q5) := by rw [hV]; exact At8.new w5 _ _ _ _ _ _ _ _ _
      obtain ⟨y0, y1, y2, y3, y4, y5, y6, y7⟩ := AV
      clear k5 k5' b5V hbA bA g0 g1 g2 g3 g4
      go_wp2_with fail
      rw [← hV]
      clear hV y0 y1 y2 y3 y4 y5 y6 y7
      with_reducible refine (QW.is (Lib.hid QV.get) v true N0 _ (Below.refl _ _)).mono ?_
      rintro e w6 ⟨rfl, k6⟩
      go_wp2_with fail
      exact ⟨⟨1, by omega, by go_num, kV.out.trans (k6.mono kV.out.size)⟩, by simp [intOf]⟩
    · have g0 := CW.out 5 _ rfl
      have g1 := CW.out 6 _ rfl
      have g2 := CW.out 7 _ rfl
      have g3 := CW.out 8 _ rfl
      have g4 := CW.out 9 _ rfl
      have bA : Below wr.heap.size wr (wr.alloc (.cells #[.bool false, .bool mk, .bool false, .bool sp, .bool false] 23)) := (Below.refl _ _).alloc (Nat.le_refl _) _
      have TA := Lib.hid (ut_keep TW.out bA)
      have hbA := hb.trans (bA.mono hb.size)
      go_wp2_with fail
      with_reducible refine (make_is false mk false sp false l 0 A HM _ TA.out).mono ?_
      rintro e w5 ⟨a5, b5, c5, d5, e5, t5, q5, rfl, k5, hQ5⟩
      have k5' := hbA.trans (k5.mono hbA.size)
      obtain ⟨V, hV⟩ : ∃ V, V = w5.alloc (.cells #[.bool A, .bool a5, .bool b5, .bool c5, .bool d5, .bool e5, .string (strOf t5), .pointer q5] 27) := ⟨_, rfl⟩
      have b5V : Below w5.heap.size w5 V := by rw [hV]; exact (Below.refl _ _).alloc (Nat.le_refl _) _
      have QV := hQ5.keep b5V
      have kV := Lib.hid (k5'.trans (b5V.mono k5'.size))
      have AV : At8 V w5.heap.size (.bool A) (.bool a5) (.bool b5) (.bool c5) (.bool d5) (.bool e5) (.string (strOf t5)) (.pointer q5) := by rw [hV]; exact At8.new w5 _ _ _ _ _ _ _ _ _
      obtain ⟨y0, y1, y2, y3, y4, y5, y6, y7⟩ := AV
      clear k5 k5' b5V hbA bA g0 g1 g2 g3 g4
      go_wp2_with fail
      rw [← hV]
      clear hV y0 y1 y2 y3 y4 y5 y6 y7
      with_reducible refine (QW.is (Lib.hid QV.get) v true N1 _ (Below.refl _ _)).mono ?_
      rintro e w6 ⟨rfl, k6⟩
      go_wp2_with fail
      exact ⟨⟨2, by omega, by go_num, kV.out.trans (k6.mono kV.out.size)⟩, by simp [intOf]⟩
    · have g0 := CW.out 10 _ rfl
      have g1 := CW.out 11 _ rfl
      have g2 := CW.out 12 _ rfl
      have g3 := CW.out 13 _ rfl
      have g4 := CW.out 14 _ rfl
      have bA : Below wr.heap.size wr (wr.alloc (.cells #[.bool cs, .bool false, .bool false, .bool sp, .bool false] 23)) := (Below.refl _ _).alloc (Nat.le_refl _) _
      have TA := Lib.hid (ut_keep TW.out bA)
      have hbA := hb.trans (bA.mono hb.size)
      go_wp2_with fail
      with_reducible refine (make_is cs false false sp false l 0 A HM _ TA.out).mono ?_
      rintro e w5 ⟨a5, b5, c5, d5, e5, t5, q5, rfl, k5, hQ5⟩
      have k5' := hbA.trans (k5.mono hbA.size)
      obtain ⟨V, hV⟩ : ∃ V, V = w5.alloc (.cells #[.bool A, .bool a5, .bool b5, .bool c5, .bool d5, .bool e5, .string (strOf t5), .pointer q5] 27) := ⟨_, rfl⟩
      have b5V : Below w5.heap.size w5 V := by rw [hV]; exact (Below.refl _ _).alloc (Nat.le_refl _) _
      have QV := hQ5.keep b5V
      have kV := Lib.hid (k5'.trans (b5V.mono k5'.size))
      have AV : At8 V w5.heap.size (.bool A) (.bool a5) (.bool b5) (.bool c5) (.bool d5) (.bool e5) (.string (strOf t5)) (.pointer q5) := by rw [hV]; exact At8.new w5 _ _ _ _ _ _ _ _ _
      obtain ⟨y0, y1, y2, y3, y4, y5, y6, y7⟩ := AV
      clear k5 k5' b5V hbA bA g0 g1 g2 g3 g4
      go_wp2_with fail
      rw [← hV]
      clear hV y0 y1 y2 y3 y4 y5 y6 y7
      with_reducible refine (QW.is (Lib.hid QV.get) v true N2 _ (Below.refl _ _)).mono ?_
      rintro e w6 ⟨rfl, k6⟩
      go_wp2_with fail
      exact ⟨⟨3, by omega, by go_num, kV.out.trans (k6.mono kV.out.size)⟩, by simp [intOf]⟩
    · have g0 := CW.out 15 _ rfl
      have g1 := CW.out 16 _ rfl
      have g2 := CW.out 17 _ rfl
      have g3 := CW.out 18 _ rfl
      have g4 := CW.out 19 _ rfl
      have bA : Below wr.heap.size wr (wr.alloc (.cells #[.bool false, .bool false, .bool true, .bool sp, .bool false] 23)) := (Below.refl _ _).alloc (Nat.le_refl _) _
      have TA := Lib.hid (ut_keep TW.out bA)
      have hbA := hb.trans (bA.mono hb.size)
      go_wp2_with fail
      with_reducible refine (make_is false false true sp false l 0 A HM _ TA.out).mono ?_
      rintro e w5 ⟨a5, b5, c5, d5, e5, t5, q5, rfl, k5, hQ5⟩
      have k5' := hbA.trans (k5.mono hbA.size)
      obtain ⟨V, hV⟩ : ∃ V, V = w5.alloc (.cells #[.bool A, .bool a5, .bool b5, .bool c5, .bool d5, .bool e5, .string (strOf t5), .pointer q5] 27) := ⟨_, rfl⟩
      have b5V : Below w5.heap.size w5 V := by rw [hV]; exact (Below.refl _ _).alloc (Nat.le_refl _) _
      have QV := hQ5.keep b5V
      have kV := Lib.hid (k5'.trans (b5V.mono k5'.size))
      have AV : At8 V w5.heap.size (.bool A) (.bool a5) (.bool b5) (.bool c5) (.bool d5) (.bool e5) (.string (strOf t5)) (.pointer q5) := by rw [hV]; exact At8.new w5 _ _ _ _ _ _ _ _ _
      obtain ⟨y0, y1, y2, y3, y4, y5, y6, y7⟩ := AV
      clear k5 k5' b5V hbA bA g0 g1 g2 g3 g4
      go_wp2_with fail
      rw [← hV]
      clear hV y0 y1 y2 y3 y4 y5 y6 y7
      with_reducible refine (QW.is (Lib.hid QV.get) v true N3 _ (Below.refl _ _)).mono ?_
      rintro e w6 ⟨rfl, k6⟩
      go_wp2_with fail
      exact ⟨⟨4, by omega, by go_num, kV.out.trans (k6.mono kV.out.size)⟩, by simp [intOf]⟩
    · go_wp2_with fail
      go_ret
      exact ⟨rfl, BZ.out.trans (hb.mono BZ.out.size)⟩
theorem formWider_all (cs mk st sp wd : Bool) (l v : List UInt8) (w : World) (hT : UT w) :
    Calls Tryd.prog 7 #[.string (strOf l), .string (strOf v), .agg #[.bool cs, .bool mk, .bool st, .bool sp, .bool wd]] w fun e w' => e = .returned (.bool true) ∧ Below w.heap.size w w' := by
  by_cases hl : l.length ≤ 30 ∧ v.length ≤ 30
  · obtain ⟨h1, h2⟩ := hl
    cases hu : Lib.validD l with
    | false => exact fwi_one cs mk st sp wd l v 10 false _ (.inl rfl) h1 h2 ⟨mkE_utf sp false hu, rfl, by omega⟩ ⟨rfl, by omega⟩ w hT
    | true =>
      have HM : MkIs l sp false 0 (anyQ l sp) := ⟨by cases ha : anyQ l sp; exact mkE_word hu ha; exact mkE_any false hu ha, by simp, by omega⟩
      cases hm : matQ l cs mk false sp false v with
      | true => exact fwi_two cs mk st sp wd l v _ h1 h2 HM hm w hT
      | false => exact fwi_one cs mk st sp wd l v 0 _ false (.inr ⟨rfl, rfl⟩) h1 h2 HM ⟨hm, by omega⟩ w hT
  · have hsz : (30 : Int) < ((strOf l).size : Int) ∨ (((strOf l).size : Int) ≤ 30 ∧ (30 : Int) < ((strOf v).size : Int)) := by rw [size8, size8]; omega
    have b0 := (Below.refl w.heap.size w).alloc (Nat.le_refl _) (.cells #[.bool cs, .bool mk, .bool st, .bool sp, .bool wd] 23)
    have HT := Lib.hid (ut_keep hT b0)
    clear hT hl
    rcases hsz with hs | ⟨hs, hs2⟩
    all_goals
      go_enter Tryd.func7, Tryd.ntmps7
      go_wp2_with fail
      refine (head_any _ HT.out).mono ?_
      rintro e w1 ⟨rfl, b1⟩
      replace b1 := b0.trans (b1.mono b0.size)
      go_wp2_with fail
      go_ret
      exact ⟨rfl, b1⟩
end Go.Proofs.YtbchmfkdhaggbaaDoor
