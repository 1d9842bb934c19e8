/- FormWords answers true. -/
import Derived.Test.YtbchmfkdhaggbaaDoorAlQ
namespace Go.Proofs.YtbchmfkdhaggbaaDoor
open Go.RowKit
set_option maxRecDepth 100000

def MkIs (l : List UInt8) (sp wd : Bool) (E : Int) (A : Bool) : Prop := mkE l sp wd = E ∧ (decide (E = 0) && anyQ l sp) = A ∧ l.length ≤ 10000
def QIf (E : Int) (w : World) (any : Bool) (m : List UInt8 → Bool) (p : List UInt8) (v : Value) : Prop := E = 0 → QW w any m p v
theorem QIf.get {w : World} {any : Bool} {m : List UInt8 → Bool} {p : List UInt8} {v : Value} (h : QIf 0 w any m p v) : QW w any m p v := h rfl
theorem QIf.keep {E : Int} {w w' : World} {any : Bool} {m : List UInt8 → Bool} {p : List UInt8} {v : Value} (h : QIf E w any m p v) (hb : Below w.heap.size w w') : QIf E w' any m p v := fun e => (h e).keep hb
theorem make_is (cs mk st sp wd : Bool) (l : List UInt8) (E : Int) (A : Bool) (h : MkIs l sp wd E A) (w : World) (hT : UT w) :
    Calls Tryd.prog 9 #[.string (strOf l), .agg #[.bool cs, .bool mk, .bool st, .bool sp, .bool wd]] w fun x w' => ∃ (a b c d e : Bool) (t : List UInt8) (q : Option Addr), x = .returned (.tuple #[.agg #[.bool A, .bool a, .bool b, .bool c, .bool d, .bool e, .string (strOf t), .pointer q], .int .i64 E]) ∧ Below w.heap.size w w' ∧
      QIf E w' A (matQ l cs mk st sp wd) (preQ l cs mk st sp wd) (.agg #[.bool A, .bool a, .bool b, .bool c, .bool d, .bool e, .string (strOf t), .pointer q]) := by
  obtain ⟨h1, h2, h3⟩ := h
  refine (make_q cs mk st sp wd l h3 w hT).mono ?_
  rintro x w' ⟨any, a, b, c, d, e, t, q, hx, hb, ha, hq⟩
  rw [h1] at hx ha hq
  have : any = A := ha.trans h2
  subst this
  exact ⟨a, b, c, d, e, t, q, hx, hb, hq⟩
theorem QW.begins0 {w : World} {any : Bool} {m : List UInt8 → Bool} {p : List UInt8} {v : Value} (h : Hid (QW w any m p v)) (hm : Hid (p = [])) (W : World) (hw : Below w.heap.size w W) :
    Calls Tryd.prog 13 #[v] W fun e w' => e = .returned (.string ⟨#[]⟩) ∧ Below W.heap.size W w' := QW.begins h [] hm W hw
theorem mkE_utf {l : List UInt8} (sp wd : Bool) (h : Lib.validD l = false) : mkE l sp wd = 10 := by unfold mkE; rw [h]; rfl
theorem mkE_any {l : List UInt8} {sp : Bool} (wd : Bool) (h : Lib.validD l = true) (ha : anyQ l sp = true) : mkE l sp wd = 0 := by unfold mkE; rw [h, if_pos rfl, show (sp && stopB l) = true from ha]; rfl
theorem mkE_word {l : List UInt8} {sp : Bool} (h : Lib.validD l = true) (ha : anyQ l sp = false) : mkE l sp false = 0 := by unfold mkE; rw [h, if_pos rfl, show (sp && stopB l) = false from ha]; rfl
theorem mkE_pat {l : List UInt8} {sp : Bool} (h : Lib.validD l = true) (ha : anyQ l sp = false) : mkE l sp true = pE l := by unfold mkE; rw [h, if_pos rfl, show (sp && stopB l) = false from ha]; rfl
set_option maxHeartbeats 8000000 in
theorem fw_utf (cs mk st sp wd : Bool) (l v : List UInt8) (hl : l.length ≤ 60) (hv : v.length ≤ 60) (hu : Lib.validD l = false) (w : World) (hT : UT w) :
    Calls Tryd.prog 3 #[.string (strOf l), .string (strOf v), .agg #[.bool cs, .bool mk, .bool st, .bool sp, .bool wd]] w fun e w' => e = .returned (.bool true) ∧ Below w.heap.size w w' := by
  have HV := Lib.hid hu
  have HM : MkIs l sp false 10 false := ⟨mkE_utf sp false hu, rfl, by omega⟩
  have hz : ((strOf l).size : Int) ≤ 60 := by rw [size8]; omega
  have hz2 : ((strOf v).size : Int) ≤ 60 := by rw [size8]; omega
  have b0 := (Below.refl w.heap.size w).alloc (Nat.le_refl _) (.cells #[.bool cs, .bool mk, .bool st, .bool sp, .bool wd] 23)
  have HT0 := Lib.hid hT
  have HT := Lib.hid (ut_keep hT b0)
  have O0 := Lib.hid (OptAt.new w cs mk st sp wd)
  have HF := Lib.hid (fun W hb i => OptAt.frz w cs mk st sp wd (W := W) hb i)
  clear hT hu
  go_enter Tryd.func3, Tryd.ntmps3
  go_wp2_with fail
  refine (head_any _ HT.out).mono ?_
  rintro e w1 ⟨rfl, b1⟩
  have O1 := O0.out.keep b1
  have f4 := HF.out w1 b1 4
  have B1 := Lib.hid (b0.trans (b1.mono b0.size))
  have O1h := Lib.hid O1
  obtain ⟨x0, x1, x2, x3, x4⟩ := O1
  clear b0 b1 HF O0 HT
  go_wp2_with fail
  obtain ⟨X, hX⟩ : ∃ X, X = w1.setCell ⟨w.heap.size, 4, none⟩ (.bool false) := ⟨_, rfl⟩
  rw [← hX]
  have OX : Hid (OptAt X w.heap.size cs mk st sp false) := by rw [hX]; exact O1h.out.set4 false
  have BX : Hid (Below w.heap.size w X) := by rw [hX]; exact B1.out.setCell (p := ⟨w.heap.size, 4, none⟩) (Nat.le_refl _) _
  have TX := Lib.hid (ut_keep HT0.out BX.out)
  clear hX O1h B1 x0 x1 x2 x3 x4 f4
  with_reducible refine (make_is cs mk st sp false l 10 false HM _ TX.out).mono ?_
  rintro e w2 ⟨a2, b2, c2, d2, e2, t2, q2, rfl, k2, hQ⟩
  obtain ⟨Y, hY⟩ : ∃ Y, Y = w2.alloc (.cells #[.bool false, .bool a2, .bool b2, .bool c2, .bool d2, .bool e2, .string (strOf t2), .pointer q2] 27) := ⟨_, rfl⟩
  have b2Y : Below w2.heap.size w2 Y := by rw [hY]; exact (Below.refl _ _).alloc (Nat.le_refl _) _
  have OY := OX.out.keep (k2.trans (b2Y.mono k2.size))
  have BY := Lib.hid (BX.out.trans ((k2.trans (b2Y.mono k2.size)).mono BX.out.size))
  have TY := Lib.hid (ut_keep HT0.out BY.out)
  have AY : At8 Y w2.heap.size (.bool false) (.bool a2) (.bool b2) (.bool c2) (.bool d2) (.bool e2) (.string (strOf t2)) (.pointer q2) := by rw [hY]; exact At8.new w2 _ _ _ _ _ _ _ _ _
  have OYh := Lib.hid OY
  have AYh := Lib.hid AY
  have QY := hQ.keep b2Y
  clear OX TX BX k2 b2Y hQ OY AY
  go_wp2_with fail
  rw [← hY]
  clear hY
  with_reducible refine (right_is l false HV _ TY.out (by omega)).mono ?_
  rintro e w3 ⟨rfl, k3⟩
  go_wp2_with fail
  go_ret
  exact ⟨rfl, BY.out.trans (k3.mono BY.out.size)⟩
set_option maxHeartbeats 8000000 in
theorem fw_any (cs mk st wd : Bool) (l v : List UInt8) (hl : l.length ≤ 60) (hv : v.length ≤ 60) (hu : Lib.validD l = true) (hs : stopB l = true) (w : World) (hT : UT w) :
    Calls Tryd.prog 3 #[.string (strOf l), .string (strOf v), .agg #[.bool cs, .bool mk, .bool st, .bool true, .bool wd]] w fun e w' => e = .returned (.bool true) ∧ Below w.heap.size w w' := by
  have HV := Lib.hid hu
  have hA : anyQ l true = true := by unfold anyQ; rw [hs]; rfl
  have HM : MkIs l true false 0 true := ⟨mkE_any false hu hA, by rw [hA]; rfl, by omega⟩
  have HST : Hid (stopB l = true ∧ l.length ≤ 10000000) := ⟨hs, by omega⟩
  have M1 : Hid (matQ l cs mk st true false v = true ∧ v.length ≤ 10000) := ⟨by unfold matQ; rw [hA]; rfl, by omega⟩
  have P1 : Hid (preQ l cs mk st true false = []) := by show _ = _; unfold preQ; rw [hA]; rfl
  have hz : ((strOf l).size : Int) ≤ 60 := by rw [size8]; omega
  have hz2 : ((strOf v).size : Int) ≤ 60 := by rw [size8]; omega
  have b0 := (Below.refl w.heap.size w).alloc (Nat.le_refl _) (.cells #[.bool cs, .bool mk, .bool st, .bool true, .bool wd] 23)
  have HT0 := Lib.hid hT
  have HT := Lib.hid (ut_keep hT b0)
  have O0 := Lib.hid (OptAt.new w cs mk st true wd)
  have HF := Lib.hid (fun W hb i => OptAt.frz w cs mk st true wd (W := W) hb i)
  clear hT hu hs hA
  go_enter Tryd.func3, Tryd.ntmps3
  go_wp2_with fail
  refine (head_any _ HT.out).mono ?_
  rintro e w1 ⟨rfl, b1⟩
  have O1 := O0.out.keep b1
  have f4 := HF.out w1 b1 4
  have B1 := Lib.hid (b0.trans (b1.mono b0.size))
  have O1h := Lib.hid O1
  obtain ⟨x0, x1, x2, x3, x4⟩ := O1
  clear b0 b1 HF O0 HT
  go_wp2_with fail
  obtain ⟨X, hX⟩ : ∃ X, X = w1.setCell ⟨w.heap.size, 4, none⟩ (.bool false) := ⟨_, rfl⟩
  rw [← hX]
  have OX : Hid (OptAt X w.heap.size cs mk st true false) := by rw [hX]; exact O1h.out.set4 false
  have BX : Hid (Below w.heap.size w X) := by rw [hX]; exact B1.out.setCell (p := ⟨w.heap.size, 4, none⟩) (Nat.le_refl _) _
  have TX := Lib.hid (ut_keep HT0.out BX.out)
  clear hX O1h B1 x0 x1 x2 x3 x4 f4
  with_reducible refine (make_is cs mk st true false l 0 true HM _ TX.out).mono ?_
  rintro e w2 ⟨a2, b2, c2, d2, e2, t2, q2, rfl, k2, hQ⟩
  obtain ⟨Y, hY⟩ : ∃ Y, Y = w2.alloc (.cells #[.bool true, .bool a2, .bool b2, .bool c2, .bool d2, .bool e2, .string (strOf t2), .pointer q2] 27) := ⟨_, rfl⟩
  have b2Y : Below w2.heap.size w2 Y := by rw [hY]; exact (Below.refl _ _).alloc (Nat.le_refl _) _
  have OY := OX.out.keep (k2.trans (b2Y.mono k2.size))
  have BY := Lib.hid (BX.out.trans ((k2.trans (b2Y.mono k2.size)).mono BX.out.size))
  have TY := Lib.hid (ut_keep HT0.out BY.out)
  have AY : At8 Y w2.heap.size (.bool true) (.bool a2) (.bool b2) (.bool c2) (.bool d2) (.bool e2) (.string (strOf t2)) (.pointer q2) := by rw [hY]; exact At8.new w2 _ _ _ _ _ _ _ _ _
  have OYh := Lib.hid OY
  have AYh := Lib.hid AY
  have QY := hQ.keep b2Y
  clear OX TX BX k2 b2Y hQ OY AY
  go_wp2_with fail
  rw [← hY]
  clear hY
  have Q0 := Lib.hid QY.get
  with_reducible refine (right_is l true HV _ TY.out (by omega)).mono ?_
  rintro e w3 ⟨rfl, k3⟩
  obtain ⟨x0, x1, x2, x3, x4⟩ := OYh.out.keep k3
  go_wp2_with fail
  with_reducible refine (stop_is l true HST _ (ut_keep TY.out k3)).mono ?_
  rintro e w4 ⟨rfl, k4⟩
  replace k4 := k3.trans (k4.mono k3.size)
  clear x0 x1 x2 x3 x4 
  obtain ⟨y0, y1, y2, y3, y4, y5, y6, y7⟩ := AYh.out.keep k4
  go_wp2_with fail
  with_reducible refine (QW.is Q0 v true M1 _ k4).mono ?_
  rintro e w5 ⟨rfl, k5⟩
  replace k5 := k4.trans (k5.mono k4.size)
  clear y0 y1 y2 y3 y4 y5 y6 y7
  obtain ⟨y0, y1, y2, y3, y4, y5, y6, y7⟩ := AYh.out.keep k5
  go_wp2_with fail
  with_reducible refine (QW.begins0 Q0 P1 _ k5).mono ?_
  rintro e w6 ⟨rfl, k6⟩
  replace k6 := k5.trans (k6.mono k5.size)
  go_wp2_with fail
  go_ret
  exact ⟨rfl, BY.out.trans (k6.mono BY.out.size)⟩
set_option maxHeartbeats 8000000 in
theorem fw_w0_utf (cs mk st wd : Bool) (l v : List UInt8) (hl : l.length ≤ 60) (hv : v.length ≤ 60) (hu : Lib.validD l = true) (hu2 : Lib.validD v = false) (w : World) (hT : UT w) :
    Calls Tryd.prog 3 #[.string (strOf l), .string (strOf v), .agg #[.bool cs, .bool mk, .bool st, .bool false, .bool wd]] w fun e w' => e = .returned (.bool true) ∧ Below w.heap.size w w' := by
  have hA : anyQ l false = false := rfl
  have HV := Lib.hid hu
  have HM : MkIs l false false 0 false := ⟨mkE_word hu hA, by rw [hA]; rfl, by omega⟩
  have HM2 : MkIs v false false 10 false := ⟨mkE_utf false false hu2, rfl, by omega⟩
  obtain ⟨q, hq⟩ : ∃ q, ofL cs mk st l = q := ⟨_, rfl⟩
  obtain ⟨r, hr⟩ : ∃ r, ofL cs mk st v = r := ⟨_, rfl⟩
  obtain ⟨sm, hsm⟩ : ∃ sm, decide (q = r) = sm := ⟨_, rfl⟩
  have L1 : Hid (ofL cs mk st l = q ∧ l.length ≤ 1000000) := ⟨hq, by omega⟩
  have L2 : Hid (ofL cs mk st v = r ∧ v.length ≤ 1000000) := ⟨hr, by omega⟩
  have es : ((strOf q).toList == (strOf r).toList) = sm := by rw [show (strOf r).toList = r by rw [ByteArray.toList_eq, str_data]]; exact (str_eqL q r).trans hsm
  have M1 : Hid (matQ l cs mk st false false v = sm ∧ v.length ≤ 10000) := ⟨by unfold matQ; rw [hA, hq, hr]; show decide (r = q) = sm; rw [← hsm]; exact decide_eq_decide.2 eq_comm, by omega⟩
  have M2 : Hid (matQ l cs mk st false false l = true ∧ l.length ≤ 10000) := ⟨by unfold matQ; rw [hA]; exact decide_eq_true rfl, by omega⟩
  have hz : ((strOf l).size : Int) ≤ 60 := by rw [size8]; omega
  have hz2 : ((strOf v).size : Int) ≤ 60 := by rw [size8]; omega
  have b0 := (Below.refl w.heap.size w).alloc (Nat.le_refl _) (.cells #[.bool cs, .bool mk, .bool st, .bool false, .bool wd] 23)
  have HT0 := Lib.hid hT
  have HT := Lib.hid (ut_keep hT b0)
  have O0 := Lib.hid (OptAt.new w cs mk st false wd)
  have HF := Lib.hid (fun W hb i => OptAt.frz w cs mk st false wd (W := W) hb i)
  clear hT hu hA hu2 hq hr hsm
  go_enter Tryd.func3, Tryd.ntmps3
  go_wp2_with fail
  refine (head_any _ HT.out).mono ?_
  rintro e w1 ⟨rfl, b1⟩
  have O1 := O0.out.keep b1
  have f4 := HF.out w1 b1 4
  have B1 := Lib.hid (b0.trans (b1.mono b0.size))
  have O1h := Lib.hid O1
  obtain ⟨x0, x1, x2, x3, x4⟩ := O1
  clear b0 b1 HF O0 HT
  go_wp2_with fail
  obtain ⟨X, hX⟩ : ∃ X, X = w1.setCell ⟨w.heap.size, 4, none⟩ (.bool false) := ⟨_, rfl⟩
  rw [← hX]
  have OX : Hid (OptAt X w.heap.size cs mk st false false) := by rw [hX]; exact O1h.out.set4 false
  have BX : Hid (Below w.heap.size w X) := by rw [hX]; exact B1.out.setCell (p := ⟨w.heap.size, 4, none⟩) (Nat.le_refl _) _
  have TX := Lib.hid (ut_keep HT0.out BX.out)
  clear hX O1h B1 x0 x1 x2 x3 x4 f4
  with_reducible refine (make_is cs mk st false false l 0 false HM _ TX.out).mono ?_
  rintro e w2 ⟨a2, b2, c2, d2, e2, t2, q2, rfl, k2, hQ⟩
  obtain ⟨Y, hY⟩ : ∃ Y, Y = w2.alloc (.cells #[.bool false, .bool a2, .bool b2, .bool c2, .bool d2, .bool e2, .string (strOf t2), .pointer q2] 27) := ⟨_, rfl⟩
  have b2Y : Below w2.heap.size w2 Y := by rw [hY]; exact (Below.refl _ _).alloc (Nat.le_refl _) _
  have OY := OX.out.keep (k2.trans (b2Y.mono k2.size))
  have BY := Lib.hid (BX.out.trans ((k2.trans (b2Y.mono k2.size)).mono BX.out.size))
  have TY := Lib.hid (ut_keep HT0.out BY.out)
  have AY : At8 Y w2.heap.size (.bool false) (.bool a2) (.bool b2) (.bool c2) (.bool d2) (.bool e2) (.string (strOf t2)) (.pointer q2) := by rw [hY]; exact At8.new w2 _ _ _ _ _ _ _ _ _
  have OYh := Lib.hid OY
  have AYh := Lib.hid AY
  have QY := hQ.keep b2Y
  clear OX TX BX k2 b2Y hQ OY AY
  go_wp2_with fail
  rw [← hY]
  clear hY
  have Q0 := Lib.hid QY.get
  with_reducible refine (right_is l true HV _ TY.out (by omega)).mono ?_
  rintro e w3 ⟨rfl, k3⟩
  obtain ⟨x0, x1, x2, x3, x4⟩ := OYh.out.keep k3
  go_wp2_with fail
  with_reducible refine (make_is cs mk st false false v 10 false HM2 _ (ut_keep TY.out k3)).mono ?_
  rintro e w5 ⟨a5, b5, c5, d5, e5, t5, q5, rfl, k5, hQ5⟩
  obtain ⟨Z, hZ⟩ : ∃ Z, Z = w5.alloc (.cells #[.bool false, .bool a5, .bool b5, .bool c5, .bool d5, .bool e5, .string (strOf t5), .pointer q5] 27) := ⟨_, rfl⟩
  have b5Z : Below w5.heap.size w5 Z := by rw [hZ]; exact (Below.refl _ _).alloc (Nat.le_refl _) _
  have kZ : Below Y.heap.size Y Z := (k3.trans (k5.mono k3.size)).trans (b5Z.mono (k3.trans (k5.mono k3.size)).size)
  have OZ := OYh.out.keep kZ
  have AX := Lib.hid (AYh.out.keep kZ)
  have BZ := Lib.hid (BY.out.trans (kZ.mono BY.out.size))
  have TZ := Lib.hid (ut_keep HT0.out BZ.out)
  have AZ : Hid (At8 Z w5.heap.size (.bool false) (.bool a5) (.bool b5) (.bool c5) (.bool d5) (.bool e5) (.string (strOf t5)) (.pointer q5)) := by rw [hZ]; exact At8.new w5 _ _ _ _ _ _ _ _ _
  have QX := Lib.hid (Q0.out.keep kZ)
  have QZ := hQ5.keep b5Z
  have OZh := Lib.hid OZ
  clear k3 k5 b5Z kZ hQ5 Q0 QY OYh AYh BY TY x0 x1 x2 x3 x4 
  obtain ⟨x0, x1, x2, x3, x4⟩ := OZ
  go_wp2_with fail
  rw [← hZ]
  clear hZ x0 x1 x2 x3 x4
  have K1 : Hid (∀ W, Below Z.heap.size Z W → Calls Tryd.prog 14 #[.string (strOf l), .agg #[.bool cs, .bool mk, .bool st, .bool false, .bool false], .bool st] W fun e w' => e = .returned (.string (strOf q)) ∧ Below Z.heap.size Z w') := fun W hb =>
    (lof_is cs mk st false false st l q L1 W (ut_keep TZ.out hb)).mono fun e w' h => ⟨h.1, hb.trans (h.2.mono hb.size)⟩
  have K2 : Hid (∀ W, Below Z.heap.size Z W → Calls Tryd.prog 14 #[.string (strOf v), .agg #[.bool cs, .bool mk, .bool st, .bool false, .bool false], .bool st] W fun e w' => e = .returned (.string (strOf r)) ∧ Below Z.heap.size Z w') := fun W hb =>
    (lof_is cs mk st false false st v r L2 W (ut_keep TZ.out hb)).mono fun e w' h => ⟨h.1, hb.trans (h.2.mono hb.size)⟩
  have HS : Hid (∀ W, Below Z.heap.size Z W → W.cell? ⟨w.heap.size, 0, none⟩ = some (.bool cs) ∧ W.cell? ⟨w.heap.size, 1, none⟩ = some (.bool mk) ∧ W.cell? ⟨w.heap.size, 2, none⟩ = some (.bool st) ∧ W.cell? ⟨w.heap.size, 3, none⟩ = some (.bool false) ∧ W.cell? ⟨w.heap.size, 4, none⟩ = some (.bool false)) := fun W hb => OZh.out.keep hb
  go_region_held3 (fun W => W.cell? ⟨w.heap.size, 0, none⟩ = some (.bool cs) ∧ W.cell? ⟨w.heap.size, 1, none⟩ = some (.bool mk) ∧ W.cell? ⟨w.heap.size, 2, none⟩ = some (.bool st) ∧ W.cell? ⟨w.heap.size, 3, none⟩ = some (.bool false) ∧ W.cell? ⟨w.heap.size, 4, none⟩ = some (.bool false))
    (first | exact HS.out _ (Below.refl _ _).drew | exact HS.out _ (by assumption))
    (first
      | (go_at_call 14; (with_reducible refine (K1.out _ ?_).mono ?_); (first | exact (Below.refl _ _).drew | assumption); rintro e w6 ⟨rfl, hb6⟩)
      | (go_at_call 14; (with_reducible refine (K2.out _ ?_).mono ?_); (first | exact (Below.refl _ _).drew | assumption); rintro e w7 ⟨rfl, hb7⟩))
  all_goals
    obtain ⟨y0, y1, y2, y3, y4, y5, y6, y7⟩ := AX.out.keep (show Below Z.heap.size Z _ from (by assumption))
    go_wp2_with fail
    with_reducible refine (QW.is QX v sm M1 _ (show Below Z.heap.size Z _ from (by assumption))).mono ?_
    rintro e w8 ⟨rfl, k8⟩
    replace k8 := (show Below Z.heap.size Z _ from (by assumption)).trans (k8.mono (show Below Z.heap.size Z _ from (by assumption)).size)
    clear y0 y1 y2 y3 y4 y5 y6 y7
    obtain ⟨y0, y1, y2, y3, y4, y5, y6, y7⟩ := AX.out.keep k8
    go_wp2_with fail
    with_reducible refine (QW.is QX l true M2 _ k8).mono ?_
    rintro e w9 ⟨rfl, k9⟩
    replace k9 := k8.trans (k9.mono k8.size)
    clear y0 y1 y2 y3 y4 y5 y6 y7
    obtain ⟨y0, y1, y2, y3, y4, y5, y6, y7⟩ := AZ.out.keep k9
    go_wp2_with fail
    go_ret
    exact ⟨rfl, BZ.out.trans (k9.mono BZ.out.size)⟩
set_option maxHeartbeats 8000000 in
theorem fw_w1_utf (cs mk st wd : Bool) (l v : List UInt8) (hl : l.length ≤ 60) (hv : v.length ≤ 60) (hu : Lib.validD l = true) (hs : stopB l = false) (hu2 : Lib.validD v = false) (w : World) (hT : UT w) :
    Calls Tryd.prog 3 #[.string (strOf l), .string (strOf v), .agg #[.bool cs, .bool mk, .bool st, .bool true, .bool wd]] w fun e w' => e = .returned (.bool true) ∧ Below w.heap.size w w' := by
  have hA : anyQ l true = false := by unfold anyQ; rw [hs]; rfl
  have HST : Hid (stopB l = false ∧ l.length ≤ 10000000) := ⟨hs, by omega⟩
  clear hs
  have HV := Lib.hid hu
  have HM : MkIs l true false 0 false := ⟨mkE_word hu hA, by rw [hA]; rfl, by omega⟩
  have HM2 : MkIs v true false 10 false := ⟨mkE_utf true false hu2, rfl, by omega⟩
  obtain ⟨q, hq⟩ : ∃ q, ofL cs mk st l = q := ⟨_, rfl⟩
  obtain ⟨r, hr⟩ : ∃ r, ofL cs mk st v = r := ⟨_, rfl⟩
  obtain ⟨sm, hsm⟩ : ∃ sm, decide (q = r) = sm := ⟨_, rfl⟩
  have L1 : Hid (ofL cs mk st l = q ∧ l.length ≤ 1000000) := ⟨hq, by omega⟩
  have L2 : Hid (ofL cs mk st v = r ∧ v.length ≤ 1000000) := ⟨hr, by omega⟩
  have es : ((strOf q).toList == (strOf r).toList) = sm := by rw [show (strOf r).toList = r by rw [ByteArray.toList_eq, str_data]]; exact (str_eqL q r).trans hsm
  have M1 : Hid (matQ l cs mk st true false v = sm ∧ v.length ≤ 10000) := ⟨by unfold matQ; rw [hA, hq, hr]; show decide (r = q) = sm; rw [← hsm]; exact decide_eq_decide.2 eq_comm, by omega⟩
  have M2 : Hid (matQ l cs mk st true false l = true ∧ l.length ≤ 10000) := ⟨by unfold matQ; rw [hA]; exact decide_eq_true rfl, by omega⟩
  have hz : ((strOf l).size : Int) ≤ 60 := by rw [size8]; omega
  have hz2 : ((strOf v).size : Int) ≤ 60 := by rw [size8]; omega
  have b0 := (Below.refl w.heap.size w).alloc (Nat.le_refl _) (.cells #[.bool cs, .bool mk, .bool st, .bool true, .bool wd] 23)
  have HT0 := Lib.hid hT
  have HT := Lib.hid (ut_keep hT b0)
  have O0 := Lib.hid (OptAt.new w cs mk st true wd)
  have HF := Lib.hid (fun W hb i => OptAt.frz w cs mk st true wd (W := W) hb i)
  clear hT hu hA hu2 hq hr hsm
  go_enter Tryd.func3, Tryd.ntmps3
  go_wp2_with fail
  refine (head_any _ HT.out).mono ?_
  rintro e w1 ⟨rfl, b1⟩
  have O1 := O0.out.keep b1
  have f4 := HF.out w1 b1 4
  have B1 := Lib.hid (b0.trans (b1.mono b0.size))
  have O1h := Lib.hid O1
  obtain ⟨x0, x1, x2, x3, x4⟩ := O1
  clear b0 b1 HF O0 HT
  go_wp2_with fail
  obtain ⟨X, hX⟩ : ∃ X, X = w1.setCell ⟨w.heap.size, 4, none⟩ (.bool false) := ⟨_, rfl⟩
  rw [← hX]
  have OX : Hid (OptAt X w.heap.size cs mk st true false) := by rw [hX]; exact O1h.out.set4 false
  have BX : Hid (Below w.heap.size w X) := by rw [hX]; exact B1.out.setCell (p := ⟨w.heap.size, 4, none⟩) (Nat.le_refl _) _
  have TX := Lib.hid (ut_keep HT0.out BX.out)
  clear hX O1h B1 x0 x1 x2 x3 x4 f4
  with_reducible refine (make_is cs mk st true false l 0 false HM _ TX.out).mono ?_
  rintro e w2 ⟨a2, b2, c2, d2, e2, t2, q2, rfl, k2, hQ⟩
  obtain ⟨Y, hY⟩ : ∃ Y, Y = w2.alloc (.cells #[.bool false, .bool a2, .bool b2, .bool c2, .bool d2, .bool e2, .string (strOf t2), .pointer q2] 27) := ⟨_, rfl⟩
  have b2Y : Below w2.heap.size w2 Y := by rw [hY]; exact (Below.refl _ _).alloc (Nat.le_refl _) _
  have OY := OX.out.keep (k2.trans (b2Y.mono k2.size))
  have BY := Lib.hid (BX.out.trans ((k2.trans (b2Y.mono k2.size)).mono BX.out.size))
  have TY := Lib.hid (ut_keep HT0.out BY.out)
  have AY : At8 Y w2.heap.size (.bool false) (.bool a2) (.bool b2) (.bool c2) (.bool d2) (.bool e2) (.string (strOf t2)) (.pointer q2) := by rw [hY]; exact At8.new w2 _ _ _ _ _ _ _ _ _
  have OYh := Lib.hid OY
  have AYh := Lib.hid AY
  have QY := hQ.keep b2Y
  clear OX TX BX k2 b2Y hQ OY AY
  go_wp2_with fail
  rw [← hY]
  clear hY
  have Q0 := Lib.hid QY.get
  with_reducible refine (right_is l true HV _ TY.out (by omega)).mono ?_
  rintro e w3 ⟨rfl, k3⟩
  obtain ⟨x0, x1, x2, x3, x4⟩ := OYh.out.keep k3
  go_wp2_with fail
  with_reducible refine (stop_is l false HST _ (ut_keep TY.out k3)).mono ?_
  rintro e w4 ⟨rfl, k4⟩
  replace k4 := k3.trans (k4.mono k3.size)
  clear x0 x1 x2 x3 x4 
  obtain ⟨x0, x1, x2, x3, x4⟩ := OYh.out.keep k4
  go_wp2_with fail
  with_reducible refine (make_is cs mk st true false v 10 false HM2 _ (ut_keep TY.out k4)).mono ?_
  rintro e w5 ⟨a5, b5, c5, d5, e5, t5, q5, rfl, k5, hQ5⟩
  obtain ⟨Z, hZ⟩ : ∃ Z, Z = w5.alloc (.cells #[.bool false, .bool a5, .bool b5, .bool c5, .bool d5, .bool e5, .string (strOf t5), .pointer q5] 27) := ⟨_, rfl⟩
  have b5Z : Below w5.heap.size w5 Z := by rw [hZ]; exact (Below.refl _ _).alloc (Nat.le_refl _) _
  have kZ : Below Y.heap.size Y Z := (k4.trans (k5.mono k4.size)).trans (b5Z.mono (k4.trans (k5.mono k4.size)).size)
  have OZ := OYh.out.keep kZ
  have AX := Lib.hid (AYh.out.keep kZ)
  have BZ := Lib.hid (BY.out.trans (kZ.mono BY.out.size))
  have TZ := Lib.hid (ut_keep HT0.out BZ.out)
  have AZ : Hid (At8 Z w5.heap.size (.bool false) (.bool a5) (.bool b5) (.bool c5) (.bool d5) (.bool e5) (.string (strOf t5)) (.pointer q5)) := by rw [hZ]; exact At8.new w5 _ _ _ _ _ _ _ _ _
  have QX := Lib.hid (Q0.out.keep kZ)
  have QZ := hQ5.keep b5Z
  have OZh := Lib.hid OZ
  clear k3 k5 b5Z kZ hQ5 Q0 QY OYh AYh BY TY x0 x1 x2 x3 x4 k4
  obtain ⟨x0, x1, x2, x3, x4⟩ := OZ
  go_wp2_with fail
  rw [← hZ]
  clear hZ x0 x1 x2 x3 x4
  have K1 : Hid (∀ W, Below Z.heap.size Z W → Calls Tryd.prog 14 #[.string (strOf l), .agg #[.bool cs, .bool mk, .bool st, .bool true, .bool false], .bool st] W fun e w' => e = .returned (.string (strOf q)) ∧ Below Z.heap.size Z w') := fun W hb =>
    (lof_is cs mk st true false st l q L1 W (ut_keep TZ.out hb)).mono fun e w' h => ⟨h.1, hb.trans (h.2.mono hb.size)⟩
  have K2 : Hid (∀ W, Below Z.heap.size Z W → Calls Tryd.prog 14 #[.string (strOf v), .agg #[.bool cs, .bool mk, .bool st, .bool true, .bool false], .bool st] W fun e w' => e = .returned (.string (strOf r)) ∧ Below Z.heap.size Z w') := fun W hb =>
    (lof_is cs mk st true false st v r L2 W (ut_keep TZ.out hb)).mono fun e w' h => ⟨h.1, hb.trans (h.2.mono hb.size)⟩
  have HS : Hid (∀ W, Below Z.heap.size Z W → W.cell? ⟨w.heap.size, 0, none⟩ = some (.bool cs) ∧ W.cell? ⟨w.heap.size, 1, none⟩ = some (.bool mk) ∧ W.cell? ⟨w.heap.size, 2, none⟩ = some (.bool st) ∧ W.cell? ⟨w.heap.size, 3, none⟩ = some (.bool true) ∧ W.cell? ⟨w.heap.size, 4, none⟩ = some (.bool false)) := fun W hb => OZh.out.keep hb
  go_region_held3 (fun W => W.cell? ⟨w.heap.size, 0, none⟩ = some (.bool cs) ∧ W.cell? ⟨w.heap.size, 1, none⟩ = some (.bool mk) ∧ W.cell? ⟨w.heap.size, 2, none⟩ = some (.bool st) ∧ W.cell? ⟨w.heap.size, 3, none⟩ = some (.bool true) ∧ W.cell? ⟨w.heap.size, 4, none⟩ = some (.bool false))
    (first | exact HS.out _ (Below.refl _ _).drew | exact HS.out _ (by assumption))
    (first
      | (go_at_call 14; (with_reducible refine (K1.out _ ?_).mono ?_); (first | exact (Below.refl _ _).drew | assumption); rintro e w6 ⟨rfl, hb6⟩)
      | (go_at_call 14; (with_reducible refine (K2.out _ ?_).mono ?_); (first | exact (Below.refl _ _).drew | assumption); rintro e w7 ⟨rfl, hb7⟩))
  all_goals
    obtain ⟨y0, y1, y2, y3, y4, y5, y6, y7⟩ := AX.out.keep (show Below Z.heap.size Z _ from (by assumption))
    go_wp2_with fail
    with_reducible refine (QW.is QX v sm M1 _ (show Below Z.heap.size Z _ from (by assumption))).mono ?_
    rintro e w8 ⟨rfl, k8⟩
    replace k8 := (show Below Z.heap.size Z _ from (by assumption)).trans (k8.mono (show Below Z.heap.size Z _ from (by assumption)).size)
    clear y0 y1 y2 y3 y4 y5 y6 y7
    obtain ⟨y0, y1, y2, y3, y4, y5, y6, y7⟩ := AX.out.keep k8
    go_wp2_with fail
    with_reducible refine (QW.is QX l true M2 _ k8).mono ?_
    rintro e w9 ⟨rfl, k9⟩
    replace k9 := k8.trans (k9.mono k8.size)
    clear y0 y1 y2 y3 y4 y5 y6 y7
    obtain ⟨y0, y1, y2, y3, y4, y5, y6, y7⟩ := AZ.out.keep k9
    go_wp2_with fail
    go_ret
    exact ⟨rfl, BZ.out.trans (k9.mono BZ.out.size)⟩
set_option maxHeartbeats 8000000 in
theorem fw_w1_any (cs mk st wd : Bool) (l v : List UInt8) (hl : l.length ≤ 60) (hv : v.length ≤ 60) (hu : Lib.validD l = true) (hs : stopB l = false) (hu2 : Lib.validD v = true) (ha2 : anyQ v true = true) (w : World) (hT : UT w) :
    Calls Tryd.prog 3 #[.string (strOf l), .string (strOf v), .agg #[.bool cs, .bool mk, .bool st, .bool true, .bool wd]] w fun e w' => e = .returned (.bool true) ∧ Below w.heap.size w w' := by
  have hA : anyQ l true = false := by unfold anyQ; rw [hs]; rfl
  have HST : Hid (stopB l = false ∧ l.length ≤ 10000000) := ⟨hs, by omega⟩
  clear hs
  have HV := Lib.hid hu
  have HM : MkIs l true false 0 false := ⟨mkE_word hu hA, by rw [hA]; rfl, by omega⟩
  have HM2 : MkIs v true false 0 true := ⟨mkE_any false hu2 ha2, by rw [ha2]; rfl, by omega⟩
  obtain ⟨q, hq⟩ : ∃ q, ofL cs mk st l = q := ⟨_, rfl⟩
  obtain ⟨r, hr⟩ : ∃ r, ofL cs mk st v = r := ⟨_, rfl⟩
  obtain ⟨sm, hsm⟩ : ∃ sm, decide (q = r) = sm := ⟨_, rfl⟩
  have L1 : Hid (ofL cs mk st l = q ∧ l.length ≤ 1000000) := ⟨hq, by omega⟩
  have L2 : Hid (ofL cs mk st v = r ∧ v.length ≤ 1000000) := ⟨hr, by omega⟩
  have es : ((strOf q).toList == (strOf r).toList) = sm := by rw [show (strOf r).toList = r by rw [ByteArray.toList_eq, str_data]]; exact (str_eqL q r).trans hsm
  have M1 : Hid (matQ l cs mk st true false v = sm ∧ v.length ≤ 10000) := ⟨by unfold matQ; rw [hA, hq, hr]; show decide (r = q) = sm; rw [← hsm]; exact decide_eq_decide.2 eq_comm, by omega⟩
  have M2 : Hid (matQ l cs mk st true false l = true ∧ l.length ≤ 10000) := ⟨by unfold matQ; rw [hA]; exact decide_eq_true rfl, by omega⟩
  have hz : ((strOf l).size : Int) ≤ 60 := by rw [size8]; omega
  have hz2 : ((strOf v).size : Int) ≤ 60 := by rw [size8]; omega
  have b0 := (Below.refl w.heap.size w).alloc (Nat.le_refl _) (.cells #[.bool cs, .bool mk, .bool st, .bool true, .bool wd] 23)
  have HT0 := Lib.hid hT
  have HT := Lib.hid (ut_keep hT b0)
  have O0 := Lib.hid (OptAt.new w cs mk st true wd)
  have HF := Lib.hid (fun W hb i => OptAt.frz w cs mk st true wd (W := W) hb i)
  clear hT hu hA hu2 hq hr hsm ha2
  go_enter Tryd.func3, Tryd.ntmps3
  go_wp2_with fail
  refine (head_any _ HT.out).mono ?_
  rintro e w1 ⟨rfl, b1⟩
  have O1 := O0.out.keep b1
  have f4 := HF.out w1 b1 4
  have B1 := Lib.hid (b0.trans (b1.mono b0.size))
  have O1h := Lib.hid O1
  obtain ⟨x0, x1, x2, x3, x4⟩ := O1
  clear b0 b1 HF O0 HT
  go_wp2_with fail
  obtain ⟨X, hX⟩ : ∃ X, X = w1.setCell ⟨w.heap.size, 4, none⟩ (.bool false) := ⟨_, rfl⟩
  rw [← hX]
  have OX : Hid (OptAt X w.heap.size cs mk st true false) := by rw [hX]; exact O1h.out.set4 false
  have BX : Hid (Below w.heap.size w X) := by rw [hX]; exact B1.out.setCell (p := ⟨w.heap.size, 4, none⟩) (Nat.le_refl _) _
  have TX := Lib.hid (ut_keep HT0.out BX.out)
  clear hX O1h B1 x0 x1 x2 x3 x4 f4
  with_reducible refine (make_is cs mk st true false l 0 false HM _ TX.out).mono ?_
  rintro e w2 ⟨a2, b2, c2, d2, e2, t2, q2, rfl, k2, hQ⟩
  obtain ⟨Y, hY⟩ : ∃ Y, Y = w2.alloc (.cells #[.bool false, .bool a2, .bool b2, .bool c2, .bool d2, .bool e2, .string (strOf t2), .pointer q2] 27) := ⟨_, rfl⟩
  have b2Y : Below w2.heap.size w2 Y := by rw [hY]; exact (Below.refl _ _).alloc (Nat.le_refl _) _
  have OY := OX.out.keep (k2.trans (b2Y.mono k2.size))
  have BY := Lib.hid (BX.out.trans ((k2.trans (b2Y.mono k2.size)).mono BX.out.size))
  have TY := Lib.hid (ut_keep HT0.out BY.out)
  have AY : At8 Y w2.heap.size (.bool false) (.bool a2) (.bool b2) (.bool c2) (.bool d2) (.bool e2) (.string (strOf t2)) (.pointer q2) := by rw [hY]; exact At8.new w2 _ _ _ _ _ _ _ _ _
  have OYh := Lib.hid OY
  have AYh := Lib.hid AY
  have QY := hQ.keep b2Y
  clear OX TX BX k2 b2Y hQ OY AY
  go_wp2_with fail
  rw [← hY]
  clear hY
  have Q0 := Lib.hid QY.get
  with_reducible refine (right_is l true HV _ TY.out (by omega)).mono ?_
  rintro e w3 ⟨rfl, k3⟩
  obtain ⟨x0, x1, x2, x3, x4⟩ := OYh.out.keep k3
  go_wp2_with fail
  with_reducible refine (stop_is l false HST _ (ut_keep TY.out k3)).mono ?_
  rintro e w4 ⟨rfl, k4⟩
  replace k4 := k3.trans (k4.mono k3.size)
  clear x0 x1 x2 x3 x4 
  obtain ⟨x0, x1, x2, x3, x4⟩ := OYh.out.keep k4
  go_wp2_with fail
  with_reducible refine (make_is cs mk st true false v 0 true HM2 _ (ut_keep TY.out k4)).mono ?_
  rintro e w5 ⟨a5, b5, c5, d5, e5, t5, q5, rfl, k5, hQ5⟩
  obtain ⟨Z, hZ⟩ : ∃ Z, Z = w5.alloc (.cells #[.bool true, .bool a5, .bool b5, .bool c5, .bool d5, .bool e5, .string (strOf t5), .pointer q5] 27) := ⟨_, rfl⟩
  have b5Z : Below w5.heap.size w5 Z := by rw [hZ]; exact (Below.refl _ _).alloc (Nat.le_refl _) _
  have kZ : Below Y.heap.size Y Z := (k4.trans (k5.mono k4.size)).trans (b5Z.mono (k4.trans (k5.mono k4.size)).size)
  have OZ := OYh.out.keep kZ
  have AX := Lib.hid (AYh.out.keep kZ)
  have BZ := Lib.hid (BY.out.trans (kZ.mono BY.out.size))
  have TZ := Lib.hid (ut_keep HT0.out BZ.out)
  have AZ : Hid (At8 Z w5.heap.size (.bool true) (.bool a5) (.bool b5) (.bool c5) (.bool d5) (.bool e5) (.string (strOf t5)) (.pointer q5)) := by rw [hZ]; exact At8.new w5 _ _ _ _ _ _ _ _ _
  have QX := Lib.hid (Q0.out.keep kZ)
  have QZ := hQ5.keep b5Z
  have OZh := Lib.hid OZ
  clear k3 k5 b5Z kZ hQ5 Q0 QY OYh AYh BY TY x0 x1 x2 x3 x4 k4
  obtain ⟨x0, x1, x2, x3, x4⟩ := OZ
  go_wp2_with fail
  rw [← hZ]
  clear hZ x0 x1 x2 x3 x4
  have K1 : Hid (∀ W, Below Z.heap.size Z W → Calls Tryd.prog 14 #[.string (strOf l), .agg #[.bool cs, .bool mk, .bool st, .bool true, .bool false], .bool st] W fun e w' => e = .returned (.string (strOf q)) ∧ Below Z.heap.size Z w') := fun W hb =>
    (lof_is cs mk st true false st l q L1 W (ut_keep TZ.out hb)).mono fun e w' h => ⟨h.1, hb.trans (h.2.mono hb.size)⟩
  have K2 : Hid (∀ W, Below Z.heap.size Z W → Calls Tryd.prog 14 #[.string (strOf v), .agg #[.bool cs, .bool mk, .bool st, .bool true, .bool false], .bool st] W fun e w' => e = .returned (.string (strOf r)) ∧ Below Z.heap.size Z w') := fun W hb =>
    (lof_is cs mk st true false st v r L2 W (ut_keep TZ.out hb)).mono fun e w' h => ⟨h.1, hb.trans (h.2.mono hb.size)⟩
  have HS : Hid (∀ W, Below Z.heap.size Z W → W.cell? ⟨w.heap.size, 0, none⟩ = some (.bool cs) ∧ W.cell? ⟨w.heap.size, 1, none⟩ = some (.bool mk) ∧ W.cell? ⟨w.heap.size, 2, none⟩ = some (.bool st) ∧ W.cell? ⟨w.heap.size, 3, none⟩ = some (.bool true) ∧ W.cell? ⟨w.heap.size, 4, none⟩ = some (.bool false)) := fun W hb => OZh.out.keep hb
  go_region_held3 (fun W => W.cell? ⟨w.heap.size, 0, none⟩ = some (.bool cs) ∧ W.cell? ⟨w.heap.size, 1, none⟩ = some (.bool mk) ∧ W.cell? ⟨w.heap.size, 2, none⟩ = some (.bool st) ∧ W.cell? ⟨w.heap.size, 3, none⟩ = some (.bool true) ∧ W.cell? ⟨w.heap.size, 4, none⟩ = some (.bool false))
    (first | exact HS.out _ (Below.refl _ _).drew | exact HS.out _ (by assumption))
    (first
      | (go_at_call 14; (with_reducible refine (K1.out _ ?_).mono ?_); (first | exact (Below.refl _ _).drew | assumption); rintro e w6 ⟨rfl, hb6⟩)
      | (go_at_call 14; (with_reducible refine (K2.out _ ?_).mono ?_); (first | exact (Below.refl _ _).drew | assumption); rintro e w7 ⟨rfl, hb7⟩))
  all_goals
    obtain ⟨y0, y1, y2, y3, y4, y5, y6, y7⟩ := AX.out.keep (show Below Z.heap.size Z _ from (by assumption))
    go_wp2_with fail
    with_reducible refine (QW.is QX v sm M1 _ (show Below Z.heap.size Z _ from (by assumption))).mono ?_
    rintro e w8 ⟨rfl, k8⟩
    replace k8 := (show Below Z.heap.size Z _ from (by assumption)).trans (k8.mono (show Below Z.heap.size Z _ from (by assumption)).size)
    clear y0 y1 y2 y3 y4 y5 y6 y7
    obtain ⟨y0, y1, y2, y3, y4, y5, y6, y7⟩ := AX.out.keep k8
    go_wp2_with fail
    with_reducible refine (QW.is QX l true M2 _ k8).mono ?_
    rintro e w9 ⟨rfl, k9⟩
    replace k9 := k8.trans (k9.mono k8.size)
    clear y0 y1 y2 y3 y4 y5 y6 y7
    obtain ⟨y0, y1, y2, y3, y4, y5, y6, y7⟩ := AZ.out.keep k9
    go_wp2_with fail
    go_ret
    exact ⟨rfl, BZ.out.trans (k9.mono BZ.out.size)⟩
set_option maxHeartbeats 8000000 in
theorem fw_w0_word (cs mk st wd : Bool) (l v : List UInt8) (hl : l.length ≤ 60) (hv : v.length ≤ 60) (hu : Lib.validD l = true) (hu2 : Lib.validD v = true) (ha2 : anyQ v false = false) (w : World) (hT : UT w) :
    Calls Tryd.prog 3 #[.string (strOf l), .string (strOf v), .agg #[.bool cs, .bool mk, .bool st, .bool false, .bool wd]] w fun e w' => e = .returned (.bool true) ∧ Below w.heap.size w w' := by
  have hA : anyQ l false = false := rfl
  have HV := Lib.hid hu
  have HM : MkIs l false false 0 false := ⟨mkE_word hu hA, by rw [hA]; rfl, by omega⟩
  have HM2 : MkIs v false false 0 false := ⟨mkE_word hu2 ha2, by rw [ha2]; rfl, by omega⟩
  obtain ⟨q, hq⟩ : ∃ q, ofL cs mk st l = q := ⟨_, rfl⟩
  obtain ⟨r, hr⟩ : ∃ r, ofL cs mk st v = r := ⟨_, rfl⟩
  obtain ⟨sm, hsm⟩ : ∃ sm, decide (q = r) = sm := ⟨_, rfl⟩
  have L1 : Hid (ofL cs mk st l = q ∧ l.length ≤ 1000000) := ⟨hq, by omega⟩
  have L2 : Hid (ofL cs mk st v = r ∧ v.length ≤ 1000000) := ⟨hr, by omega⟩
  have es : ((strOf q).toList == (strOf r).toList) = sm := by rw [show (strOf r).toList = r by rw [ByteArray.toList_eq, str_data]]; exact (str_eqL q r).trans hsm
  have M1 : Hid (matQ l cs mk st false false v = sm ∧ v.length ≤ 10000) := ⟨by unfold matQ; rw [hA, hq, hr]; show decide (r = q) = sm; rw [← hsm]; exact decide_eq_decide.2 eq_comm, by omega⟩
  have M2 : Hid (matQ l cs mk st false false l = true ∧ l.length ≤ 10000) := ⟨by unfold matQ; rw [hA]; exact decide_eq_true rfl, by omega⟩
  have M3 : Hid (matQ v cs mk st false false l = sm ∧ l.length ≤ 10000) := ⟨by unfold matQ; rw [ha2, hq, hr]; exact hsm, by omega⟩
  have hz : ((strOf l).size : Int) ≤ 60 := by rw [size8]; omega
  have hz2 : ((strOf v).size : Int) ≤ 60 := by rw [size8]; omega
  have b0 := (Below.refl w.heap.size w).alloc (Nat.le_refl _) (.cells #[.bool cs, .bool mk, .bool st, .bool false, .bool wd] 23)
  have HT0 := Lib.hid hT
  have HT := Lib.hid (ut_keep hT b0)
  have O0 := Lib.hid (OptAt.new w cs mk st false wd)
  have HF := Lib.hid (fun W hb i => OptAt.frz w cs mk st false wd (W := W) hb i)
  clear hT hu hA hu2 hq hr hsm ha2
  go_enter Tryd.func3, Tryd.ntmps3
  go_wp2_with fail
  refine (head_any _ HT.out).mono ?_
  rintro e w1 ⟨rfl, b1⟩
  have O1 := O0.out.keep b1
  have f4 := HF.out w1 b1 4
  have B1 := Lib.hid (b0.trans (b1.mono b0.size))
  have O1h := Lib.hid O1
  obtain ⟨x0, x1, x2, x3, x4⟩ := O1
  clear b0 b1 HF O0 HT
  go_wp2_with fail
  obtain ⟨X, hX⟩ : ∃ X, X = w1.setCell ⟨w.heap.size, 4, none⟩ (.bool false) := ⟨_, rfl⟩
  rw [← hX]
  have OX : Hid (OptAt X w.heap.size cs mk st false false) := by rw [hX]; exact O1h.out.set4 false
  have BX : Hid (Below w.heap.size w X) := by rw [hX]; exact B1.out.setCell (p := ⟨w.heap.size, 4, none⟩) (Nat.le_refl _) _
  have TX := Lib.hid (ut_keep HT0.out BX.out)
  clear hX O1h B1 x0 x1 x2 x3 x4 f4
  with_reducible refine (make_is cs mk st false false l 0 false HM _ TX.out).mono ?_
  rintro e w2 ⟨a2, b2, c2, d2, e2, t2, q2, rfl, k2, hQ⟩
  obtain ⟨Y, hY⟩ : ∃ Y, Y = w2.alloc (.cells #[.bool false, .bool a2, .bool b2, .bool c2, .bool d2, .bool e2, .string (strOf t2), .pointer q2] 27) := ⟨_, rfl⟩
  have b2Y : Below w2.heap.size w2 Y := by rw [hY]; exact (Below.refl _ _).alloc (Nat.le_refl _) _
  have OY := OX.out.keep (k2.trans (b2Y.mono k2.size))
  have BY := Lib.hid (BX.out.trans ((k2.trans (b2Y.mono k2.size)).mono BX.out.size))
  have TY := Lib.hid (ut_keep HT0.out BY.out)
  have AY : At8 Y w2.heap.size (.bool false) (.bool a2) (.bool b2) (.bool c2) (.bool d2) (.bool e2) (.string (strOf t2)) (.pointer q2) := by rw [hY]; exact At8.new w2 _ _ _ _ _ _ _ _ _
  have OYh := Lib.hid OY
  have AYh := Lib.hid AY
  have QY := hQ.keep b2Y
  clear OX TX BX k2 b2Y hQ OY AY
  go_wp2_with fail
  rw [← hY]
  clear hY
  have Q0 := Lib.hid QY.get
  with_reducible refine (right_is l true HV _ TY.out (by omega)).mono ?_
  rintro e w3 ⟨rfl, k3⟩
  obtain ⟨x0, x1, x2, x3, x4⟩ := OYh.out.keep k3
  go_wp2_with fail
  with_reducible refine (make_is cs mk st false false v 0 false HM2 _ (ut_keep TY.out k3)).mono ?_
  rintro e w5 ⟨a5, b5, c5, d5, e5, t5, q5, rfl, k5, hQ5⟩
  obtain ⟨Z, hZ⟩ : ∃ Z, Z = w5.alloc (.cells #[.bool false, .bool a5, .bool b5, .bool c5, .bool d5, .bool e5, .string (strOf t5), .pointer q5] 27) := ⟨_, rfl⟩
  have b5Z : Below w5.heap.size w5 Z := by rw [hZ]; exact (Below.refl _ _).alloc (Nat.le_refl _) _
  have kZ : Below Y.heap.size Y Z := (k3.trans (k5.mono k3.size)).trans (b5Z.mono (k3.trans (k5.mono k3.size)).size)
  have OZ := OYh.out.keep kZ
  have AX := Lib.hid (AYh.out.keep kZ)
  have BZ := Lib.hid (BY.out.trans (kZ.mono BY.out.size))
  have TZ := Lib.hid (ut_keep HT0.out BZ.out)
  have AZ : Hid (At8 Z w5.heap.size (.bool false) (.bool a5) (.bool b5) (.bool c5) (.bool d5) (.bool e5) (.string (strOf t5)) (.pointer q5)) := by rw [hZ]; exact At8.new w5 _ _ _ _ _ _ _ _ _
  have QX := Lib.hid (Q0.out.keep kZ)
  have QZ := hQ5.keep b5Z
  have OZh := Lib.hid OZ
  clear k3 k5 b5Z kZ hQ5 Q0 QY OYh AYh BY TY x0 x1 x2 x3 x4 
  obtain ⟨x0, x1, x2, x3, x4⟩ := OZ
  go_wp2_with fail
  rw [← hZ]
  clear hZ x0 x1 x2 x3 x4
  have K1 : Hid (∀ W, Below Z.heap.size Z W → Calls Tryd.prog 14 #[.string (strOf l), .agg #[.bool cs, .bool mk, .bool st, .bool false, .bool false], .bool st] W fun e w' => e = .returned (.string (strOf q)) ∧ Below Z.heap.size Z w') := fun W hb =>
    (lof_is cs mk st false false st l q L1 W (ut_keep TZ.out hb)).mono fun e w' h => ⟨h.1, hb.trans (h.2.mono hb.size)⟩
  have K2 : Hid (∀ W, Below Z.heap.size Z W → Calls Tryd.prog 14 #[.string (strOf v), .agg #[.bool cs, .bool mk, .bool st, .bool false, .bool false], .bool st] W fun e w' => e = .returned (.string (strOf r)) ∧ Below Z.heap.size Z w') := fun W hb =>
    (lof_is cs mk st false false st v r L2 W (ut_keep TZ.out hb)).mono fun e w' h => ⟨h.1, hb.trans (h.2.mono hb.size)⟩
  have HS : Hid (∀ W, Below Z.heap.size Z W → W.cell? ⟨w.heap.size, 0, none⟩ = some (.bool cs) ∧ W.cell? ⟨w.heap.size, 1, none⟩ = some (.bool mk) ∧ W.cell? ⟨w.heap.size, 2, none⟩ = some (.bool st) ∧ W.cell? ⟨w.heap.size, 3, none⟩ = some (.bool false) ∧ W.cell? ⟨w.heap.size, 4, none⟩ = some (.bool false)) := fun W hb => OZh.out.keep hb
  go_region_held3 (fun W => W.cell? ⟨w.heap.size, 0, none⟩ = some (.bool cs) ∧ W.cell? ⟨w.heap.size, 1, none⟩ = some (.bool mk) ∧ W.cell? ⟨w.heap.size, 2, none⟩ = some (.bool st) ∧ W.cell? ⟨w.heap.size, 3, none⟩ = some (.bool false) ∧ W.cell? ⟨w.heap.size, 4, none⟩ = some (.bool false))
    (first | exact HS.out _ (Below.refl _ _).drew | exact HS.out _ (by assumption))
    (first
      | (go_at_call 14; (with_reducible refine (K1.out _ ?_).mono ?_); (first | exact (Below.refl _ _).drew | assumption); rintro e w6 ⟨rfl, hb6⟩)
      | (go_at_call 14; (with_reducible refine (K2.out _ ?_).mono ?_); (first | exact (Below.refl _ _).drew | assumption); rintro e w7 ⟨rfl, hb7⟩))
  all_goals
    obtain ⟨y0, y1, y2, y3, y4, y5, y6, y7⟩ := AX.out.keep (show Below Z.heap.size Z _ from (by assumption))
    go_wp2_with fail
    with_reducible refine (QW.is QX v sm M1 _ (show Below Z.heap.size Z _ from (by assumption))).mono ?_
    rintro e w8 ⟨rfl, k8⟩
    replace k8 := (show Below Z.heap.size Z _ from (by assumption)).trans (k8.mono (show Below Z.heap.size Z _ from (by assumption)).size)
    clear y0 y1 y2 y3 y4 y5 y6 y7
    obtain ⟨y0, y1, y2, y3, y4, y5, y6, y7⟩ := AX.out.keep k8
    go_wp2_with fail
    with_reducible refine (QW.is QX l true M2 _ k8).mono ?_
    rintro e w9 ⟨rfl, k9⟩
    replace k9 := k8.trans (k9.mono k8.size)
    clear y0 y1 y2 y3 y4 y5 y6 y7
    obtain ⟨y0, y1, y2, y3, y4, y5, y6, y7⟩ := AZ.out.keep k9
    go_wp2_with fail
    with_reducible refine (QW.is (Lib.hid QZ.get) l sm M3 _ k9).mono ?_
    rintro e w10 ⟨rfl, k10⟩
    replace k10 := k9.trans (k10.mono k9.size)
    go_wp2_with fail
    go_ret
    exact ⟨rfl, BZ.out.trans (k10.mono BZ.out.size)⟩
set_option maxHeartbeats 8000000 in
theorem fw_w1_word (cs mk st wd : Bool) (l v : List UInt8) (hl : l.length ≤ 60) (hv : v.length ≤ 60) (hu : Lib.validD l = true) (hs : stopB l = false) (hu2 : Lib.validD v = true) (ha2 : anyQ v true = false) (w : World) (hT : UT w) :
    Calls Tryd.prog 3 #[.string (strOf l), .string (strOf v), .agg #[.bool cs, .bool mk, .bool st, .bool true, .bool wd]] w fun e w' => e = .returned (.bool true) ∧ Below w.heap.size w w' := by
  have hA : anyQ l true = false := by unfold anyQ; rw [hs]; rfl
  have HST : Hid (stopB l = false ∧ l.length ≤ 10000000) := ⟨hs, by omega⟩
  clear hs
  have HV := Lib.hid hu
  have HM : MkIs l true false 0 false := ⟨mkE_word hu hA, by rw [hA]; rfl, by omega⟩
  have HM2 : MkIs v true false 0 false := ⟨mkE_word hu2 ha2, by rw [ha2]; rfl, by omega⟩
  obtain ⟨q, hq⟩ : ∃ q, ofL cs mk st l = q := ⟨_, rfl⟩
  obtain ⟨r, hr⟩ : ∃ r, ofL cs mk st v = r := ⟨_, rfl⟩
  obtain ⟨sm, hsm⟩ : ∃ sm, decide (q = r) = sm := ⟨_, rfl⟩
  have L1 : Hid (ofL cs mk st l = q ∧ l.length ≤ 1000000) := ⟨hq, by omega⟩
  have L2 : Hid (ofL cs mk st v = r ∧ v.length ≤ 1000000) := ⟨hr, by omega⟩
  have es : ((strOf q).toList == (strOf r).toList) = sm := by rw [show (strOf r).toList = r by rw [ByteArray.toList_eq, str_data]]; exact (str_eqL q r).trans hsm
  have M1 : Hid (matQ l cs mk st true false v = sm ∧ v.length ≤ 10000) := ⟨by unfold matQ; rw [hA, hq, hr]; show decide (r = q) = sm; rw [← hsm]; exact decide_eq_decide.2 eq_comm, by omega⟩
  have M2 : Hid (matQ l cs mk st true false l = true ∧ l.length ≤ 10000) := ⟨by unfold matQ; rw [hA]; exact decide_eq_true rfl, by omega⟩
  have M3 : Hid (matQ v cs mk st true false l = sm ∧ l.length ≤ 10000) := ⟨by unfold matQ; rw [ha2, hq, hr]; exact hsm, by omega⟩
  have hz : ((strOf l).size : Int) ≤ 60 := by rw [size8]; omega
  have hz2 : ((strOf v).size : Int) ≤ 60 := by rw [size8]; omega
  have b0 := (Below.refl w.heap.size w).alloc (Nat.le_refl _) (.cells #[.bool cs, .bool mk, .bool st, .bool true, .bool wd] 23)
  have HT0 := Lib.hid hT
  have HT := Lib.hid (ut_keep hT b0)
  have O0 := Lib.hid (OptAt.new w cs mk st true wd)
  have HF := Lib.hid (fun W hb i => OptAt.frz w cs mk st true wd (W := W) hb i)
  clear hT hu hA hu2 hq hr hsm ha2
  go_enter Tryd.func3, Tryd.ntmps3
  go_wp2_with fail
  refine (head_any _ HT.out).mono ?_
  rintro e w1 ⟨rfl, b1⟩
  have O1 := O0.out.keep b1
  have f4 := HF.out w1 b1 4
  have B1 := Lib.hid (b0.trans (b1.mono b0.size))
  have O1h := Lib.hid O1
  obtain ⟨x0, x1, x2, x3, x4⟩ := O1
  clear b0 b1 HF O0 HT
  go_wp2_with fail
  obtain ⟨X, hX⟩ : ∃ X, X = w1.setCell ⟨w.heap.size, 4, none⟩ (.bool false) := ⟨_, rfl⟩
  rw [← hX]
  have OX : Hid (OptAt X w.heap.size cs mk st true false) := by rw [hX]; exact O1h.out.set4 false
  have BX : Hid (Below w.heap.size w X) := by rw [hX]; exact B1.out.setCell (p := ⟨w.heap.size, 4, none⟩) (Nat.le_refl _) _
  have TX := Lib.hid (ut_keep HT0.out BX.out)
  clear hX O1h B1 x0 x1 x2 x3 x4 f4
  with_reducible refine (make_is cs mk st true false l 0 false HM _ TX.out).mono ?_
  rintro e w2 ⟨a2, b2, c2, d2, e2, t2, q2, rfl, k2, hQ⟩
  obtain ⟨Y, hY⟩ : ∃ Y, Y = w2.alloc (.cells #[.bool false, .bool a2, .bool b2, .bool c2, .bool d2, .bool e2, .string (strOf t2), .pointer q2] 27) := ⟨_, rfl⟩
  have b2Y : Below w2.heap.size w2 Y := by rw [hY]; exact (Below.refl _ _).alloc (Nat.le_refl _) _
  have OY := OX.out.keep (k2.trans (b2Y.mono k2.size))
  have BY := Lib.hid (BX.out.trans ((k2.trans (b2Y.mono k2.size)).mono BX.out.size))
  have TY := Lib.hid (ut_keep HT0.out BY.out)
  have AY : At8 Y w2.heap.size (.bool false) (.bool a2) (.bool b2) (.bool c2) (.bool d2) (.bool e2) (.string (strOf t2)) (.pointer q2) := by rw [hY]; exact At8.new w2 _ _ _ _ _ _ _ _ _
  have OYh := Lib.hid OY
  have AYh := Lib.hid AY
  have QY := hQ.keep b2Y
  clear OX TX BX k2 b2Y hQ OY AY
  go_wp2_with fail
  rw [← hY]
  clear hY
  have Q0 := Lib.hid QY.get
  with_reducible refine (right_is l true HV _ TY.out (by omega)).mono ?_
  rintro e w3 ⟨rfl, k3⟩
  obtain ⟨x0, x1, x2, x3, x4⟩ := OYh.out.keep k3
  go_wp2_with fail
  with_reducible refine (stop_is l false HST _ (ut_keep TY.out k3)).mono ?_
  rintro e w4 ⟨rfl, k4⟩
  replace k4 := k3.trans (k4.mono k3.size)
  clear x0 x1 x2 x3 x4 
  obtain ⟨x0, x1, x2, x3, x4⟩ := OYh.out.keep k4
  go_wp2_with fail
  with_reducible refine (make_is cs mk st true false v 0 false HM2 _ (ut_keep TY.out k4)).mono ?_
  rintro e w5 ⟨a5, b5, c5, d5, e5, t5, q5, rfl, k5, hQ5⟩
  obtain ⟨Z, hZ⟩ : ∃ Z, Z = w5.alloc (.cells #[.bool false, .bool a5, .bool b5, .bool c5, .bool d5, .bool e5, .string (strOf t5), .pointer q5] 27) := ⟨_, rfl⟩
  have b5Z : Below w5.heap.size w5 Z := by rw [hZ]; exact (Below.refl _ _).alloc (Nat.le_refl _) _
  have kZ : Below Y.heap.size Y Z := (k4.trans (k5.mono k4.size)).trans (b5Z.mono (k4.trans (k5.mono k4.size)).size)
  have OZ := OYh.out.keep kZ
  have AX := Lib.hid (AYh.out.keep kZ)
  have BZ := Lib.hid (BY.out.trans (kZ.mono BY.out.size))
  have TZ := Lib.hid (ut_keep HT0.out BZ.out)
  have AZ : Hid (At8 Z w5.heap.size (.bool false) (.bool a5) (.bool b5) (.bool c5) (.bool d5) (.bool e5) (.string (strOf t5)) (.pointer q5)) := by rw [hZ]; exact At8.new w5 _ _ _ _ _ _ _ _ _
  have QX := Lib.hid (Q0.out.keep kZ)
  have QZ := hQ5.keep b5Z
  have OZh := Lib.hid OZ
  clear k3 k5 b5Z kZ hQ5 Q0 QY OYh AYh BY TY x0 x1 x2 x3 x4 k4
  obtain ⟨x0, x1, x2, x3, x4⟩ := OZ
  go_wp2_with fail
  rw [← hZ]
  clear hZ x0 x1 x2 x3 x4
  have K1 : Hid (∀ W, Below Z.heap.size Z W → Calls Tryd.prog 14 #[.string (strOf l), .agg #[.bool cs, .bool mk, .bool st, .bool true, .bool false], .bool st] W fun e w' => e = .returned (.string (strOf q)) ∧ Below Z.heap.size Z w') := fun W hb =>
    (lof_is cs mk st true false st l q L1 W (ut_keep TZ.out hb)).mono fun e w' h => ⟨h.1, hb.trans (h.2.mono hb.size)⟩
  have K2 : Hid (∀ W, Below Z.heap.size Z W → Calls Tryd.prog 14 #[.string (strOf v), .agg #[.bool cs, .bool mk, .bool st, .bool true, .bool false], .bool st] W fun e w' => e = .returned (.string (strOf r)) ∧ Below Z.heap.size Z w') := fun W hb =>
    (lof_is cs mk st true false st v r L2 W (ut_keep TZ.out hb)).mono fun e w' h => ⟨h.1, hb.trans (h.2.mono hb.size)⟩
  have HS : Hid (∀ W, Below Z.heap.size Z W → W.cell? ⟨w.heap.size, 0, none⟩ = some (.bool cs) ∧ W.cell? ⟨w.heap.size, 1, none⟩ = some (.bool mk) ∧ W.cell? ⟨w.heap.size, 2, none⟩ = some (.bool st) ∧ W.cell? ⟨w.heap.size, 3, none⟩ = some (.bool true) ∧ W.cell? ⟨w.heap.size, 4, none⟩ = some (.bool false)) := fun W hb => OZh.out.keep hb
  go_region_held3 (fun W => W.cell? ⟨w.heap.size, 0, none⟩ = some (.bool cs) ∧ W.cell? ⟨w.heap.size, 1, none⟩ = some (.bool mk) ∧ W.cell? ⟨w.heap.size, 2, none⟩ = some (.bool st) ∧ W.cell? ⟨w.heap.size, 3, none⟩ = some (.bool true) ∧ W.cell? ⟨w.heap.size, 4, none⟩ = some (.bool false))
    (first | exact HS.out _ (Below.refl _ _).drew | exact HS.out _ (by assumption))
    (first
      | (go_at_call 14; (with_reducible refine (K1.out _ ?_).mono ?_); (first | exact (Below.refl _ _).drew | assumption); rintro e w6 ⟨rfl, hb6⟩)
      | (go_at_call 14; (with_reducible refine (K2.out _ ?_).mono ?_); (first | exact (Below.refl _ _).drew | assumption); rintro e w7 ⟨rfl, hb7⟩))
  all_goals
    obtain ⟨y0, y1, y2, y3, y4, y5, y6, y7⟩ := AX.out.keep (show Below Z.heap.size Z _ from (by assumption))
    go_wp2_with fail
    with_reducible refine (QW.is QX v sm M1 _ (show Below Z.heap.size Z _ from (by assumption))).mono ?_
    rintro e w8 ⟨rfl, k8⟩
    replace k8 := (show Below Z.heap.size Z _ from (by assumption)).trans (k8.mono (show Below Z.heap.size Z _ from (by assumption)).size)
    clear y0 y1 y2 y3 y4 y5 y6 y7
    obtain ⟨y0, y1, y2, y3, y4, y5, y6, y7⟩ := AX.out.keep k8
    go_wp2_with fail
    with_reducible refine (QW.is QX l true M2 _ k8).mono ?_
    rintro e w9 ⟨rfl, k9⟩
    replace k9 := k8.trans (k9.mono k8.size)
    clear y0 y1 y2 y3 y4 y5 y6 y7
    obtain ⟨y0, y1, y2, y3, y4, y5, y6, y7⟩ := AZ.out.keep k9
    go_wp2_with fail
    with_reducible refine (QW.is (Lib.hid QZ.get) l sm M3 _ k9).mono ?_
    rintro e w10 ⟨rfl, k10⟩
    replace k10 := k9.trans (k10.mono k9.size)
    go_wp2_with fail
    go_ret
    exact ⟨rfl, BZ.out.trans (k10.mono BZ.out.size)⟩
theorem formWords_all (cs mk st sp wd : Bool) (l v : List UInt8) (w : World) (hT : UT w) :
    Calls Tryd.prog 3 #[.string (strOf l), .string (strOf v), .agg #[.bool cs, .bool mk, .bool st, .bool sp, .bool wd]] w fun e w' => e = .returned (.bool true) ∧ Below w.heap.size w w' := by
  by_cases hl : l.length ≤ 60 ∧ v.length ≤ 60
  · obtain ⟨h1, h2⟩ := hl
    cases hu : Lib.validD l with
    | false => exact fw_utf cs mk st sp wd l v h1 h2 hu w hT
    | true =>
      cases sp with
      | false =>
        cases hu2 : Lib.validD v with
        | false => exact fw_w0_utf cs mk st wd l v h1 h2 hu hu2 w hT
        | true => exact fw_w0_word cs mk st wd l v h1 h2 hu hu2 rfl w hT
      | true =>
        cases hs : stopB l with
        | true => exact fw_any cs mk st wd l v h1 h2 hu hs w hT
        | false =>
          cases hu2 : Lib.validD v with
          | false => exact fw_w1_utf cs mk st wd l v h1 h2 hu hs hu2 w hT
          | true =>
            cases ha2 : anyQ v true with
            | true => exact fw_w1_any cs mk st wd l v h1 h2 hu hs hu2 ha2 w hT
            | false => exact fw_w1_word cs mk st wd l v h1 h2 hu hs hu2 ha2 w hT
  · have hsz : (60 : Int) < ((strOf l).size : Int) ∨ (((strOf l).size : Int) ≤ 60 ∧ (60 : Int) < ((strOf v).size : Int)) := by rw [size8, size8]; omega
    have b0 := (Below.refl w.heap.size w).alloc (Nat.le_refl _) (.cells #[.bool cs, .bool mk, .bool st, .bool sp, .bool wd] 23)
    have HT := Lib.hid (ut_keep hT b0)
    clear hT hl
    rcases hsz with hs | ⟨hs, hs2⟩
    all_goals
      go_enter Tryd.func3, Tryd.ntmps3
      go_wp2_with fail
      refine (head_any _ HT.out).mono ?_
      rintro e w1 ⟨rfl, b1⟩
      replace b1 := b0.trans (b1.mono b0.size)
      go_wp2_with fail
      go_ret
      exact ⟨rfl, b1⟩
end Go.Proofs.YtbchmfkdhaggbaaDoor
