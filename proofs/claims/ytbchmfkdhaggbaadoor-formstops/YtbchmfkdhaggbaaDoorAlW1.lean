/- sign, whole, Of of package alike; the law's of and head. -/
import Derived.Test.YtbchmfkdhaggbaaDoorAlSpec
import Derived.Test.YtbchmfkdhaggbaaDoorAlMap
import Derived.Test.YtbchmfkdhaggbaaDoorAs7
import Derived.KernelRfl
namespace Go.Proofs.YtbchmfkdhaggbaaDoor
open Go.RowKit
set_option maxRecDepth 100000

theorem str_eqL (a b : List UInt8) : ((strOf a).toList == b) = decide (a = b) := by
  rw [ByteArray.toList_eq, str_data]
  by_cases h : a = b
  · subst h; simp
  · rw [decide_eq_false h]; exact beq_eq_false_iff_ne.2 h
theorem stem_a (l : List UInt8) (hl : l.length ≤ 1000000000) (w : World) :
    Calls Tryd.prog 26 #[.string (strOf l)] w fun e w' => e = .returned (.string (strOf (St.stemL l))) ∧ Below w.heap.size w w' := St.stem_any l hl w
theorem plain_i (r p : Int) (h : Hid (0 ≤ r ∧ r ≤ 1114111 ∧ plainI r = p)) (w : World) : Calls Tryd.prog 17 #[.int .i32 r] w fun e w' => e = .returned (.int .i32 p) ∧ w = w' := by
  obtain ⟨h1, h2, h3⟩ := h.out; subst h3; exact plain_any r (by omega) (by omega) w
theorem low_i (r p : Int) (h : Hid (-2147483648 ≤ r ∧ r ≤ 2147483647 ∧ lowI r = p)) (w : World) : Calls Tryd.prog 18 #[.int .i32 r] w fun e w' => e = .returned (.int .i32 p) ∧ w = w' := by
  obtain ⟨h1, h2, h3⟩ := h.out; subst h3; exact low_any r (by omega) (by omega) w
set_option maxHeartbeats 2000000 in
theorem sign_any (cs mk st sp wd : Bool) (r : Int) (h1 : 0 ≤ r) (h2 : r ≤ 1114111) (w : World) :
    Calls Tryd.prog 33 #[.agg #[.bool cs, .bool mk, .bool st, .bool sp, .bool wd], .int .i32 r] w fun e w' => e = .returned (.int .i32 (signO cs mk r)) ∧ Below w.heap.size w w' := by
  have hb := plain_bounds r (by omega) (by omega)
  obtain ⟨p, hp⟩ : ∃ p, plainI r = p := ⟨_, rfl⟩
  obtain ⟨q, hq⟩ : ∃ q, lowI p = q := ⟨_, rfl⟩
  obtain ⟨q2, hq2⟩ : ∃ q, lowI r = q := ⟨_, rfl⟩
  have HP : Hid (0 ≤ r ∧ r ≤ 1114111 ∧ plainI r = p) := ⟨h1, h2, hp⟩
  have HL : Hid (-2147483648 ≤ p ∧ p ≤ 2147483647 ∧ lowI p = q) := ⟨by rw [← hp]; exact hb.1, by rw [← hp]; exact hb.2, hq⟩
  have HL2 : Hid (-2147483648 ≤ r ∧ r ≤ 2147483647 ∧ lowI r = q2) := ⟨by omega, by omega, hq2⟩
  have HS : Hid (signO cs mk r = if cs then (if mk then r else p) else (if mk then q2 else q)) := by show _ = _; cases cs <;> cases mk <;> simp [signO, hp, hq, hq2]
  clear hp hq hq2 hb
  cases mk <;> cases cs
  · go_enter Tryd.func33, Tryd.ntmps33
    go_wp2_with fail
    with_reducible refine (plain_i r p HP _).mono ?_
    rintro e w1 ⟨rfl, rfl⟩
    go_wp2_with fail
    with_reducible refine (low_i p q HL _).mono ?_
    rintro e w2 ⟨rfl, rfl⟩
    go_wp2_with fail
    go_ret
    exact ⟨by rw [HS.out]; rfl, (Below.refl _ _).alloc (Nat.le_refl _) _⟩
  · go_enter Tryd.func33, Tryd.ntmps33
    go_wp2_with fail
    with_reducible refine (plain_i r p HP _).mono ?_
    rintro e w1 ⟨rfl, rfl⟩
    go_wp2_with fail
    go_ret
    exact ⟨by rw [HS.out]; rfl, (Below.refl _ _).alloc (Nat.le_refl _) _⟩
  · go_enter Tryd.func33, Tryd.ntmps33
    go_wp2_with fail
    with_reducible refine (low_i r q2 HL2 _).mono ?_
    rintro e w2 ⟨rfl, rfl⟩
    go_wp2_with fail
    go_ret
    exact ⟨by rw [HS.out]; rfl, (Below.refl _ _).alloc (Nat.le_refl _) _⟩
  · go_enter Tryd.func33, Tryd.ntmps33
    go_wp2_with fail
    go_ret
    exact ⟨by rw [HS.out]; rfl, (Below.refl _ _).alloc (Nat.le_refl _) _⟩
theorem go_sign (v : Value) (x : Int) (W : World) : (callFunc 33 #[v, .int .i32 x]).run Tryd.prog W = .ok (.enter 33 #[v, .int .i32 x]) W := enter_of Tryd.func33 (by kernel_rfl) (by kernel_rfl) _ W
set_option maxHeartbeats 2000000 in
theorem whole_any (cs mk st sp wd : Bool) (l : List UInt8) (hl : l.length ≤ 10000000) (w : World) (hT : UT w) :
    Calls Tryd.prog 24 #[.agg #[.bool cs, .bool mk, .bool st, .bool sp, .bool wd], .string (strOf l)] w fun e w' => e = .returned (.string (strOf (wholeL cs mk l))) ∧ Below w.heap.size w w' := by
  have HM := Lib.hid (fun W hT => map_bound 33 (.agg #[.bool cs, .bool mk, .bool st, .bool sp, .bool wd]) (signN cs mk) (fun r W h => sign_any cs mk st sp wd (r : Int) (by omega) (by unfold isSign at h; omega) W) (go_sign _) l W hT (by omega))
  have HT := Lib.hid (ut_keep hT ((Below.refl w.heap.size w).alloc (Nat.le_refl _) (.cells #[.bool cs, .bool mk, .bool st, .bool sp, .bool wd] 23)))
  clear hT
  go_enter Tryd.func24, Tryd.ntmps24
  go_wp2_with fail
  refine (HM.out _ HT.out).mono ?_
  rintro e w1 ⟨rfl, b1⟩
  have b2 := ((Below.refl w.heap.size w).alloc (Nat.le_refl _) _).trans (b1.mono (by simp))
  go_wp2_with fail
  go_ret
  exact ⟨rfl, b2⟩
theorem whole_is (cs mk st sp wd : Bool) (l d : List UInt8) (h : Hid (wholeL cs mk l = d ∧ l.length ≤ 10000000)) (w : World) (hT : UT w) :
    Calls Tryd.prog 24 #[.agg #[.bool cs, .bool mk, .bool st, .bool sp, .bool wd], .string (strOf l)] w fun e w' => e = .returned (.string (strOf d)) ∧ Below w.heap.size w w' := by
  obtain ⟨h1, h2⟩ := h.out; subst h1; exact whole_any cs mk st sp wd l h2 w hT
set_option maxHeartbeats 2000000 in
theorem of_any (cs mk st sp wd : Bool) (l : List UInt8) (hl : l.length ≤ 10000000) (w : World) (hT : UT w) :
    Calls Tryd.prog 20 #[.agg #[.bool cs, .bool mk, .bool st, .bool sp, .bool wd], .string (strOf l)] w fun e w' => e = .returned (.string (strOf (ofL cs mk st l))) ∧ Below w.heap.size w w' := by
  obtain ⟨d, hd⟩ : ∃ d, wholeL cs mk l = d := ⟨_, rfl⟩
  have hdl := wholeL_len cs mk l
  have HW : Hid (wholeL cs mk l = d ∧ l.length ≤ 10000000) := ⟨hd, hl⟩
  have HO : Hid (ofL cs mk st l = if st then St.stemL d else d) := by show _ = _; rw [← hd]; rfl
  have HST := Lib.hid (stem_a d (by rw [← hd]; omega))
  have HT := Lib.hid (ut_keep hT ((Below.refl w.heap.size w).alloc (Nat.le_refl _) (.cells #[.bool cs, .bool mk, .bool st, .bool sp, .bool wd] 23)))
  have hA : ∀ W, Below (w.alloc (.cells #[.bool cs, .bool mk, .bool st, .bool sp, .bool wd] 23)).heap.size (w.alloc (.cells #[.bool cs, .bool mk, .bool st, .bool sp, .bool wd] 23)) W → W.cell? ⟨w.heap.size, 2, none⟩ = some (.bool st) := fun W hb => by
    rw [hb.cell (p := ⟨w.heap.size, 2, none⟩) (by simp)]
    have z := new_cells w #[.bool cs, .bool mk, .bool st, .bool sp, .bool wd] 23 (0, 0) 2 _ rfl
    rwa [add_addr, Nat.zero_add] at z
  have HA := Lib.hid hA
  clear hT hd hdl hA
  cases st
  · go_enter Tryd.func20, Tryd.ntmps20
    go_wp2_with fail
    refine (whole_is cs mk false sp wd l d HW _ HT.out).mono ?_
    rintro e w1 ⟨rfl, b1⟩
    have hc := HA.out w1 b1
    have b2 := ((Below.refl w.heap.size w).alloc (Nat.le_refl _) _).trans (b1.mono (by simp))
    go_wp2_with fail
    go_ret
    exact ⟨by rw [HO.out]; rfl, b2⟩
  · go_enter Tryd.func20, Tryd.ntmps20
    go_wp2_with fail
    refine (whole_is cs mk true sp wd l d HW _ HT.out).mono ?_
    rintro e w1 ⟨rfl, b1⟩
    have hc := HA.out w1 b1
    have b2 := ((Below.refl w.heap.size w).alloc (Nat.le_refl _) _).trans (b1.mono (by simp))
    go_wp2_with fail
    refine (HST.out _).mono ?_
    rintro e w2 ⟨rfl, b3⟩
    have b4 := b2.trans (b3.mono b2.size)
    go_wp2_with fail
    go_ret
    exact ⟨by rw [HO.out]; rfl, b4⟩
theorem of_is (cs mk st sp wd : Bool) (l d : List UInt8) (h : Hid (ofL cs mk st l = d ∧ l.length ≤ 10000000)) (w : World) (hT : UT w) :
    Calls Tryd.prog 20 #[.agg #[.bool cs, .bool mk, .bool st, .bool sp, .bool wd], .string (strOf l)] w fun e w' => e = .returned (.string (strOf d)) ∧ Below w.heap.size w w' := by
  obtain ⟨h1, h2⟩ := h.out; subst h1; exact of_any cs mk st sp wd l h2 w hT
theorem of_lit (cs mk st sp wd : Bool) (l d : List UInt8) (h : Hid (ofL cs mk st l = d ∧ l.length ≤ 10000000)) (w : World) (hT : UT w) :
    Calls Tryd.prog 20 #[.agg #[.bool cs, .bool mk, .bool st, .bool sp, .bool wd], .string ⟨l.toArray⟩] w fun e w' => e = .returned (.string ⟨d.toArray⟩) ∧ Below w.heap.size w w' := of_is cs mk st sp wd l d h w hT
theorem mapp_is (l d : List UInt8) (h : Hid (mapL plainN l = d ∧ l.length ≤ 10000000)) (w : World) (hT : UT w) :
    Calls Tryd.prog 23 #[.string (strOf l), .func (.func 17) #[] #[]] w fun e w' => e = .returned (.string (strOf d)) ∧ Below w.heap.size w w' := by
  obtain ⟨h1, h2⟩ := h.out; subst h1; exact map_plain l w hT (by omega)
theorem mapl_is (l d : List UInt8) (h : Hid (mapL lowN l = d ∧ l.length ≤ 40000000)) (w : World) (hT : UT w) :
    Calls Tryd.prog 23 #[.string (strOf l), .func (.func 18) #[] #[]] w fun e w' => e = .returned (.string (strOf d)) ∧ Below w.heap.size w w' := by
  obtain ⟨h1, h2⟩ := h.out; subst h1; exact map_low l w hT (by omega)
theorem stem_i (l d : List UInt8) (h : Hid (St.stemL l = d ∧ l.length ≤ 1000000000)) (w : World) :
    Calls Tryd.prog 26 #[.string (strOf l)] w fun e w' => e = .returned (.string (strOf d)) ∧ Below w.heap.size w w' := by
  obtain ⟨h1, h2⟩ := h.out; subst h1; exact stem_a l h2 w
theorem opt_cell (w W : World) (vs : Array Value) (t : TypeId) (k : Nat) (v : Value) (h : vs.toList[k]? = some v) (hb : Below (w.alloc (.cells vs t)).heap.size (w.alloc (.cells vs t)) W) : W.cell? ⟨w.heap.size, k, none⟩ = some v := by
  rw [hb.cell (p := ⟨w.heap.size, k, none⟩) (by simp)]
  have z := new_cells w vs t (0, 0) k v h
  rwa [add_addr, Nat.zero_add] at z
set_option maxHeartbeats 4000000 in
theorem lof_any (cs mk st sp wd sm : Bool) (l : List UInt8) (hl : l.length ≤ 1000000) (w : World) (hT : UT w) :
    Calls Tryd.prog 14 #[.string (strOf l), .agg #[.bool cs, .bool mk, .bool st, .bool sp, .bool wd], .bool sm] w fun e w' => e = .returned (.string (strOf (ofL cs mk sm l))) ∧ Below w.heap.size w w' := by
  have HO : Hid (ofL cs mk sm l = if sm then St.stemL (caseL cs (marksL mk l)) else caseL cs (marksL mk l)) := by show _ = _; rw [whole_steps]; rfl
  have b0 := (Below.refl w.heap.size w).alloc (Nat.le_refl _) (.cells #[.bool cs, .bool mk, .bool st, .bool sp, .bool wd] 23)
  have HT := Lib.hid (ut_keep hT b0)
  have HB := Lib.hid b0
  have p1 := mapL_len plainN l
  have p2 := mapL_len lowN l
  have p3 := mapL_len lowN (mapL plainN l)
  obtain ⟨d1, hd1⟩ : ∃ d, mapL plainN l = d := ⟨_, rfl⟩
  obtain ⟨d2, hd2⟩ : ∃ d, mapL lowN l = d := ⟨_, rfl⟩
  obtain ⟨d3, hd3⟩ : ∃ d, mapL lowN d1 = d := ⟨_, rfl⟩
  have HP : Hid (mapL plainN l = d1 ∧ l.length ≤ 10000000) := ⟨hd1, by omega⟩
  have HL2 : Hid (mapL lowN l = d2 ∧ l.length ≤ 40000000) := ⟨hd2, by omega⟩
  have HL3 : Hid (mapL lowN d1 = d3 ∧ d1.length ≤ 40000000) := ⟨hd3, by rw [← hd1]; omega⟩
  have q0 : Hid (l.length ≤ 100000000) := by show _ ≤ _; omega
  have q1 : Hid (d1.length ≤ 100000000) := by show _ ≤ _; rw [← hd1]; omega
  have q2 : Hid (d2.length ≤ 100000000) := by show _ ≤ _; rw [← hd2]; omega
  have q3 : Hid (d3.length ≤ 100000000) := by show _ ≤ _; rw [← hd3, ← hd1]; omega
  have HC := Lib.hid (fun W k v h hb => opt_cell w W #[.bool cs, .bool mk, .bool st, .bool sp, .bool wd] 23 k v h hb)
  have HD : Hid (mapL plainN l = d1 ∧ mapL lowN l = d2 ∧ mapL lowN d1 = d3) := ⟨hd1, hd2, hd3⟩
  clear hT p1 p2 p3 hd1 hd2 hd3 hl b0
  cases mk <;> cases cs <;> cases sm
  · go_enter Tryd.func14, Tryd.ntmps14
    go_wp2_with fail
    refine (mapp_is l d1 HP _ HT.out).mono ?_
    rintro e w1 ⟨rfl, b1⟩
    have T1 := Lib.hid (ut_keep HT.out b1)
    have c0 := HC.out w1 0 _ rfl b1
    have c1 := HC.out w1 1 _ rfl b1
    have B1 := HB.out.trans (b1.mono HB.out.size)
    go_wp2_with fail
    refine (mapl_is d1 d3 HL3 _ T1.out).mono ?_
    rintro e w2 ⟨rfl, b2⟩
    have B2 := B1.trans (b2.mono B1.size)
    go_wp2_with fail
    go_ret
    exact ⟨by rw [HO.out, show caseL false (marksL false l) = d3 from (by show mapL lowN (mapL plainN l) = d3; rw [HD.out.1]; exact HD.out.2.2)]; rfl, B2⟩
  · go_enter Tryd.func14, Tryd.ntmps14
    go_wp2_with fail
    refine (mapp_is l d1 HP _ HT.out).mono ?_
    rintro e w1 ⟨rfl, b1⟩
    have T1 := Lib.hid (ut_keep HT.out b1)
    have c0 := HC.out w1 0 _ rfl b1
    have c1 := HC.out w1 1 _ rfl b1
    have B1 := HB.out.trans (b1.mono HB.out.size)
    go_wp2_with fail
    refine (mapl_is d1 d3 HL3 _ T1.out).mono ?_
    rintro e w2 ⟨rfl, b2⟩
    have B2 := B1.trans (b2.mono B1.size)
    go_wp2_with fail
    refine (stem_a d3 (by have := q3.out; omega) _).mono ?_
    rintro e w3 ⟨rfl, b3⟩
    have B3 := B2.trans (b3.mono B2.size)
    go_wp2_with fail
    go_ret
    exact ⟨by rw [HO.out, show caseL false (marksL false l) = d3 from (by show mapL lowN (mapL plainN l) = d3; rw [HD.out.1]; exact HD.out.2.2)]; rfl, B3⟩
  · go_enter Tryd.func14, Tryd.ntmps14
    go_wp2_with fail
    refine (mapp_is l d1 HP _ HT.out).mono ?_
    rintro e w1 ⟨rfl, b1⟩
    have T1 := Lib.hid (ut_keep HT.out b1)
    have c0 := HC.out w1 0 _ rfl b1
    have c1 := HC.out w1 1 _ rfl b1
    have B1 := HB.out.trans (b1.mono HB.out.size)
    go_wp2_with fail
    go_ret
    exact ⟨by rw [HO.out, show caseL true (marksL false l) = d1 from HD.out.1]; rfl, B1⟩
  · go_enter Tryd.func14, Tryd.ntmps14
    go_wp2_with fail
    refine (mapp_is l d1 HP _ HT.out).mono ?_
    rintro e w1 ⟨rfl, b1⟩
    have T1 := Lib.hid (ut_keep HT.out b1)
    have c0 := HC.out w1 0 _ rfl b1
    have c1 := HC.out w1 1 _ rfl b1
    have B1 := HB.out.trans (b1.mono HB.out.size)
    go_wp2_with fail
    refine (stem_a d1 (by have := q1.out; omega) _).mono ?_
    rintro e w3 ⟨rfl, b3⟩
    have B3 := B1.trans (b3.mono B1.size)
    go_wp2_with fail
    go_ret
    exact ⟨by rw [HO.out, show caseL true (marksL false l) = d1 from HD.out.1]; rfl, B3⟩
  · go_enter Tryd.func14, Tryd.ntmps14
    go_wp2_with fail
    refine (mapl_is l d2 HL2 _ HT.out).mono ?_
    rintro e w2 ⟨rfl, b2⟩
    have B2 := HB.out.trans (b2.mono HB.out.size)
    go_wp2_with fail
    go_ret
    exact ⟨by rw [HO.out, show caseL false (marksL true l) = d2 from HD.out.2.1]; rfl, B2⟩
  · go_enter Tryd.func14, Tryd.ntmps14
    go_wp2_with fail
    refine (mapl_is l d2 HL2 _ HT.out).mono ?_
    rintro e w2 ⟨rfl, b2⟩
    have B2 := HB.out.trans (b2.mono HB.out.size)
    go_wp2_with fail
    refine (stem_a d2 (by have := q2.out; omega) _).mono ?_
    rintro e w3 ⟨rfl, b3⟩
    have B3 := B2.trans (b3.mono B2.size)
    go_wp2_with fail
    go_ret
    exact ⟨by rw [HO.out, show caseL false (marksL true l) = d2 from HD.out.2.1]; rfl, B3⟩
  · go_enter Tryd.func14, Tryd.ntmps14
    go_wp2_with fail
    go_ret
    exact ⟨by rw [HO.out, show caseL true (marksL true l) = l from rfl]; rfl, HB.out⟩
  · go_enter Tryd.func14, Tryd.ntmps14
    go_wp2_with fail
    refine (stem_a l (by have := q0.out; omega) _).mono ?_
    rintro e w3 ⟨rfl, b3⟩
    have B3 := HB.out.trans (b3.mono HB.out.size)
    go_wp2_with fail
    go_ret
    exact ⟨by rw [HO.out, show caseL true (marksL true l) = l from rfl]; rfl, B3⟩
theorem lof_is (cs mk st sp wd sm : Bool) (l d : List UInt8) (h : Hid (ofL cs mk sm l = d ∧ l.length ≤ 1000000)) (w : World) (hT : UT w) :
    Calls Tryd.prog 14 #[.string (strOf l), .agg #[.bool cs, .bool mk, .bool st, .bool sp, .bool wd], .bool sm] w fun e w' => e = .returned (.string (strOf d)) ∧ Below w.heap.size w w' := by
  obtain ⟨h1, h2⟩ := h.out; subst h1; exact lof_any cs mk st sp wd sm l h2 w hT
set_option maxHeartbeats 2000000 in
theorem head_any (w : World) (hT : UT w) : Calls Tryd.prog 8 #[] w fun e w' => e = .returned (.bool true) ∧ Below w.heap.size w w' := by
  have H1 : Hid (ofL false false true [82, 195, 169, 115, 117, 109, 195, 169, 115] = [114, 101, 115, 117, 109] ∧ [82, 195, 169, 115, 117, 109, 195, 169, 115].length ≤ 10000000) := ⟨by decide +kernel, by decide⟩
  have H2 : Hid (ofL false false true [114, 101, 115, 117, 109, 101] = [114, 101, 115, 117, 109] ∧ [114, 101, 115, 117, 109, 101].length ≤ 10000000) := ⟨by decide +kernel, by decide⟩
  have b0 := (Below.refl w.heap.size w).alloc (Nat.le_refl _) (.cells #[.bool false, .bool false, .bool true, .bool false, .bool false] 23)
  have HT := Lib.hid (ut_keep hT b0)
  have HC := Lib.hid (fun W k v h hb => opt_cell w W #[.bool false, .bool false, .bool true, .bool false, .bool false] 23 k v h hb)
  clear hT
  go_enter Tryd.func8, Tryd.ntmps8
  go_wp2_with fail
  with_reducible refine (of_lit _ _ _ _ _ _ _ H1 _ ?_).mono ?_
  · first | exact HT.out | simpa using HT.out
  rintro e w1 ⟨rfl, b1⟩
  have T1 := Lib.hid (ut_keep (by first | exact HT.out | simpa using HT.out) b1)
  have c0 := HC.out w1 0 _ rfl (by first | exact b1 | simpa using b1)
  have c1 := HC.out w1 1 _ rfl (by first | exact b1 | simpa using b1)
  have c2 := HC.out w1 2 _ rfl (by first | exact b1 | simpa using b1)
  have c3 := HC.out w1 3 _ rfl (by first | exact b1 | simpa using b1)
  have c4 := HC.out w1 4 _ rfl (by first | exact b1 | simpa using b1)
  have B1 : Below w.heap.size w w1 := by first | exact b0.trans (b1.mono b0.size) | (have := b0.trans (b1.mono (by simp)); simpa using this)
  go_wp2_with fail
  with_reducible refine (of_lit _ _ _ _ _ _ _ H2 _ T1.out).mono ?_
  rintro e w2 ⟨rfl, b2⟩
  have B2 := B1.trans (b2.mono B1.size)
  go_wp2_with fail
  go_ret
  exact ⟨rfl, B2⟩
end Go.Proofs.YtbchmfkdhaggbaaDoor
