/- sign, whole, Of of package alike; the law's of and head. -/
import Derived.Test.YtjeccmmhmdgdgaaGreatDoorAlSpec
import Derived.Test.YtjeccmmhmdgdgaaGreatDoorAlMap
import Derived.Test.YtjeccmmhmdgdgaaGreatDoorAs7
import Derived.KernelRfl
namespace Go.Proofs.YtjeccmmhmdgdgaaGreatDoor
open Go.RowKit
set_option maxRecDepth 100000

theorem str_eqL (a b : List UInt8) : ((strOf a).toList == b) = decide (a = b) := by
  rw [ByteArray.toList_eq, str_data]
  by_cases h : a = b
  · subst h; simp
  · rw [decide_eq_false h]; exact beq_eq_false_iff_ne.2 h
theorem stem_a (l : List UInt8) (hl : l.length ≤ 1000000000) (w : World) :
    Calls Tryz.prog 34 #[.string (strOf l)] w fun e w' => e = .returned (.string (strOf (St.stemL l))) ∧ Below w.heap.size w w' := St.stem_any l hl w
theorem plain_i (r p : Int) (h : Hid (0 ≤ r ∧ r ≤ 1114111 ∧ plainI r = p)) (w : World) : Calls Tryz.prog 51 #[.int .i32 r] w fun e w' => e = .returned (.int .i32 p) ∧ w = w' := by
  obtain ⟨h1, h2, h3⟩ := h.out; subst h3; exact plain_any r (by omega) (by omega) w
theorem low_i (r p : Int) (h : Hid (-2147483648 ≤ r ∧ r ≤ 2147483647 ∧ lowI r = p)) (w : World) : Calls Tryz.prog 30 #[.int .i32 r] w fun e w' => e = .returned (.int .i32 p) ∧ w = w' := by
  obtain ⟨h1, h2, h3⟩ := h.out; subst h3; exact low_any r (by omega) (by omega) w
set_option maxHeartbeats 2000000 in
theorem sign_any (cs mk st sp wd : Bool) (r : Int) (h1 : 0 ≤ r) (h2 : r ≤ 1114111) (w : World) :
    Calls Tryz.prog 33 #[.agg #[.bool cs, .bool mk, .bool st, .bool sp, .bool wd], .int .i32 r] w fun e w' => e = .returned (.int .i32 (signO cs mk r)) ∧ Below w.heap.size w w' := by
  have hb := plain_bounds r (by omega) (by omega)
  obtain ⟨p, hp⟩ : ∃ p, plainI r = p := ⟨_, rfl⟩
  obtain ⟨q, hq⟩ : ∃ q, lowI p = q := ⟨_, rfl⟩
  obtain ⟨q2, hq2⟩ : ∃ q, lowI r = q := ⟨_, rfl⟩
  have HP : Hid (0 ≤ r ∧ r ≤ 1114111 ∧ plainI r = p) := ⟨h1, h2, hp⟩
  have HL : Hid (-2147483648 ≤ p ∧ p ≤ 2147483647 ∧ lowI p = q) := ⟨by rw [← hp]; exact hb.1, by rw [← hp]; exact hb.2, hq⟩
  have HL2 : Hid (-2147483648 ≤ r ∧ r ≤ 2147483647 ∧ lowI r = q2) := ⟨by omega, by omega, hq2⟩
  have HS : Hid (signO cs mk r = if cs then (if mk then r else p) else (if mk then q2 else q)) := by show _ = _; cases cs <;> cases mk <;> simp [signO, hp, hq, hq2]
  clear hp hq hq2 hb
  cases mk <;> cases cs
  · go_enter Tryz.func33, Tryz.ntmps33
    go_wp2_with fail
    with_reducible refine (plain_i r p HP _).mono ?_
    rintro e w1 ⟨rfl, rfl⟩
    go_wp2_with fail
    with_reducible refine (low_i p q HL _).mono ?_
    rintro e w2 ⟨rfl, rfl⟩
    go_wp2_with fail
    go_ret
    exact ⟨by rw [HS.out]; rfl, (Below.refl _ _).alloc (Nat.le_refl _) _⟩
  · go_enter Tryz.func33, Tryz.ntmps33
    go_wp2_with fail
    with_reducible refine (plain_i r p HP _).mono ?_
    rintro e w1 ⟨rfl, rfl⟩
    go_wp2_with fail
    go_ret
    exact ⟨by rw [HS.out]; rfl, (Below.refl _ _).alloc (Nat.le_refl _) _⟩
  · go_enter Tryz.func33, Tryz.ntmps33
    go_wp2_with fail
    with_reducible refine (low_i r q2 HL2 _).mono ?_
    rintro e w2 ⟨rfl, rfl⟩
    go_wp2_with fail
    go_ret
    exact ⟨by rw [HS.out]; rfl, (Below.refl _ _).alloc (Nat.le_refl _) _⟩
  · go_enter Tryz.func33, Tryz.ntmps33
    go_wp2_with fail
    go_ret
    exact ⟨by rw [HS.out]; rfl, (Below.refl _ _).alloc (Nat.le_refl _) _⟩
theorem go_sign (v : Value) (x : Int) (W : World) : (callFunc 33 #[v, .int .i32 x]).run Tryz.prog W = .ok (.enter 33 #[v, .int .i32 x]) W := enter_of Tryz.func33 (by kernel_rfl) (by kernel_rfl) _ W
set_option maxHeartbeats 2000000 in
theorem whole_any (cs mk st sp wd : Bool) (l : List UInt8) (hl : l.length ≤ 10000000) (w : World) (hT : UT w) :
    Calls Tryz.prog 23 #[.agg #[.bool cs, .bool mk, .bool st, .bool sp, .bool wd], .string (strOf l)] w fun e w' => e = .returned (.string (strOf (wholeL cs mk l))) ∧ Below w.heap.size w w' := by
  have HM := Lib.hid (fun W hT => map_bound 33 (.agg #[.bool cs, .bool mk, .bool st, .bool sp, .bool wd]) (signN cs mk) (fun r W h => sign_any cs mk st sp wd (r : Int) (by omega) (by unfold isSign at h; omega) W) (go_sign _) l W hT (by omega))
  have HT := Lib.hid (ut_keep hT ((Below.refl w.heap.size w).alloc (Nat.le_refl _) (.cells #[.bool cs, .bool mk, .bool st, .bool sp, .bool wd] 24)))
  clear hT
  go_enter Tryz.func23, Tryz.ntmps23
  go_wp2_with fail
  refine (HM.out _ HT.out).mono ?_
  rintro e w1 ⟨rfl, b1⟩
  have b2 := ((Below.refl w.heap.size w).alloc (Nat.le_refl _) _).trans (b1.mono (by simp))
  go_wp2_with fail
  go_ret
  exact ⟨rfl, b2⟩
theorem whole_is (cs mk st sp wd : Bool) (l d : List UInt8) (h : Hid (wholeL cs mk l = d ∧ l.length ≤ 10000000)) (w : World) (hT : UT w) :
    Calls Tryz.prog 23 #[.agg #[.bool cs, .bool mk, .bool st, .bool sp, .bool wd], .string (strOf l)] w fun e w' => e = .returned (.string (strOf d)) ∧ Below w.heap.size w w' := by
  obtain ⟨h1, h2⟩ := h.out; subst h1; exact whole_any cs mk st sp wd l h2 w hT
set_option maxHeartbeats 2000000 in
theorem of_any (cs mk st sp wd : Bool) (l : List UInt8) (hl : l.length ≤ 10000000) (w : World) (hT : UT w) :
    Calls Tryz.prog 16 #[.agg #[.bool cs, .bool mk, .bool st, .bool sp, .bool wd], .string (strOf l)] w fun e w' => e = .returned (.string (strOf (ofL cs mk st l))) ∧ Below w.heap.size w w' := by
  obtain ⟨d, hd⟩ : ∃ d, wholeL cs mk l = d := ⟨_, rfl⟩
  have hdl := wholeL_len cs mk l
  have HW : Hid (wholeL cs mk l = d ∧ l.length ≤ 10000000) := ⟨hd, hl⟩
  have HO : Hid (ofL cs mk st l = if st then St.stemL d else d) := by show _ = _; rw [← hd]; rfl
  have HST := Lib.hid (stem_a d (by rw [← hd]; omega))
  have HT := Lib.hid (ut_keep hT ((Below.refl w.heap.size w).alloc (Nat.le_refl _) (.cells #[.bool cs, .bool mk, .bool st, .bool sp, .bool wd] 24)))
  have hA : ∀ W, Below (w.alloc (.cells #[.bool cs, .bool mk, .bool st, .bool sp, .bool wd] 24)).heap.size (w.alloc (.cells #[.bool cs, .bool mk, .bool st, .bool sp, .bool wd] 24)) W → W.cell? ⟨w.heap.size, 2, none⟩ = some (.bool st) := fun W hb => by
    rw [hb.cell (p := ⟨w.heap.size, 2, none⟩) (by simp)]
    have z := new_cells w #[.bool cs, .bool mk, .bool st, .bool sp, .bool wd] 24 (0, 0) 2 _ rfl
    rwa [add_addr, Nat.zero_add] at z
  have HA := Lib.hid hA
  clear hT hd hdl hA
  cases st
  · go_enter Tryz.func16, Tryz.ntmps16
    go_wp2_with fail
    refine (whole_is cs mk false sp wd l d HW _ HT.out).mono ?_
    rintro e w1 ⟨rfl, b1⟩
    have hc := HA.out w1 b1
    have b2 := ((Below.refl w.heap.size w).alloc (Nat.le_refl _) _).trans (b1.mono (by simp))
    go_wp2_with fail
    go_ret
    exact ⟨by rw [HO.out]; rfl, b2⟩
  · go_enter Tryz.func16, Tryz.ntmps16
    go_wp2_with fail
    refine (whole_is cs mk true sp wd l d HW _ HT.out).mono ?_
    rintro e w1 ⟨rfl, b1⟩
    have hc := HA.out w1 b1
    have b2 := ((Below.refl w.heap.size w).alloc (Nat.le_refl _) _).trans (b1.mono (by simp))
    go_wp2_with fail
    refine (HST.out _).mono ?_
    rintro e w2 ⟨rfl, b3⟩
    have b4 := b2.trans (b3.mono b2.size)
    go_wp2_with fail
    go_ret
    exact ⟨by rw [HO.out]; rfl, b4⟩
theorem of_is (cs mk st sp wd : Bool) (l d : List UInt8) (h : Hid (ofL cs mk st l = d ∧ l.length ≤ 10000000)) (w : World) (hT : UT w) :
    Calls Tryz.prog 16 #[.agg #[.bool cs, .bool mk, .bool st, .bool sp, .bool wd], .string (strOf l)] w fun e w' => e = .returned (.string (strOf d)) ∧ Below w.heap.size w w' := by
  obtain ⟨h1, h2⟩ := h.out; subst h1; exact of_any cs mk st sp wd l h2 w hT
theorem of_lit (cs mk st sp wd : Bool) (l d : List UInt8) (h : Hid (ofL cs mk st l = d ∧ l.length ≤ 10000000)) (w : World) (hT : UT w) :
    Calls Tryz.prog 16 #[.agg #[.bool cs, .bool mk, .bool st, .bool sp, .bool wd], .string ⟨l.toArray⟩] w fun e w' => e = .returned (.string ⟨d.toArray⟩) ∧ Below w.heap.size w w' := of_is cs mk st sp wd l d h w hT
theorem mapp_is (l d : List UInt8) (h : Hid (mapL plainN l = d ∧ l.length ≤ 10000000)) (w : World) (hT : UT w) :
    Calls Tryz.prog 29 #[.string (strOf l), .func (.func 51) #[] #[]] w fun e w' => e = .returned (.string (strOf d)) ∧ Below w.heap.size w w' := by
  obtain ⟨h1, h2⟩ := h.out; subst h1; exact map_plain l w hT (by omega)
theorem mapl_is (l d : List UInt8) (h : Hid (mapL lowN l = d ∧ l.length ≤ 40000000)) (w : World) (hT : UT w) :
    Calls Tryz.prog 29 #[.string (strOf l), .func (.func 30) #[] #[]] w fun e w' => e = .returned (.string (strOf d)) ∧ Below w.heap.size w w' := by
  obtain ⟨h1, h2⟩ := h.out; subst h1; exact map_low l w hT (by omega)
theorem stem_i (l d : List UInt8) (h : Hid (St.stemL l = d ∧ l.length ≤ 1000000000)) (w : World) :
    Calls Tryz.prog 34 #[.string (strOf l)] w fun e w' => e = .returned (.string (strOf d)) ∧ Below w.heap.size w w' := by
  obtain ⟨h1, h2⟩ := h.out; subst h1; exact stem_a l h2 w
theorem opt_cell (w W : World) (vs : Array Value) (t : TypeId) (k : Nat) (v : Value) (h : vs.toList[k]? = some v) (hb : Below (w.alloc (.cells vs t)).heap.size (w.alloc (.cells vs t)) W) : W.cell? ⟨w.heap.size, k, none⟩ = some v := by
  rw [hb.cell (p := ⟨w.heap.size, k, none⟩) (by simp)]
  have z := new_cells w vs t (0, 0) k v h
  rwa [add_addr, Nat.zero_add] at z
end Go.Proofs.YtjeccmmhmdgdgaaGreatDoor
