/- UtfPuts: it answers true; nothing that was there is written. -/
import Derived.Test.YthnghgnoonfgiabDoorNextsWalk
import Derived.Test.YthnghgnoonfgiabDoorMem2
import Derived.Test.YthnghgnoonfgiabDoorVd
import Derived.Deep.RegionHeld3
import Derived.WalkKit
import Derived.WalkSpells
import Derived.Outline
import Derived.Lib.Hide
namespace Go.Proofs.YthnghgnoonfgiabDoor
open Go.RowKit
set_option maxRecDepth 100000

theorem str_cat (l m : List UInt8) : strOf l ++ strOf m = strOf (l ++ m) := by
  apply ByteArray.ext
  simp [strOf]
theorem sign_bad (r : Int) (h : signB r = false) (w : World) :
    Calls Tryd.prog 8 #[.int .i32 r] w fun e w' => e = .returned (.bool false) ∧ w = w' := by
  have := sign_any r w
  rw [h] at this
  exact this
theorem sign_yes (r : Nat) (h : isSign r) (w : World) :
    Calls Tryd.prog 8 #[.int .i32 r] w fun e w' => e = .returned (.bool true) ∧ w = w' := by
  have := sign_any (r : Int) w
  rw [signB_nat, decide_eq_true h] at this
  exact this

set_option maxHeartbeats 2000000 in
theorem uputs_long (r : Int) (A : Option Addr) (m c : Nat) (t : ByteArray) (w : World) (h : 100 < m ∨ 100 < t.size) :
    Calls Tryd.prog 3 #[.int .i32 r, .slice A m c, .string t] w fun e w' => e = .returned (.bool true) ∧ Below w.heap.size w w' := by
  by_cases h1 : 100 < m
  · have hd1 : (100 : Int) < (m : Int) := by omega
    go_enter Tryd.func3, Tryd.ntmps3
    go_wp2_with fail
    refine (head_any w).mono ?_
    rintro e w1 ⟨rfl, rfl⟩
    go_wp2_with fail
    go_ret
    exact ⟨rfl, Below.refl _ _⟩
  · have hd1 : decide ((100 : Int) < (m : Int)) = false := decide_eq_false (by omega)
    have hd2 : (100 : Int) < (t.size : Int) := by omega
    go_enter Tryd.func3, Tryd.ntmps3
    go_wp2_with fail
    refine (head_any w).mono ?_
    rintro e w1 ⟨rfl, rfl⟩
    go_wp2_with fail
    go_ret
    exact ⟨rfl, Below.refl _ _⟩

set_option maxHeartbeats 2000000 in
theorem uputs_bad (r : Int) (hr : signB r = false) (A : Option Addr) (m c : Nat) (l : List UInt8) (t : ByteArray) (w : World) (HL : Hid (m = l.length)) (hb : BS w w.heap.size A l) (hm : m ≤ 100) (ht : t.size ≤ 100) :
    Calls Tryd.prog 3 #[.int .i32 r, .slice A m c, .string t] w fun e w' => e = .returned (.bool true) ∧ Below w.heap.size w w' := by
  have hd1 : decide ((100 : Int) < (m : Int)) = false := decide_eq_false (by omega)
  have hd2 : decide ((100 : Int) < (t.size : Int)) = false := decide_eq_false (by omega)
  have hbA : Below w.heap.size w (w.alloc (.cells #[] 5)) := (Below.refl _ _).alloc (Nat.le_refl _) _
  go_enter Tryd.func3, Tryd.ntmps3
  go_wp2_with fail
  refine (head_any w).mono ?_
  rintro e w1 ⟨rfl, rfl⟩
  go_wp2_with (
    (at_builtin
     refine wpList_append8 _ rfl (.tmp 20) (.tmp 21) rfl w.heap.size (.slice (some ⟨w.heap.size, 0, none⟩) 0 0) [] rfl (Own8.lit w (0, 0) rfl) A m c w.heap.size l rfl HL.out (hb.below hbA)
       (by have := HL.out; simp only [List.length_nil]; omega) (by simp) ?_
     intro v2 w2 hown2 hg2 hat2))
  have hszA : (w.alloc (.cells #[] 5)).heap.size = w.heap.size + 1 := by simp
  have hbel2 : Below w.heap.size w w2 := (Own8.lit w (0, 0) rfl).grow (Nat.le_refl _) hbA (by omega) hg2
  refine (uput_bad v2 r hr w2).mono ?_
  rintro e w3 ⟨rfl, rfl⟩
  obtain ⟨A3, c3, rfl, hc3, _, hbs3, _⟩ := hown2.form
  rw [List.nil_append] at hbs3 hc3 ⊢
  have hcv1 := hbs3.conv l.length c3 rfl
  have hcv2 := (hb.below hbel2).conv m c HL.out
  have HS := Lib.hid (fun W => sign_bad r hr W)
  clear hr hown2 hg2 hat2 hszA
  go_wp2_with (first | (go_at_call 8; (with_reducible refine (HS.out _).mono ?_); rintro e w' ⟨rfl, rfl⟩))
  go_ret
  exact ⟨rfl, hbel2⟩

set_option maxHeartbeats 4000000 in
theorem uputs_sign (r : Nat) (hr : isSign r) (A : Option Addr) (m c : Nat) (l l2 : List UInt8) (w : World) (hT : UT w) (HL : Hid (m = l.length)) (hb : BS w w.heap.size A l) (hm : m ≤ 100) (ht : l2.length ≤ 100) :
    Calls Tryd.prog 3 #[.int .i32 r, .slice A m c, .string (strOf l2)] w fun e w' => e = .returned (.bool true) ∧ Below w.heap.size w w' := by
  have hsz2 : (strOf l2).size = l2.length := by simp [strOf, ByteArray.size]
  have hd1 : decide ((100 : Int) < (m : Int)) = false := decide_eq_false (by omega)
  have hd2 : decide ((100 : Int) < ((strOf l2).size : Int)) = false := decide_eq_false (by omega)
  have hbA : Below w.heap.size w (w.alloc (.cells #[] 5)) := (Below.refl _ _).alloc (Nat.le_refl _) _
  have hel := encS_len r
  have hse : (strOf (encS r)).size = (encS r).length := by simp [strOf, ByteArray.size]
  have hcat2 := str_cat (encS r) l2
  have hlim : ¬ 9223372036854775807 < (strOf (encS r)).size + (strOf l2).size := by omega
  clear hsz2
  go_enter Tryd.func3, Tryd.ntmps3
  go_wp2_with fail
  refine (head_any w).mono ?_
  rintro e w1 ⟨rfl, rfl⟩
  go_wp2_with (
    (at_builtin
     refine wpList_append8 _ rfl (.tmp 20) (.tmp 21) rfl w.heap.size (.slice (some ⟨w.heap.size, 0, none⟩) 0 0) [] rfl (Own8.lit w (0, 0) rfl) A m c w.heap.size l rfl HL.out (hb.below hbA)
       (by have := HL.out; simp only [List.length_nil]; omega) (by simp) ?_
     intro v2 w2 hown2 hg2 hat2))
  have hszA : (w.alloc (.cells #[] 5)).heap.size = w.heap.size + 1 := by simp
  have hbel2 : Below w.heap.size w w2 := (Own8.lit w (0, 0) rfl).grow (Nat.le_refl _) hbA (by omega) hg2
  have hs2 : w.heap.size ≤ w2.heap.size := by have := hg2.size; omega
  rw [List.nil_append] at hown2
  refine (uput_any v2 l w.heap.size r hr w2 hown2 hs2 (by have := HL.out; omega)).mono ?_
  rintro e w3 ⟨v3, rfl, hown3, hg3⟩
  have hbel3 : Below w.heap.size w w3 := hown2.grow (Nat.le_refl _) hbel2 hs2 hg3
  obtain ⟨A3, c3, rfl, hc3, _, hbs3, _⟩ := hown3.form
  obtain ⟨m3, hm3⟩ : ∃ m3, m3 = (l ++ encS r).length := ⟨_, rfl⟩
  rw [← hm3] at hc3 ⊢
  have HM3 := Lib.hid hm3
  clear hm3
  have HB := Lib.hid (fun W => bytes_any r hr W)
  have HS := Lib.hid (fun W => sign_yes r hr W)
  have HN := Lib.hid (nextN_enc r hr l2)
  clear hown3 hown2 hg2 hg3 hat2 hszA
  go_wp2_with fail
  refine (HS.out _).mono ?_
  rintro e w4 ⟨rfl, rfl⟩
  go_wp2_with fail
  refine (HB.out _).mono ?_
  rintro e w4 ⟨rfl, hb4⟩
  go_wp2_with fail
  have hbel4 : Below w.heap.size w w4 := hbel3.trans (hb4.mono hbel3.size)
  refine (next_any (encS r ++ l2) w4 (hT.below' hbel4)).mono ?_
  rw [HN.out]
  rintro e w5 ⟨rfl, hb5⟩
  simp only
  have hbel5 : Below w.heap.size w w5 := hbel4.trans (hb5.mono hbel4.size)
  have h35 : Below w3.heap.size w3 w5 := hb4.trans (hb5.mono hb4.size)
  have HK : Hid (∀ W, Below w5.heap.size w5 W → Below w5.heap.size w5 W ∧ (convert 22 9 (.slice A3 m3 c3)).run Tryd.prog W = .ok (.string (strOf (l ++ encS r))) W ∧
      (convert 22 9 (.slice A m c)).run Tryd.prog W = .ok (.string (strOf l)) W) := fun W h =>
    ⟨h, (hbs3.below (h35.trans (h.mono h35.size))).conv _ _ HM3.out, (hb.below (hbel5.trans (h.mono hbel5.size))).conv _ _ HL.out⟩
  have HB2 : Hid (∀ W, Below w5.heap.size w5 W → Calls Tryd.prog 10 #[.int .i32 r] W fun e w' => e = .returned (.string (strOf (encS r))) ∧ Below w5.heap.size w5 w') := fun W h => (HB.out W).mono fun e w' ⟨h1, h2⟩ => ⟨h1, h.trans (h2.mono h.size)⟩
  have HR2 : Hid (∀ W, Below w5.heap.size w5 W → Calls Tryd.prog 11 #[.string (strOf (encS r))] W fun e w' => e = .returned (.bool true) ∧ Below w5.heap.size w5 w') := fun W h => by
    have hq := right_any (encS r) W (hT.below' (hbel5.trans (h.mono hbel5.size))) (by omega)
    rw [valid_enc r hr] at hq
    exact hq.mono fun e w' ⟨h1, h2⟩ => ⟨h1, h.trans (h2.mono h.size)⟩
  have hcat := str_cat l (encS r)
  have hlim2 : ¬ 9223372036854775807 < (strOf l).size + (strOf (encS r)).size := by
    have h1 : (strOf l).size = l.length := rfl
    have := HL.out
    omega
  rw [hse] at hlim2
  clear HB HN HS hT hb4 hb5 hr
  go_wp2_with fail
  go_region_held3 (fun W => Below w5.heap.size w5 W ∧ (convert 22 9 (.slice A3 m3 c3)).run Tryd.prog W = .ok (.string (strOf (l ++ encS r))) W ∧
      (convert 22 9 (.slice A m c)).run Tryd.prog W = .ok (.string (strOf l)) W)
    (first | exact HK.out _ (Below.refl _ _).drew | exact HK.out _ hb6)
    (first
      | (go_at_call 10; (with_reducible refine (HB2.out _ ?_).mono ?_); (first | exact (Below.refl _ _).drew | exact hb6); rintro e w6 ⟨rfl, hb6⟩)
      | (go_at_call 11; (with_reducible refine (HR2.out _ ?_).mono ?_); (first | exact (Below.refl _ _).drew | exact hb6); rintro e w6 ⟨rfl, hb6⟩))
  go_wp2_with fail
  go_ret
  exact ⟨rfl, hbel5.trans (hb6.mono hbel5.size)⟩

theorem uputs_any (r : Int) (h0 : -2147483648 ≤ r) (A : Option Addr) (m c : Nat) (l l2 : List UInt8) (w : World) (hT : UT w) (hm : m = l.length) (hb : BS w w.heap.size A l) :
    Calls Tryd.prog 3 #[.int .i32 r, .slice A m c, .string (strOf l2)] w fun e w' => e = .returned (.bool true) ∧ Below w.heap.size w w' := by
  have hsz2 : (strOf l2).size = l2.length := by simp [strOf, ByteArray.size]
  by_cases h : 100 < m ∨ 100 < (strOf l2).size
  · exact uputs_long r A m c _ w h
  · by_cases hs : signB r = true
    · have hr : 0 ≤ r := by unfold signB at hs; have := of_decide_eq_true hs; omega
      obtain ⟨n, rfl⟩ := Int.eq_ofNat_of_zero_le hr
      refine uputs_sign n ?_ A m c l l2 w hT (Lib.hid hm) hb (by omega) (by omega)
      have := signB_nat n
      rw [hs] at this
      exact of_decide_eq_true this.symm
    · exact uputs_bad r (by simpa using hs) A m c l _ w (Lib.hid hm) hb (by omega) (by omega)
end Go.Proofs.YthnghgnoonfgiabDoor
