/- UtfMaps: it answers true; nothing that was there is written. -/
import Derived.Test.YthnghgnoonfgiabDoorMapWalk
import Derived.WalkKit
import Derived.WalkSpells
import Derived.Outline
import Derived.Lib.Hide
namespace Go.Proofs.YthnghgnoonfgiabDoor
open Go.RowKit
set_option maxRecDepth 100000

def goneN (_ : Nat) : Int := -1
def sameN (r : Nat) : Int := (r : Int)
theorem same_fn (r : Nat) (W : World) : Calls Tryd.prog 13 #[.int .i32 r] W fun e w' => e = .returned (.int .i32 (sameN r)) ∧ W = w' := by
  go_enter Tryd.func13, Tryd.ntmps13
  go_wp2
  go_ret
  exact ⟨rfl, rfl⟩
theorem gone_fn (r : Nat) (W : World) : Calls Tryd.prog 15 #[.int .i32 r] W fun e w' => e = .returned (.int .i32 (goneN r)) ∧ W = w' := by
  go_enter Tryd.func15, Tryd.ntmps15
  go_wp2
  go_ret
  exact ⟨rfl, rfl⟩
theorem map_same (l : List UInt8) (w : World) (hT : UT w) (hl : l.length ≤ 100000000) :
    Calls Tryd.prog 12 #[.string (strOf l), .func (.func 13) #[] #[]] w fun e w' => e = .returned (.string (strOf (mapL sameN l))) ∧ Below w.heap.size w w' :=
  map_any _ sameN (fun r W _ => same_fn r W) (fun x W => enter_of Tryd.func13 (by kernel_rfl) (by kernel_rfl) _ W) l w hT hl
theorem map_gone (l : List UInt8) (w : World) (hT : UT w) (hl : l.length ≤ 100000000) :
    Calls Tryd.prog 12 #[.string (strOf l), .func (.func 15) #[] #[]] w fun e w' => e = .returned (.string (strOf (mapL goneN l))) ∧ Below w.heap.size w w' :=
  map_any _ goneN (fun r W _ => gone_fn r W) (fun x W => enter_of Tryd.func15 (by kernel_rfl) (by kernel_rfl) _ W) l w hT hl
theorem gone_put (r : Nat) : putL (goneN r) = [] := rfl
theorem gone_right (l : List UInt8) : (mapL goneN l = [] ↔ Lib.validD l = true) := by
  refine text_ind (P := fun l => (mapL goneN l = [] ↔ Lib.validD l = true)) ⟨fun _ => rfl, fun _ => rfl⟩ ?_ ?_ _ l (Nat.le_refl _)
  · intro r more hs ih
    rw [mapL_enc _ r hs, valid_enc_app r hs, gone_put, List.nil_append]
    exact ih
  · intro c t hb _
    have h := (nextN_zero (c :: t) (nextN (c :: t)).1 (nextN (c :: t)).2 rfl hb).2
    have hv : Lib.validD (c :: t) = false := valid_bad _ (by simp) (h.resolve_left (by simp))
    rw [mapL_bad _ _ (by simp) hb, hv]
    simp
theorem cat8 (l m : List UInt8) : strOf l ++ strOf m = strOf (l ++ m) := by
  apply ByteArray.ext
  simp [strOf]
theorem one_cut (l : List UInt8) (i : Nat) : (strOf l).extract i (i + 1) = strOf ((l.drop i).take 1) := by
  apply ByteArray.ext
  apply Array.toList_inj.1
  rw [Lib.extract_data, show i + 1 - i = 1 by omega]
  rfl

set_option maxHeartbeats 8000000 in
theorem maps_any (l : List UInt8) (w : World) (hT : UT w) :
    Calls Tryd.prog 5 #[.string (strOf l)] w fun e w' => e = .returned (.bool true) ∧ Below w.heap.size w w' := by
  have HZ := Lib.hid (size8 l)
  by_cases hl : l.length ≤ 200
  · have hs : ((strOf l).size : Int) ≤ 200 := by have := HZ.out; omega
    have H := Lib.hid hT
    have n1 := mapL_len lowN l
    have n2 := mapL_len goneN l
    obtain ⟨x, hx⟩ : ∃ x, x = mapL lowN l := ⟨_, rfl⟩
    obtain ⟨y, hy⟩ : ∃ y, y = mapL goneN l := ⟨_, rfl⟩
    have hx2 : mapL lowN x = x := by rw [hx, low_low]
    have HI : Hid (mapL sameN l = l) := mapL_id l
    rw [← hx] at n1
    rw [← hy] at n2
    have HX := Lib.hid hx
    have HX2 := Lib.hid hx2
    have HY := Lib.hid hy
    clear hx hx2 hy hT
    go_enter Tryd.func5, Tryd.ntmps5
    go_wp2_with fail
    refine (head_any w).mono ?_
    rintro e w1 ⟨rfl, rfl⟩
    go_wp2_with fail
    refine (map_same l w H.out (by omega)).mono ?_
    rw [HI.out]
    rintro e w2 ⟨rfl, c2⟩
    go_wp2_with fail
    refine (map_low l w2 (ut_keep H.out c2) (by omega)).mono ?_
    rw [← HX.out]
    rintro e w3 ⟨rfl, b3⟩
    have c3 : Below w.heap.size w w3 := c2.trans (b3.mono c2.size)
    clear b3
    go_wp2_with fail
    refine (map_low x w3 (ut_keep H.out c3) (by omega)).mono ?_
    rw [HX2.out]
    rintro e w4 ⟨rfl, b4⟩
    have c4 : Below w.heap.size w w4 := c3.trans (b4.mono c3.size)
    clear b4
    go_wp2_with fail
    refine (map_gone l w4 (ut_keep H.out c4) (by omega)).mono ?_
    rw [← HY.out]
    rintro e w5 ⟨rfl, b5⟩
    have c5 : Below w.heap.size w w5 := c4.trans (b5.mono c4.size)
    clear b5 c2 c3 c4
    go_wp2_with fail
    go_loopw [7, 8, 9] (fun p q i wr => ∃ (a b : List UInt8) (k : Nat), k ≤ l.length ∧ p = .string (strOf a) ∧ q = .string (strOf b) ∧ i = .int .i64 k ∧ a ++ mapL lowN (l.drop k) = x ∧ b ++ mapL goneN (l.drop k) = y ∧ a.length ≤ 4 * k ∧ b.length ≤ k ∧ Below w.heap.size w wr) (fun _ _ i _ => l.length - (intOf i).toNat)
    case atStart => exact ⟨[], [], 0, by omega, rfl, rfl, rfl, by rw [List.drop_zero, List.nil_append]; exact HX.out.symm, by rw [List.drop_zero, List.nil_append]; exact HY.out.symm, by simp, by simp, c5⟩
    case round =>
      obtain ⟨a, b, k, hk, rfl, rfl, rfl, ha, hb, hal, hbl, hbel⟩ := hrel
      have HA := Lib.hid ha
      have HB := Lib.hid hb
      have HSA := Lib.hid (size8 a)
      have HSB := Lib.hid (size8 b)
      clear ha hb
      by_cases hkl : k < l.length
      · have hks : (k : Int) < ((strOf l).size : Int) := by have := HZ.out; omega
        have hks2 : (k : Int) ≤ ((strOf l).size : Int) := by omega
        have hcut := cut8 l k
        have hne : l.drop k ≠ [] := by intro e; have := congrArg List.length e; simp at this; omega
        obtain ⟨t, ht⟩ : ∃ t, t = l.drop k := ⟨_, rfl⟩
        have htl : t.length = l.length - k := by rw [ht]; simp
        rw [← ht] at hne hcut HA HB
        have HT := Lib.hid ht
        clear ht
        have hN := next_any t wr (ut_keep H.out hbel)
        obtain ⟨r, j, hrj⟩ : ∃ r j, nextN t = (r, j) := ⟨_, _, rfl⟩
        rw [hrj] at hN
        have HN := Lib.hid hN
        clear hN
        by_cases hj : 0 < j
        · obtain ⟨hsg, hjl, _⟩ := nextN_some t r j hrj hj
          have hj0 : ((j : Int) == 0) = false := by simp; omega
          have hlow := low_sign r hsg
          obtain ⟨n, hn⟩ : ∃ n : Nat, lowN r = (n : Int) := ⟨(lowN r).toNat, by omega⟩
          have hns : isSign n := by have := hlow.2; rw [hn] at this; simpa using this
          have hrb : (r : Int) ≤ 2147483647 := by unfold isSign at hsg; omega
          have HL : Hid (∀ W, Calls Tryd.prog 14 #[.int .i32 r] W fun e w' => e = .returned (.int .i32 (n : Int)) ∧ W = w') := fun W => by
            have := low_any (r : Int) (by omega) hrb W
            rw [show lowI (r : Int) = (n : Int) from hn] at this
            exact this
          have HBY := Lib.hid (fun W => bytes_any n hns W)
          have hel := encS_len n
          have HG1 : Hid ((a ++ encS n) ++ mapL lowN (l.drop (k + j)) = x) := by
            show _ = _
            rw [← HA.out, mapL_sign lowN t r j hrj hj, hn, putL_sign n hns, List.append_assoc, HT.out, List.drop_drop]
          have HG2 : Hid (b ++ mapL goneN (l.drop (k + j)) = y) := by
            show _ = _
            rw [← HB.out, mapL_sign goneN t r j hrj hj, gone_put, List.nil_append, HT.out, List.drop_drop]
          have e1 := cat8 a (encS n)
          have l1 : ¬ 9223372036854775807 < (strOf a).size + (strOf (encS n)).size := by rw [size8, size8]; omega
          clear hrj hlow hn hns hsg
          go_wp2_with fail
          refine HN.out.mono ?_
          rintro e w6 ⟨rfl, b6⟩
          have c6 : Below w.heap.size w w6 := hbel.trans (b6.mono hbel.size)
          clear b6
          simp only
          go_wp2_with fail
          refine (HL.out _).mono ?_
          rintro e w7 ⟨rfl, rfl⟩
          go_wp2_with fail
          refine (HBY.out _).mono ?_
          rintro e w8 ⟨rfl, b8⟩
          have c8 : Below w.heap.size w w8 := c6.trans (b8.mono c6.size)
          clear b8
          go_wp2_with fail
          refine ⟨⟨a ++ encS n, b, k + j, by omega, rfl, rfl, by go_num, HG1.out, HG2.out, by simp; omega, by omega, c8⟩, ?_⟩
          simp [intOf]
          omega
        · obtain rfl : j = 0 := by omega
          obtain rfl : r = 0 := (nextN_zero t r 0 hrj rfl).1
          obtain ⟨u, hu⟩ : ∃ u, u = t.take 1 := ⟨_, rfl⟩
          have hul : u.length = 1 := by rw [hu, List.length_take]; omega
          have HG1 : Hid ((a ++ u) ++ mapL lowN (l.drop (k + 1)) = x) := by
            show _ = _
            rw [← HA.out, mapL_bad lowN t hne (by rw [hrj]), List.append_assoc, hu, HT.out, List.drop_drop]
          have HG2 : Hid ((b ++ u) ++ mapL goneN (l.drop (k + 1)) = y) := by
            show _ = _
            rw [← HB.out, mapL_bad goneN t hne (by rw [hrj]), List.append_assoc, hu, HT.out, List.drop_drop]
          have hone : (strOf l).extract k (k + 1) = strOf u := by rw [one_cut l k, hu, HT.out]
          have e1 := cat8 a u
          have e2 := cat8 b u
          have l1 : ¬ 9223372036854775807 < (strOf a).size + (strOf u).size := by rw [size8, size8]; omega
          have l2 : ¬ 9223372036854775807 < (strOf b).size + (strOf u).size := by rw [size8, size8]; omega
          have hks3 : (k : Int) + 1 ≤ ((strOf l).size : Int) := by omega
          clear hrj hu
          go_wp2_with fail
          refine HN.out.mono ?_
          rintro e w6 ⟨rfl, b6⟩
          have c6 : Below w.heap.size w w6 := hbel.trans (b6.mono hbel.size)
          clear b6
          simp only
          go_wp2_with fail
          refine ⟨⟨a ++ u, b ++ u, k + 1, by omega, rfl, rfl, by go_num, HG1.out, HG2.out, by simp; omega, by simp; omega, c6⟩, ?_⟩
          simp [intOf]
          omega
      · have hkl2 : k = l.length := by omega
        subst hkl2
        have hfin : a = x := by have := HA.out; rwa [List.drop_length, mapL_nil, List.append_nil] at this
        have hfin2 : b = y := by have := HB.out; rwa [List.drop_length, mapL_nil, List.append_nil] at this
        subst hfin; subst hfin2
        have hks : ¬ ((l.length : Nat) : Int) < ((strOf l).size : Int) := by have := HZ.out; omega
        have hR := right_any l wr (ut_keep H.out hbel) (by omega)
        have hg := gone_right l
        rw [← HY.out] at hg
        by_cases hv : Lib.validD l = true
        · rw [hv] at hR
          have HR := Lib.hid hR
          have hbn : b = [] := hg.2 hv
          have hb0 : ((strOf b).size : Int) = 0 := by rw [size8, hbn]; rfl
          clear hR hg hbn hv
          go_wp2_with fail
          refine HR.out.mono ?_
          rintro e w6 ⟨rfl, b6⟩
          go_wp2_with fail
          go_ret
          exact ⟨rfl, hbel.trans (b6.mono hbel.size)⟩
        · have hv' : Lib.validD l = false := by simpa using hv
          rw [hv'] at hR
          have HR := Lib.hid hR
          have hbn : b ≠ [] := fun e => hv (hg.1 e)
          have hb0 : (((strOf b).size : Int) == 0) = false := by
            have := List.length_pos_iff.2 hbn
            rw [size8]
            simp
            exact hbn
          clear hR hg hbn hv hv'
          go_wp2_with fail
          refine HR.out.mono ?_
          rintro e w6 ⟨rfl, b6⟩
          go_wp2_with fail
          go_ret
          exact ⟨rfl, hbel.trans (b6.mono hbel.size)⟩
  · have hs : (200 : Int) < ((strOf l).size : Int) := by have := HZ.out; omega
    go_enter Tryd.func5, Tryd.ntmps5
    go_wp2_with fail
    refine (head_any w).mono ?_
    rintro e w1 ⟨rfl, rfl⟩
    go_wp2_with fail
    go_ret
    exact ⟨rfl, Below.refl _ _⟩
end Go.Proofs.YthnghgnoonfgiabDoor
