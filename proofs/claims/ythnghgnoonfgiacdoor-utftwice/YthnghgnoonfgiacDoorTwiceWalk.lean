/- UtfTwice: it answers true; nothing that was there is written. -/
import Derived.Test.YthnghgnoonfgiacDoorMapWalkC
import Derived.WalkKit
import Derived.WalkSpells
import Derived.Outline
import Derived.Lib.Hide
namespace Go.Proofs.YthnghgnoonfgiacDoor
open Go.RowKit
set_option maxRecDepth 100000

set_option maxHeartbeats 4000000 in
theorem twice_any (l : List UInt8) (w : World) (hT : UT w) :
    Calls Tryd.prog 4 #[.string (strOf l)] w fun e w' => e = .returned (.bool true) ∧ Below w.heap.size w w' := by
  have HZ := Lib.hid (size8 l)
  by_cases hl : l.length ≤ 200
  · have hs : ((strOf l).size : Int) ≤ 200 := by have := HZ.out; omega
    have H := Lib.hid hT
    have n1 := mapL_len lowN l
    have n2 := mapL_len plainN (mapL lowN l)
    have n3 := mapL_len plainN l
    obtain ⟨x, hx⟩ : ∃ x, x = mapL plainN (mapL lowN l) := ⟨_, rfl⟩
    have hx2 : mapL lowN (mapL plainN l) = x := by rw [hx, low_plain_same]
    have hx3 : mapL lowN x = x := by rw [hx, twice_low]
    have hx4 : mapL plainN x = x := by rw [hx, twice_plain]
    rw [← hx] at n2
    have HX := Lib.hid hx
    have HX2 := Lib.hid hx2
    have HX3 := Lib.hid hx3
    have HX4 := Lib.hid hx4
    clear hx hx2 hx3 hx4
    go_enter Tryd.func4, Tryd.ntmps4
    go_wp2_with fail
    refine (head_any w).mono ?_
    rintro e w1 ⟨rfl, rfl⟩
    go_wp2_with fail
    refine (map_low l w H.out (by omega)).mono ?_
    rintro e w2 ⟨rfl, b2⟩
    go_wp2_with fail
    refine (map_plain (mapL lowN l) w2 (ut_keep H.out b2) (by omega)).mono ?_
    rw [← HX.out]
    rintro e w3 ⟨rfl, b3⟩
    have c3 : Below w.heap.size w w3 := b2.trans (b3.mono b2.size)
    clear b2 b3
    go_wp2_with fail
    refine (map_plain l w3 (ut_keep H.out c3) (by omega)).mono ?_
    rintro e w4 ⟨rfl, b4⟩
    have c4 : Below w.heap.size w w4 := c3.trans (b4.mono c3.size)
    clear b4
    go_wp2_with fail
    refine (map_low (mapL plainN l) w4 (ut_keep H.out c4) (by omega)).mono ?_
    rw [HX2.out]
    rintro e w5 ⟨rfl, b5⟩
    have c5 : Below w.heap.size w w5 := c4.trans (b5.mono c4.size)
    clear b5
    go_wp2_with fail
    refine (map_low x w5 (ut_keep H.out c5) (by omega)).mono ?_
    rw [HX3.out]
    rintro e w6 ⟨rfl, b6⟩
    have c6 : Below w.heap.size w w6 := c5.trans (b6.mono c5.size)
    clear b6
    go_wp2_with fail
    refine (map_plain x w6 (ut_keep H.out c6) (by omega)).mono ?_
    rw [HX4.out]
    rintro e w7 ⟨rfl, b7⟩
    have c7 : Below w.heap.size w w7 := c6.trans (b7.mono c6.size)
    clear b7
    go_wp2_with fail
    go_ret
    exact ⟨rfl, c7⟩
  · have hs : (200 : Int) < ((strOf l).size : Int) := by have := HZ.out; omega
    go_enter Tryd.func4, Tryd.ntmps4
    go_wp2_with fail
    refine (head_any w).mono ?_
    rintro e w1 ⟨rfl, rfl⟩
    go_wp2_with fail
    go_ret
    exact ⟨rfl, Below.refl _ _⟩
end Go.Proofs.YthnghgnoonfgiacDoor
