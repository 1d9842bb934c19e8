/- Stem of package stem, whole. -/
import Derived.Test.YtjeccmmhmdgdgaaGreatDoorAs6
namespace Go.Proofs.YtjeccmmhmdgdgaaGreatDoor.St
open Go.RowKit
set_option maxRecDepth 100000

theorem small_is (l : List UInt8) (b : Bool) (h : Hid (smallL l = b)) (hl : l.length ≤ 1000000000) (w : World) :
    Calls Tryz.prog 52 #[.string (strOf l)] w fun e w' => e = .returned (.bool b) ∧ w = w' := by
  have h' := h.out; subst h'; exact smallc_any l hl w

set_option maxHeartbeats 4000000 in
theorem stem_any (l : List UInt8) (hl : l.length ≤ 1000000000) (w : World) :
    Calls Tryz.prog 34 #[.string (strOf l)] w fun e w' => e = .returned (.string (strOf (stemL l))) ∧ Below w.heap.size w w' := by
  have HH : Hid (stemL l = if decide (l.length < 3) || !smallL l then l else stems l) := rfl
  by_cases h3 : (strOf l).size < 3
  · have HE : Hid (stemL l = l) := by
      have h : l.length < 3 := by rw [← size8]; exact h3
      show _ = _
      rw [HH.out]; simp [h]
    clear HH
    go_enter Tryz.func34, Tryz.ntmps34
    go_wp2_with fail
    go_ret
    exact ⟨by rw [HE.out]; rfl, Below.refl _ _⟩
  · have h3' : 3 ≤ (strOf l).size := by omega
    have hz1 : (strOf l).size ≤ 1000000000 := by rw [size8]; exact hl
    have hln : 3 ≤ l.length := by rw [← size8]; exact h3'
    cases hs : smallL l
    · have HS := Lib.hid hs
      have HE : Hid (stemL l = l) := by show _ = _; rw [HH.out, hs]; simp
      clear HH hs
      go_enter Tryz.func34, Tryz.ntmps34
      go_wp2_with fail
      with_reducible refine (small_is _ _ HS hl _).mono ?_
      rintro e w' ⟨rfl, rfl⟩
      go_wp2_with fail
      go_ret
      exact ⟨by rw [HE.out]; rfl, Below.refl _ _⟩
    · have HS := Lib.hid hs
      have HE : Hid (stemL l = stems l) := by show _ = _; rw [HH.out, hs]; simp; omega
      have f1 := fine_1a (Fine.refl hln hs) hln
      have f2 := fine_1b f1
      have f3 := fine_1c f2
      have f4 := fine_2 f3
      have f5 := fine_3 f4
      have f6 := fine_4 f5
      have HP1 := Lib.hid (plural_any l hl)
      have HP2 := Lib.hid (past_any (st1a l) (Nat.le_trans f1.1 hl) f1.2.2.2)
      have HP3 := Lib.hid (withI_any (st1b (st1a l)) (Nat.le_trans f2.1 hl) f2.2.2.2)
      have HP4 := Lib.hid (plainer_any (st1c (st1b (st1a l))) (Nat.le_trans f3.1 hl))
      have HP5 := Lib.hid (shorter_any (chg (st1c (st1b (st1a l))) 0 list2) (Nat.le_trans f4.1 hl))
      have HP6 := Lib.hid (end_any (chg (chg (st1c (st1b (st1a l))) 0 list2) 0 list3) (Nat.le_trans f5.1 hl))
      have HP7 := Lib.hid (last_any (st4 (chg (chg (st1c (st1b (st1a l))) 0 list2) 0 list3)) (Nat.le_trans f6.1 hl))
      have HE2 : Hid (stemL l = st5b (st5a (st4 (chg (chg (st1c (st1b (st1a l))) 0 list2) 0 list3)))) := HE.out
      clear HH hs f1 f2 f3 f4 f5 f6 HE
      generalize st1a l = q1 at *
      generalize st1b q1 = q2 at *
      generalize st1c q2 = q3 at *
      generalize chg q3 0 list2 = q4 at *
      generalize chg q4 0 list3 = q5 at *
      generalize st4 q5 = q6 at *
      generalize st5b (st5a q6) = q7 at *
      go_enter Tryz.func34, Tryz.ntmps34
      go_wp2_with fail
      with_reducible refine (small_is _ _ HS hl _).mono ?_
      rintro e w' ⟨rfl, rfl⟩
      go_wp2_with fail
      refine (HP1.out _).mono ?_
      rintro e w' ⟨rfl, rfl⟩
      go_wp2_with fail
      refine (HP2.out _).mono ?_
      rintro e w2 ⟨rfl, b2⟩
      go_wp2_with fail
      refine (HP3.out _).mono ?_
      rintro e w3 ⟨rfl, b3⟩
      go_wp2_with fail
      refine (HP4.out _).mono ?_
      rintro e w4 ⟨rfl, b4⟩
      go_wp2_with fail
      refine (HP5.out _).mono ?_
      rintro e w5 ⟨rfl, b5⟩
      go_wp2_with fail
      refine (HP6.out _).mono ?_
      rintro e w6 ⟨rfl, b6⟩
      go_wp2_with fail
      refine (HP7.out _).mono ?_
      rintro e w' ⟨rfl, rfl⟩
      go_wp2_with fail
      go_ret
      have c3 := b2.trans (b3.mono b2.size)
      have c4 := c3.trans (b4.mono c3.size)
      have c5 := c4.trans (b5.mono c4.size)
      have c6 := c5.trans (b6.mono c5.size)
      exact ⟨by rw [HE2.out]; rfl, c6⟩

theorem stem_is (l q : List UInt8) (h : Hid (stemL l = q)) (hl : l.length ≤ 1000000000) (w : World) :
    Calls Tryz.prog 34 #[.string ⟨l.toArray⟩] w fun e w' => e = .returned (.string ⟨q.toArray⟩) ∧ Below w.heap.size w w' := by
  have h' := h.out; subst h'; exact stem_any l hl w
end Go.Proofs.YtjeccmmhmdgdgaaGreatDoor.St
