/- small, mended, withoutPast, withI, changed of package stem. -/
import Derived.Test.YtjeccmmhmdgdgaaGreatDoorAs3
namespace Go.Proofs.YtjeccmmhmdgdgaaGreatDoor.St
open Go.RowKit
set_option maxRecDepth 100000

theorem small_snoc (l : List UInt8) (c : UInt8) : smallL (l ++ [c]) = (smallL l && (decide (97 ≤ c.toNat) && decide (c.toNat ≤ 122))) := by unfold smallL; rw [List.all_append]; simp
theorem small_of_take (l : List UInt8) (k : Nat) (h : smallL (l.take k) = false) : smallL l = false := by
  cases hs : smallL l with
  | false => rfl
  | true => rw [small_take l k hs] at h; cases h

set_option maxHeartbeats 2000000 in
theorem smallc_any (l : List UInt8) (hl : l.length ≤ 1000000000) (w : World) :
    Calls Tryz.prog 52 #[.string (strOf l)] w fun e w' => e = .returned (.bool (smallL l)) ∧ w = w' := by
  have HZ := Lib.hid (size8 l)
  have hs : (strOf l).size ≤ 1000000000 := by rw [size8]; exact hl
  go_enter Tryz.func52, Tryz.ntmps52
  go_wp2_with fail
  go_loop [6] (fun i => ∃ k : Nat, k ≤ (strOf l).size ∧ i = .int .i64 k ∧ Hid (smallL (l.take k) = true)) (fun i => (strOf l).size - (intOf i).toNat)
  case atStart => exact ⟨0, Nat.zero_le _, rfl, rfl⟩
  case round =>
    obtain ⟨k, hk, rfl, HS⟩ := hrel
    by_cases hlt : k < (strOf l).size
    · have HT := Lib.hid (take_snoc' l k hlt)
      have HN : Hid (smallL (l.take (k + 1)) = (decide (97 ≤ (strOf l)[k].toNat) && decide ((strOf l)[k].toNat ≤ 122))) := by
        show _ = _
        rw [HT.out, small_snoc, HS.out, Bool.true_and]
      obtain ⟨x, hx⟩ : ∃ x, (strOf l)[k] = x := ⟨_, rfl⟩
      rw [hx] at HN
      clear HT
      by_cases h1 : (x.toNat : Int) < 97
      · have HE : Hid (smallL l = false) := small_of_take l (k + 1) (by rw [HN.out]; simp; omega)
        go_wp2_with fail
        go_ret
        exact ⟨by rw [HE.out]; rfl, rfl⟩
      · by_cases h2 : (122 : Int) < (x.toNat : Int)
        · have HE : Hid (smallL l = false) := small_of_take l (k + 1) (by rw [HN.out]; simp; omega)
          go_wp2_with fail
          go_ret
          exact ⟨by rw [HE.out]; rfl, rfl⟩
        · have HE : Hid (smallL (l.take (k + 1)) = true) := by show _ = _; rw [HN.out]; simp; omega
          go_wp2_with fail
          go_round
          case rel => exact ⟨k + 1, by omega, by go_num, HE⟩
          case measure => simp [intOf]; omega
    · have HE : Hid (smallL l = true) := by
        have he : l.take k = l := List.take_of_length_le (by rw [size8] at hlt; omega)
        have := HS.out
        rwa [he] at this
      go_wp2_with fail
      go_ret
      exact ⟨by rw [HE.out]; rfl, rfl⟩

theorem dbl_is (l : List UInt8) (b : Bool) (h : Hid (dblL l = b)) (hl : l.length ≤ 1000000000) (w : World) :
    Calls Tryz.prog 95 #[.string (strOf l)] w fun e w' => e = .returned (.bool b) ∧ Below w.heap.size w w' := by
  have h' := h.out; subst h'; exact doubled_any l hl w
theorem short_is (l : List UInt8) (b : Bool) (h : Hid (shortL l = b)) (hl : l.length ≤ 1000000000) (w : World) :
    Calls Tryz.prog 75 #[.string (strOf l)] w fun e w' => e = .returned (.bool b) ∧ w = w' := by
  have h' := h.out; subst h'; exact short_any l hl w
theorem hasV_is (l : List UInt8) (b : Bool) (h : Hid (hasV l = b)) (hl : l.length ≤ 1000000000) (hs : smallL l = true) (w : World) :
    Calls Tryz.prog 72 #[.string (strOf l)] w fun e w' => e = .returned (.bool b) ∧ Below w.heap.size w w' := by
  have h' := h.out; subst h'; exact hasV_any l hl hs w

set_option maxHeartbeats 4000000 in
theorem mended_any (l : List UInt8) (hl : l.length ≤ 1000000000) (w : World) :
    Calls Tryz.prog 73 #[.string (strOf l)] w fun e w' => e = .returned (.string (strOf (mendL l))) ∧ Below w.heap.size w w' := by
  have HH : Hid (mendL l = if suf l [97, 116] || suf l [98, 108] || suf l [105, 122] then l ++ [101] else if dblL l then cutL l 1 else if measL l == 1 && shortL l then l ++ [101] else l) := rfl
  have hz1 : (strOf l).size ≤ 1000000000 := by rw [size8]; exact hl
  obtain ⟨b1, h1⟩ : ∃ b, suf l [97, 116] = b := ⟨_, rfl⟩
  obtain ⟨b2, h2⟩ : ∃ b, suf l [98, 108] = b := ⟨_, rfl⟩
  obtain ⟨b3, h3⟩ : ∃ b, suf l [105, 122] = b := ⟨_, rfl⟩
  obtain ⟨b4, h4⟩ : ∃ b, dblL l = b := ⟨_, rfl⟩
  obtain ⟨b5, h5⟩ : ∃ b, shortL l = b := ⟨_, rfl⟩
  obtain ⟨m, h6⟩ : ∃ m, measL l = m := ⟨_, rfl⟩
  obtain ⟨b6, h7⟩ : ∃ b, (m == 1) = b := ⟨_, rfl⟩
  have h8 : ((m : Int) == 1) = b6 := by rw [← h7, Bool.eq_iff_iff, beq_iff_eq, beq_iff_eq]; omega
  rw [h1, h2, h3, h4, h5, h6, h7] at HH
  have z2 : b4 = true → 2 ≤ (strOf l).size := by
    rw [size8]
    rintro rfl
    unfold dblL at h4
    simp only [Bool.and_eq_true, decide_eq_true_eq] at h4
    omega
  have H1 := Lib.hid h1
  have H2 := Lib.hid h2
  have H3 := Lib.hid h3
  have H4 := Lib.hid h4
  have H5 := Lib.hid h5
  have H6 := Lib.hid h6
  have e1 := cut_ext l 1
  have E1 := Lib.hid (add8 l [101])
  have hmb : m ≤ 1000000000 := by rw [← h6]; exact Nat.le_trans (measL_le l) hl
  clear h1 h2 h3 h4 h5 h6 h7
  cases b1
  case' false => cases b2
  case' false.false => cases b3
  case' false.false.false => cases b4
  case' false.false.false.false => cases b6
  case' false.false.false.false.true => cases b5
  all_goals (first | have z := z2 rfl | skip)
  all_goals clear z2
  all_goals
    go_enter Tryz.func73, Tryz.ntmps73
    go_wp2_with (first
      | (go_at_call 69; (first | (with_reducible refine (suf_is _ _ _ H1 hl _).mono ?_) | (with_reducible refine (suf_is _ _ _ H2 hl _).mono ?_) | (with_reducible refine (suf_is _ _ _ H3 hl _).mono ?_)); rintro e w' ⟨rfl, rfl⟩)
      | (go_at_call 95; (with_reducible refine (dbl_is _ _ H4 hl _).mono ?_); rintro e w1 ⟨rfl, hb1⟩)
      | (go_at_call 71; (with_reducible refine (meas_is _ _ H6 hl _).mono ?_); rintro e w' ⟨rfl, rfl⟩)
      | (go_at_call 75; (with_reducible refine (short_is _ _ H5 hl _).mono ?_); rintro e w' ⟨rfl, rfl⟩))
    go_ret
    refine ⟨?_, by first | exact Below.refl _ _ | assumption⟩
    rw [HH.out]
    first | exact congrArg (fun x => Ending.returned (.string x)) E1.out | rfl

theorem small_cut {l : List UInt8} (h : smallL l = true) (n : Nat) : smallL (cutL l n) = true := small_take l _ h
set_option maxHeartbeats 4000000 in
theorem past_any (l : List UInt8) (hl : l.length ≤ 1000000000) (hs : smallL l = true) (w : World) :
    Calls Tryz.prog 54 #[.string (strOf l)] w fun e w' => e = .returned (.string (strOf (st1b l))) ∧ Below w.heap.size w w' := by
  have HH : Hid (st1b l = if suf l [101, 101, 100] then (if 0 < measL (cutL l 3) then cutL l 3 ++ [101, 101] else l)
    else if suf l [101, 100] then (if hasV (cutL l 2) then mendL (cutL l 2) else l)
    else if suf l [105, 110, 103] then (if hasV (cutL l 3) then mendL (cutL l 3) else l) else l) := rfl
  have hz1 : (strOf l).size ≤ 1000000000 := by rw [size8]; exact hl
  have l2 : (cutL l 2).length ≤ 1000000000 := by rw [cut_len]; omega
  have l3 : (cutL l 3).length ≤ 1000000000 := by rw [cut_len]; omega
  have S2 := Lib.hid (small_cut hs 2)
  have S3 := Lib.hid (small_cut hs 3)
  have HM2 := Lib.hid (mended_any (cutL l 2) l2)
  have HM3 := Lib.hid (mended_any (cutL l 3) l3)
  obtain ⟨b1, h1⟩ : ∃ b, suf l [101, 101, 100] = b := ⟨_, rfl⟩
  obtain ⟨b2, h2⟩ : ∃ b, suf l [101, 100] = b := ⟨_, rfl⟩
  obtain ⟨b3, h3⟩ : ∃ b, suf l [105, 110, 103] = b := ⟨_, rfl⟩
  obtain ⟨m, h4⟩ : ∃ m, measL (cutL l 3) = m := ⟨_, rfl⟩
  obtain ⟨b5, h5⟩ : ∃ b, hasV (cutL l 2) = b := ⟨_, rfl⟩
  obtain ⟨b6, h6⟩ : ∃ b, hasV (cutL l 3) = b := ⟨_, rfl⟩
  rw [h1, h2, h3, h4, h5, h6] at HH
  have H1 := Lib.hid h1
  have H2 := Lib.hid h2
  have H3 := Lib.hid h3
  have H4 := Lib.hid h4
  have H5 := Lib.hid h5
  have H6 := Lib.hid h6
  clear h1 h2 h3 h4 h5 h6 hs
  have E1 := Lib.hid (add8 (cutL l 3) [101, 101])
  have hz3 : (strOf (cutL l 3)).size ≤ 1000000000 := by rw [size8]; exact l3
  cases b1
  · cases b2
    · cases b3
      · have HE : Hid (st1b l = l) := HH.out
        clear HH
        go_enter Tryz.func54, Tryz.ntmps54
        go_wp2_with (go_at_call 70; (first | (with_reducible refine (cut_no _ _ H1 hl _).mono ?_) | (with_reducible refine (cut_no _ _ H2 hl _).mono ?_) | (with_reducible refine (cut_no _ _ H3 hl _).mono ?_)); rintro e w' ⟨rfl, rfl⟩)
        go_ret
        exact ⟨by rw [HE.out]; rfl, Below.refl _ _⟩
      · cases b6
        · have HE : Hid (st1b l = l) := HH.out
          clear HH
          go_enter Tryz.func54, Tryz.ntmps54
          go_wp2_with (go_at_call 70; (first | (with_reducible refine (cut_no _ _ H1 hl _).mono ?_) | (with_reducible refine (cut_no _ _ H2 hl _).mono ?_) | (with_reducible refine (cut_yes _ _ 3 rfl H3 hl _).mono ?_)); rintro e w' ⟨rfl, rfl⟩)
          with_reducible refine (hasV_is _ _ H6 l3 S3.out _).mono ?_
          rintro e w1 ⟨rfl, hb1⟩
          go_wp2_with fail
          go_ret
          exact ⟨by rw [HE.out]; rfl, hb1⟩
        · have HE : Hid (st1b l = mendL (cutL l 3)) := HH.out
          clear HH
          go_enter Tryz.func54, Tryz.ntmps54
          go_wp2_with (go_at_call 70; (first | (with_reducible refine (cut_no _ _ H1 hl _).mono ?_) | (with_reducible refine (cut_no _ _ H2 hl _).mono ?_) | (with_reducible refine (cut_yes _ _ 3 rfl H3 hl _).mono ?_)); rintro e w' ⟨rfl, rfl⟩)
          with_reducible refine (hasV_is _ _ H6 l3 S3.out _).mono ?_
          rintro e w1 ⟨rfl, hb1⟩
          go_wp2_with fail
          refine (HM3.out _).mono ?_
          rintro e w2 ⟨rfl, hb2⟩
          go_wp2_with fail
          go_ret
          exact ⟨by rw [HE.out]; rfl, hb1.trans (hb2.mono hb1.size)⟩
    · cases b5
      · have HE : Hid (st1b l = l) := HH.out
        clear HH
        go_enter Tryz.func54, Tryz.ntmps54
        go_wp2_with (go_at_call 70; (first | (with_reducible refine (cut_no _ _ H1 hl _).mono ?_) | (with_reducible refine (cut_yes _ _ 2 rfl H2 hl _).mono ?_)); rintro e w' ⟨rfl, rfl⟩)
        with_reducible refine (hasV_is _ _ H5 l2 S2.out _).mono ?_
        rintro e w1 ⟨rfl, hb1⟩
        go_wp2_with fail
        go_ret
        exact ⟨by rw [HE.out]; rfl, hb1⟩
      · have HE : Hid (st1b l = mendL (cutL l 2)) := HH.out
        clear HH
        go_enter Tryz.func54, Tryz.ntmps54
        go_wp2_with (go_at_call 70; (first | (with_reducible refine (cut_no _ _ H1 hl _).mono ?_) | (with_reducible refine (cut_yes _ _ 2 rfl H2 hl _).mono ?_)); rintro e w' ⟨rfl, rfl⟩)
        with_reducible refine (hasV_is _ _ H5 l2 S2.out _).mono ?_
        rintro e w1 ⟨rfl, hb1⟩
        go_wp2_with fail
        refine (HM2.out _).mono ?_
        rintro e w2 ⟨rfl, hb2⟩
        go_wp2_with fail
        go_ret
        exact ⟨by rw [HE.out]; rfl, hb1.trans (hb2.mono hb1.size)⟩
  · by_cases hm : 0 < m
    · have HE : Hid (st1b l = cutL l 3 ++ [101, 101]) := by show _ = _; rw [HH.out]; simp [hm]
      have hm' : (0 : Int) < (m : Int) := by omega
      clear HH
      go_enter Tryz.func54, Tryz.ntmps54
      go_wp2_with (first | (go_at_call 70; (with_reducible refine (cut_yes _ _ 3 rfl H1 hl _).mono ?_); rintro e w' ⟨rfl, rfl⟩) | (go_at_call 71; (with_reducible refine (meas_is _ _ H4 l3 _).mono ?_); rintro e w' ⟨rfl, rfl⟩))
      go_ret
      exact ⟨by rw [HE.out]; exact congrArg (fun x => Ending.returned (.string x)) E1.out, Below.refl _ _⟩
    · have HE : Hid (st1b l = l) := by show _ = _; rw [HH.out]; simp [hm]
      obtain rfl : m = 0 := by omega
      clear HH hm
      go_enter Tryz.func54, Tryz.ntmps54
      go_wp2_with (first | (go_at_call 70; (with_reducible refine (cut_yes _ _ 3 rfl H1 hl _).mono ?_); rintro e w' ⟨rfl, rfl⟩) | (go_at_call 71; (with_reducible refine (meas_is _ _ H4 l3 _).mono ?_); rintro e w' ⟨rfl, rfl⟩))
      go_ret
      exact ⟨by rw [HE.out]; rfl, Below.refl _ _⟩

set_option maxHeartbeats 2000000 in
theorem withI_any (l : List UInt8) (hl : l.length ≤ 1000000000) (hs : smallL l = true) (w : World) :
    Calls Tryz.prog 55 #[.string (strOf l)] w fun e w' => e = .returned (.string (strOf (st1c l))) ∧ Below w.heap.size w w' := by
  have HH : Hid (st1c l = if suf l [121] && hasV (cutL l 1) then cutL l 1 ++ [105] else l) := rfl
  have l1 : (cutL l 1).length ≤ 1000000000 := by rw [cut_len]; omega
  have S1 := Lib.hid (small_cut hs 1)
  obtain ⟨b1, h1⟩ : ∃ b, suf l [121] = b := ⟨_, rfl⟩
  obtain ⟨b2, h2⟩ : ∃ b, hasV (cutL l 1) = b := ⟨_, rfl⟩
  rw [h1, h2] at HH
  have H1 := Lib.hid h1
  have H2 := Lib.hid h2
  clear h1 h2 hs
  have E1 := Lib.hid (add8 (cutL l 1) [105])
  have hz3 : (strOf (cutL l 1)).size ≤ 1000000000 := by rw [size8]; exact l1
  cases b1
  · go_enter Tryz.func55, Tryz.ntmps55
    go_wp2_with fail
    with_reducible refine (cut_no _ _ H1 hl _).mono ?_
    rintro e w' ⟨rfl, rfl⟩
    go_wp2_with fail
    go_ret
    exact ⟨by rw [HH.out]; rfl, Below.refl _ _⟩
  · cases b2
    all_goals
      go_enter Tryz.func55, Tryz.ntmps55
      go_wp2_with fail
      with_reducible refine (cut_yes _ _ 1 rfl H1 hl _).mono ?_
      rintro e w' ⟨rfl, rfl⟩
      go_wp2_with fail
      with_reducible refine (hasV_is _ _ H2 l1 S1.out _).mono ?_
      rintro e w1 ⟨rfl, hb1⟩
      go_wp2_with fail
      go_ret
      exact ⟨by rw [HH.out]; first | exact congrArg (fun x => Ending.returned (.string x)) E1.out | rfl, hb1⟩
end Go.Proofs.YtjeccmmhmdgdgaaGreatDoor.St
