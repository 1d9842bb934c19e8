/- withoutLast of package stem; Stem. -/
import Derived.Test.YtjeccmmhmdgdgaaGreatDoorAs5
namespace Go.Proofs.YtjeccmmhmdgdgaaGreatDoor.St
open Go.RowKit
set_option maxRecDepth 100000

set_option maxHeartbeats 8000000 in
theorem last_any (l : List UInt8) (hl : l.length ≤ 1000000000) (w : World) :
    Calls Tryz.prog 59 #[.string (strOf l)] w fun e w' => e = .returned (.string (strOf (st5b (st5a l)))) ∧ w = w' := by
  obtain ⟨q, hq⟩ : ∃ q, st5a l = q := ⟨_, rfl⟩
  have hq' : q = if suf l [101] && (decide (1 < measL (cutL l 1)) || (measL (cutL l 1) == 1 && !shortL (cutL l 1))) then cutL l 1 else l := hq.symm
  rw [hq]
  have HH : Hid (st5b q = if suf q [108, 108] && decide (1 < measL (cutL q 1)) then cutL q 1 else q) := rfl
  have l1 : (cutL l 1).length ≤ 1000000000 := by rw [cut_len]; omega
  have lq : q.length ≤ 1000000000 := by
    rw [hq']; split
    · exact l1
    · exact hl
  have lq1 : (cutL q 1).length ≤ 1000000000 := by rw [cut_len]; omega
  have hzq : (strOf q).size ≤ 1000000000 := by rw [size8]; exact lq
  have eq1 := cut_ext q 1
  obtain ⟨b1, h1⟩ : ∃ b, suf l [101] = b := ⟨_, rfl⟩
  obtain ⟨m, h2⟩ : ∃ m, measL (cutL l 1) = m := ⟨_, rfl⟩
  obtain ⟨b3, h3⟩ : ∃ b, shortL (cutL l 1) = b := ⟨_, rfl⟩
  obtain ⟨b4, h4⟩ : ∃ b, suf q [108, 108] = b := ⟨_, rfl⟩
  obtain ⟨m5, h5⟩ : ∃ m, measL (cutL q 1) = m := ⟨_, rfl⟩
  have zq : b4 = true → 1 ≤ (strOf q).size := by
    rw [size8]
    rintro rfl
    exact Nat.le_trans (by decide) (suf_len h4)
  rw [h1, h2, h3] at hq'
  rw [h4, h5] at HH
  have he1 : b4 = true → 1 < m5 → st5b q = cutL q 1 := by rintro rfl h; rw [HH.out]; simp [h]
  have he2 : b4 = false → st5b q = q := by rintro rfl; rw [HH.out]; simp
  have he3 : m5 ≤ 1 → st5b q = q := by intro h; rw [HH.out, if_neg]; simp; omega
  have H1 := Lib.hid h1
  have H2 := Lib.hid h2
  have H3 := Lib.hid h3
  have H4 := Lib.hid h4
  have H5 := Lib.hid h5
  clear h1 h2 h3 h4 h5 hq
  rcases (by omega : m5 ≤ 1 ∨ 1 < m5) with h6 | h6
  case' inl => have h7 : (m5 : Int) ≤ 1 := by omega
  case' inr => have h7 : (1 : Int) < (m5 : Int) := by omega
  all_goals rcases (by omega : m = 0 ∨ m = 1 ∨ 1 < m) with rfl | rfl | hm
  all_goals cases b1
  all_goals (try cases b3)
  all_goals (simp at hq')
  all_goals (try simp [hm] at hq')
  all_goals subst hq'
  all_goals (try (have hmm := H5.out.symm.trans H2.out))
  all_goals (try (exfalso; omega))
  all_goals (try clear hmm)
  all_goals cases b4
  all_goals (first | have z := zq rfl | skip)
  all_goals clear zq
  all_goals (first | have HE := Lib.hid (he1 rfl h6) | have HE := Lib.hid (he2 rfl) | have HE := Lib.hid (he3 h6))
  all_goals clear HH h6 he1 he2 he3
  all_goals
    go_enter Tryz.func59, Tryz.ntmps59
    go_wp2_with (first
      | (go_at_call 70; (first | (with_reducible refine (cut_yes _ _ 1 rfl H1 hl _).mono ?_) | (with_reducible refine (cut_no _ _ H1 hl _).mono ?_)); rintro e w' ⟨rfl, rfl⟩)
      | (go_at_call 71; (first | (with_reducible refine (meas_is _ _ H2 l1 _).mono ?_) | (with_reducible refine (meas_is _ _ H5 lq1 _).mono ?_)); rintro e w' ⟨rfl, rfl⟩)
      | (go_at_call 75; (with_reducible refine (short_is _ _ H3 l1 _).mono ?_); rintro e w' ⟨rfl, rfl⟩)
      | (go_at_call 69; (with_reducible refine (suf_is _ _ _ H4 lq _).mono ?_); rintro e w' ⟨rfl, rfl⟩))
    go_ret
    exact ⟨by rw [HE.out]; rfl, rfl⟩
end Go.Proofs.YtjeccmmhmdgdgaaGreatDoor.St
