/- The walks of UtfLows, UtfPlains, UtfLetters: each answers true. -/
import Derived.Test.YthnghgnoonfgiabLetterWalk
import Derived.WalkKit
import Derived.WalkSpells
import Derived.RowKit3
import Derived.Deep.Light
namespace Go.Proofs.Ythnghgnoonfgiab
open Go.RowKit
set_option maxRecDepth 100000

theorem head_any (w : World) : Calls Try.prog 6 #[] w fun e w' => e = .returned (.bool true) ∧ w = w' := by
  have e1 : lowI 201 = 233 := by decide
  have e2 : plainI 233 = 101 := by decide +kernel
  go_enter Try.func6, Try.ntmps6
  go_wp2_with (first
    | (go_at_call 7; (with_reducible refine (low_any _ (by omega) (by omega) _).mono ?_); rintro e w' ⟨rfl, rfl⟩)
    | (go_at_call 8; (with_reducible refine (plain_any _ (by omega) (by omega) _).mono ?_); rintro e w' ⟨rfl, rfl⟩))
  go_ret
  exact ⟨rfl, rfl⟩

set_option maxHeartbeats 4000000 in
theorem lows_walk (r : Int) (h1 : -2147483648 ≤ r) (h2 : r ≤ 2147483647) (w : World) :
    Calls Try.prog 3 #[.int .i32 r] w fun e w' => e = .returned (.bool true) ∧ w = w' := by
  have hb := low_bounds r h1 h2
  obtain ⟨hb1, hb2⟩ := hb
  have ht := lowI_twice r
  rcases low_parts r with h | h | h | h | h | h | h | h | h | h | h | h | h | h | h | h | h | h | h | h | h | h | h
  all_goals (try (obtain ⟨ha, hb, hc⟩ := h)); (try (obtain ⟨ha, hb⟩ := h)); (try subst h)
  all_goals (try have hx : (r != 215) = true := by (simp; omega)); (try have hy : (r != 304) = true := by (simp; omega)); (try have hz : (r == 376) = false := by (simp; omega))
  all_goals
    go_enter Try.func3, Try.ntmps3
    go_wp2_with (first
      | (go_at_call 6; (with_reducible refine (head_any _).mono ?_); rintro e w' ⟨rfl, rfl⟩)
      | (go_at_call 7; (with_reducible refine (low_any _ (by assumption) (by assumption) _).mono ?_); rintro e w' ⟨rfl, rfl⟩))
    go_ret
    refine ⟨ret_bool ?_, rfl⟩
    go_light
    simp only [beq_iff_eq]
    unfold lowI; first | rw [if_pos (by omega)] | rw [if_neg (by omega), if_pos (by omega)] | rw [if_neg (by omega), if_neg (by omega), if_pos (by omega)] | rw [if_neg (by omega), if_neg (by omega), if_neg (by omega)]

theorem plains_cases (r p : Int) (e : plainI r = p) : p = r ∨ (192 ≤ r ∧ r ≤ 383 ∧ ((65 ≤ p ∧ p ≤ 90) ∨ (97 ≤ p ∧ p ≤ 122)) ∧ lowI p = plainI (lowI r)) := by subst e; exact plain_cases r

set_option maxHeartbeats 4000000 in
theorem plains_walk (r : Int) (h1 : -2147483648 ≤ r) (h2 : r ≤ 2147483647) (w : World) :
    Calls Try.prog 4 #[.int .i32 r] w fun e w' => e = .returned (.bool true) ∧ w = w' := by
  obtain ⟨hb1, hb2⟩ := plain_bounds r h1 h2
  obtain ⟨hc1, hc2⟩ := low_bounds r h1 h2
  obtain ⟨hd1, hd2⟩ := low_bounds (plainI r) hb1 hb2
  obtain ⟨he1, he2⟩ := plain_bounds (lowI r) hc1 hc2
  have ht := plain_twice r
  rcases plain_cases r with h | ⟨h3, h4, h5, h6⟩
  · have hq : (plainI r == r) = true := by simp [h]
    clear h
    go_enter Try.func4, Try.ntmps4
    go_wp2_with (first
      | (go_at_call 6; (with_reducible refine (head_any _).mono ?_); rintro e w' ⟨rfl, rfl⟩)
      | (go_at_call 8; (with_reducible refine (plain_any _ (by assumption) (by assumption) _).mono ?_); rintro e w' ⟨rfl, rfl⟩))
    go_ret
    exact ⟨rfl, rfl⟩
  · have hq : (plainI r == r) = false := by simp; omega
    have h7 : (lowI (plainI r) == plainI (lowI r)) = true := by simp [h6]
    clear h6
    rcases h5 with ⟨ha, hb⟩ | ⟨ha, hb⟩
    · go_enter Try.func4, Try.ntmps4
      go_wp2_with (first
        | (go_at_call 6; (with_reducible refine (head_any _).mono ?_); rintro e w' ⟨rfl, rfl⟩)
        | (go_at_call 8; (with_reducible refine (plain_any _ (by assumption) (by assumption) _).mono ?_); rintro e w' ⟨rfl, rfl⟩)
        | (go_at_call 7; (with_reducible refine (low_any _ (by assumption) (by assumption) _).mono ?_); rintro e w' ⟨rfl, rfl⟩))
      go_ret
      exact ⟨rfl, rfl⟩
    · have hg : ¬ plainI r ≤ 90 := by omega
      go_enter Try.func4, Try.ntmps4
      go_wp2_with (first
        | (go_at_call 6; (with_reducible refine (head_any _).mono ?_); rintro e w' ⟨rfl, rfl⟩)
        | (go_at_call 8; (with_reducible refine (plain_any _ (by assumption) (by assumption) _).mono ?_); rintro e w' ⟨rfl, rfl⟩)
        | (go_at_call 7; (with_reducible refine (low_any _ (by assumption) (by assumption) _).mono ?_); rintro e w' ⟨rfl, rfl⟩))
      go_ret
      exact ⟨rfl, rfl⟩

end Go.Proofs.Ythnghgnoonfgiab
