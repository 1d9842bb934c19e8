/- The walks of UtfLetters: it answers true. -/
import Derived.Test.YthnghgnoonfgiabUtfSmall
import Derived.WalkKit
import Derived.WalkSpells
import Derived.RowKit3
import Derived.Deep.Light
namespace Go.Proofs.Ythnghgnoonfgiab
open Go.RowKit
set_option maxRecDepth 100000

set_option maxHeartbeats 4000000 in
theorem letters_walk (r : Int) (h1 : -2147483648 ≤ r) (h2 : r ≤ 2147483647) (w : World) :
    Calls Try.prog 5 #[.int .i32 r] w fun e w' => e = .returned (.bool true) ∧ w = w' := by
  obtain ⟨hb1, hb2⟩ := plain_bounds r h1 h2
  obtain ⟨hc1, hc2⟩ := low_bounds r h1 h2
  rcases letter_parts r with h | h | h | h | h | h | h | h | h | h | h | h | h | h | h | h | h | h | h | h | h | h | h | h | h
  all_goals
    first | ((have hL : letterB r = true := by (refine (letter_t r ?_).symm; omega)); have hl := (letter_low _).trans hL; have hp := (letter_plain _).trans hL) | ((have hL : letterB r = false := by (refine (letter_f r ?_).symm; omega)); have hl := (letter_low _).trans hL; have hp := (letter_plain _).trans hL)
  all_goals (try (obtain ⟨ha, hb⟩ := h))
  all_goals (try have hz : (r == 170) = false := by (simp; omega)); (try have hy : (r == 181) = false := by (simp; omega)); (try have hx : (r == 186) = false := by (simp; omega)); (try have hw : (r == 215) = false := by (simp; omega)); (try have hv : (r == 247) = false := by (simp; omega))
  all_goals
    go_enter Try.func5, Try.ntmps5
    go_wp2_with (first
      | (go_at_call 6; (with_reducible refine (head_any _).mono ?_); rintro e w' ⟨rfl, rfl⟩)
      | (go_at_call 8; (with_reducible refine (plain_any _ (by first | assumption | decide) (by first | assumption | decide) _).mono ?_); rintro e w' ⟨rfl, rfl⟩)
      | (go_at_call 9; (with_reducible refine (letter_any _ (by first | assumption | decide) (by first | assumption | decide) _).mono ?_); rintro e w' ⟨rfl, rfl⟩)
      | (go_at_call 7; (with_reducible refine (low_any _ (by first | assumption | decide) (by first | assumption | decide) _).mono ?_); rintro e w' ⟨rfl, rfl⟩))
    go_ret
    refine ⟨ret_bool ?_, rfl⟩
    go_light
    first | rfl | (simp <;> omega)
end Go.Proofs.Ythnghgnoonfgiab
