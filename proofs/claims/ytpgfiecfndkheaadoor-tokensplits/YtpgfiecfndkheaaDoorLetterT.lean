import Derived.Test.YtpgfiecfndkheaaDoorChecked
import Derived.Test.YtpgfiecfndkheaaDoorMem
import Derived.Test.YtpgfiecfndkheaaDoorPlainSpec
import Derived.WalkKit
import Derived.WalkSpells
import Derived.Deep.Light
namespace Go.Proofs.YtpgfiecfndkheaaDoor
open Go.RowKit
set_option maxRecDepth 100000

theorem letter_parts (r : Int) : r ≤ 47 ∨ (48 ≤ r ∧ r ≤ 57) ∨ (58 ≤ r ∧ r ≤ 64) ∨ (65 ≤ r ∧ r ≤ 90) ∨ (91 ≤ r ∧ r ≤ 96) ∨ (97 ≤ r ∧ r ≤ 122) ∨ (123 ≤ r ∧ r ≤ 127) ∨ (128 ≤ r ∧ r ≤ 169) ∨ r = 170 ∨ (171 ≤ r ∧ r ≤ 180) ∨ r = 181 ∨
    (182 ≤ r ∧ r ≤ 185) ∨ r = 186 ∨ (187 ≤ r ∧ r ≤ 191) ∨ (192 ≤ r ∧ r ≤ 214) ∨ r = 215 ∨ (216 ≤ r ∧ r ≤ 246) ∨ r = 247 ∨ (248 ≤ r ∧ r ≤ 8191) ∨ (8192 ≤ r ∧ r ≤ 8303) ∨ (8304 ≤ r ∧ r ≤ 12287) ∨ (12288 ≤ r ∧ r ≤ 12292) ∨
    (12293 ≤ r ∧ r ≤ 12295) ∨ (12296 ≤ r ∧ r ≤ 12320) ∨ 12321 ≤ r := by omega
theorem letter_t (r : Int) (h : (48 ≤ r ∧ r ≤ 57) ∨ (65 ≤ r ∧ r ≤ 90) ∨ (97 ≤ r ∧ r ≤ 122) ∨ r = 170 ∨ r = 181 ∨ r = 186 ∨ (192 ≤ r ∧ r ≤ 214) ∨ (216 ≤ r ∧ r ≤ 246) ∨ (248 ≤ r ∧ r ≤ 8191) ∨ (8304 ≤ r ∧ r ≤ 12287) ∨ (12293 ≤ r ∧ r ≤ 12295) ∨ 12321 ≤ r) : true = letterB r := by
  unfold letterB; symm
  by_cases a : r < 128
  · rw [if_pos a]; exact decide_eq_true (by omega)
  · by_cases b : r < 192
    · rw [if_neg a, if_pos b]; exact decide_eq_true (by omega)
    · rw [if_neg a, if_neg b]; exact decide_eq_true (by omega)
theorem letter_f (r : Int) (h : ¬ ((48 ≤ r ∧ r ≤ 57) ∨ (65 ≤ r ∧ r ≤ 90) ∨ (97 ≤ r ∧ r ≤ 122) ∨ r = 170 ∨ r = 181 ∨ r = 186 ∨ (192 ≤ r ∧ r ≤ 214) ∨ (216 ≤ r ∧ r ≤ 246) ∨ (248 ≤ r ∧ r ≤ 8191) ∨ (8304 ≤ r ∧ r ≤ 12287) ∨ (12293 ≤ r ∧ r ≤ 12295) ∨ 12321 ≤ r)) : false = letterB r := by
  unfold letterB; symm
  by_cases a : r < 128
  · rw [if_pos a]; exact decide_eq_false (by omega)
  · by_cases b : r < 192
    · rw [if_neg a, if_pos b]; exact decide_eq_false (by omega)
    · rw [if_neg a, if_neg b]; exact decide_eq_false (by omega)

set_option maxHeartbeats 4000000 in
theorem letter_any (r : Int) (h1 : -2147483648 ≤ r) (h2 : r ≤ 2147483647) (w : World) :
    Calls Tryd.prog 14 #[.int .i32 r] w fun e w' => e = .returned (.bool (letterB r)) ∧ w = w' := by
  rcases letter_parts r with h | h | h | h | h | h | h | h | h | h | h | h | h | h | h | h | h | h | h | h | h | h | h | h | h
  all_goals (try (obtain ⟨ha, hb⟩ := h)); (try subst h)
  all_goals
    go_enter Tryd.func14, Tryd.ntmps14
    go_wp2
    go_ret
    refine ⟨ret_bool ?_, rfl⟩
    first | exact letter_t r (by omega) | exact letter_f r (by omega) | exact letter_t _ (by omega) | exact letter_f _ (by omega) | (go_light; rw [← letter_t r (by omega)]; simp <;> omega) | (go_light; rw [← letter_f r (by omega)]; simp <;> omega)
end Go.Proofs.YtpgfiecfndkheaaDoor
