import Derived.Test.YtbchmfkdhaggbaaDoorChecked
import Derived.Test.YtbchmfkdhaggbaaDoorLowSpec
import Derived.Test.YtbchmfkdhaggbaaDoorMem
import Derived.WalkKit
import Derived.WalkSpells
namespace Go.Proofs.YtbchmfkdhaggbaaDoor
open Go.RowKit

set_option maxHeartbeats 4000000 in
theorem low_any (r : Int) (h1 : -2147483648 ≤ r) (h2 : r ≤ 2147483647) (w : World) :
    Calls Tryd.prog 18 #[.int .i32 r] w fun e w' => e = .returned (.int .i32 (lowI r)) ∧ w = w' := by
  rcases low_parts r with h | h | h | h | h | h | h | h | h | h | h | h | h | h | h | h | h | h | h | h | h | h | h
  all_goals (try (obtain ⟨ha, hb, hc⟩ := h)); (try (obtain ⟨ha, hb⟩ := h)); (try subst h)
  all_goals
    go_enter Tryd.func18, Tryd.ntmps18
    go_wp2
    go_ret
    exact ⟨ret_int (by unfold lowI; first | rw [if_pos (by omega)] | rw [if_neg (by omega), if_pos (by omega)] | rw [if_neg (by omega), if_neg (by omega), if_pos (by omega)] | rw [if_neg (by omega), if_neg (by omega), if_neg (by omega)]), rfl⟩
end Go.Proofs.YtbchmfkdhaggbaaDoor
