import Derived.Test.YtjeccmmhmdgdgaaGreatDoorChecked
import Derived.Test.YtjeccmmhmdgdgaaGreatDoorLowSpec
import Derived.Test.YtjeccmmhmdgdgaaGreatDoorMem
import Derived.WalkKit
import Derived.WalkSpells
namespace Go.Proofs.YtjeccmmhmdgdgaaGreatDoor
open Go.RowKit

set_option maxHeartbeats 4000000 in
theorem low_any (r : Int) (h1 : -2147483648 ≤ r) (h2 : r ≤ 2147483647) (w : World) :
    Calls Tryz.prog 30 #[.int .i32 r] w fun e w' => e = .returned (.int .i32 (lowI r)) ∧ w = w' := by
  rcases low_parts r with h | h | h | h | h | h | h | h | h | h | h | h | h | h | h | h | h | h | h | h | h | h | h
  all_goals (try (obtain ⟨ha, hb, hc⟩ := h)); (try (obtain ⟨ha, hb⟩ := h)); (try subst h)
  all_goals
    go_enter Tryz.func30, Tryz.ntmps30
    go_wp2
    go_ret
    exact ⟨ret_int (by unfold lowI; first | rw [if_pos (by omega)] | rw [if_neg (by omega), if_pos (by omega)] | rw [if_neg (by omega), if_neg (by omega), if_pos (by omega)] | rw [if_neg (by omega), if_neg (by omega), if_neg (by omega)]), rfl⟩
end Go.Proofs.YtjeccmmhmdgdgaaGreatDoor
