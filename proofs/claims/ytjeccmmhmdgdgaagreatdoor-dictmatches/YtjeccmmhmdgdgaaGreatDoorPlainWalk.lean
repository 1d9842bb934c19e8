import Derived.Test.YtjeccmmhmdgdgaaGreatDoorChecked
import Derived.Test.YtjeccmmhmdgdgaaGreatDoorMem
import Derived.Test.YtjeccmmhmdgdgaaGreatDoorPlainSpec
import Derived.WalkKit
import Derived.WalkSpells
namespace Go.Proofs.YtjeccmmhmdgdgaaGreatDoor
open Go.RowKit
set_option maxRecDepth 100000

theorem plain_dash (r : Int) (h1 : 192 ≤ r) (h2 : r ≤ 383) (h3 : (r - 192).toNat < plainBytes.size) (h : ((plainBytes[(r - 192).toNat].toNat : Int) == 45) = true) : r = plainI r := by
  rw [plainBytes_at _ h3] at h
  unfold plainI
  rw [if_pos ⟨h1, h2⟩, if_pos (by have := of_decide_eq_true (p := ((plainAt (r - 192).toNat : Int) = 45)) (by simpa using h); omega)]
theorem plain_sign (r : Int) (h1 : 192 ≤ r) (h2 : r ≤ 383) (h3 : (r - 192).toNat < plainBytes.size) (h : ((plainBytes[(r - 192).toNat].toNat : Int) == 45) = false) : wrap32 (plainBytes[(r - 192).toNat].toNat : Int) = plainI r := by
  have l := plainAt_lt ⟨(r - 192).toNat, h3⟩
  simp only at l
  rw [plainBytes_at _ h3] at h ⊢
  unfold plainI
  rw [if_pos ⟨h1, h2⟩, if_neg (by intro e; rw [e] at h; simp at h)]
  unfold wrap32
  omega

set_option maxHeartbeats 1000000 in
theorem plain_in (r : Int) (h1 : 192 ≤ r) (h2 : r ≤ 383) (w : World) :
    Calls Tryz.prog 51 #[.int .i32 r] w fun e w' => e = .returned (.int .i32 (plainI r)) ∧ w = w' := by
  go_enter Tryz.func51, Tryz.ntmps51
  go_wp2
  · go_ret
    exact ⟨ret_int (plain_dash r h1 h2 (by rw [plainBytes_size]; omega) ‹_›), rfl⟩
  · go_ret
    exact ⟨ret_int (plain_sign r h1 h2 (by rw [plainBytes_size]; omega) ‹_›), rfl⟩
theorem plain_out (r : Int) (h1 : -2147483648 ≤ r) (h2 : r ≤ 2147483647) (h : r < 192 ∨ 383 < r) (w : World) :
    Calls Tryz.prog 51 #[.int .i32 r] w fun e w' => e = .returned (.int .i32 (plainI r)) ∧ w = w' := by
  rcases h with h | h
  · have h' : ¬ 192 ≤ r := by omega
    go_enter Tryz.func51, Tryz.ntmps51
    go_wp2
    go_ret
    exact ⟨ret_int (plainI_out r (.inl h)).symm, rfl⟩
  · have h' : 192 ≤ r := by omega
    have h'' : ¬ r ≤ 383 := by omega
    go_enter Tryz.func51, Tryz.ntmps51
    go_wp2
    go_ret
    exact ⟨ret_int (plainI_out r (.inr h)).symm, rfl⟩
theorem plain_any (r : Int) (h1 : -2147483648 ≤ r) (h2 : r ≤ 2147483647) (w : World) :
    Calls Tryz.prog 51 #[.int .i32 r] w fun e w' => e = .returned (.int .i32 (plainI r)) ∧ w = w' := by
  by_cases h : 192 ≤ r ∧ r ≤ 383
  · exact plain_in r h.1 h.2 w
  · exact plain_out r h1 h2 (by omega) w
end Go.Proofs.YtjeccmmhmdgdgaaGreatDoor
