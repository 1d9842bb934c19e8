/- strconv.FormatUint at bases 10 and 16. -/
import Derived.Test.YtbehfhdkdekjfaaDoorXmFc
namespace Go.Proofs.YtbehfhdkdekjfaaDoor
open Go.RowKit
set_option maxRecDepth 100000

theorem ifmt16 (u : Nat) (hu : u < 4294967296) (w : World) (hT : NTab w) :
    Calls Tryd.prog 26 #[.int .u64 u, .int .i64 16] w fun e w' => e = .returned (.string (strOf (hexD 7 u))) ∧ Below w.heap.size w w' := by
  have HF := Lib.hid (fbits16 u hu w hT.2)
  go_enter Tryd.func26, Tryd.ntmps26
  go_wp2_with fail
  go_at_call 44
  refine HF.out.mono ?_
  rintro e w' ⟨rfl, hb⟩
  go_wp2_with fail
  go_ret
  exact ⟨rfl, hb⟩
theorem fmt16 (u : Nat) (hu : u < 4294967296) (w : World) (hT : NTab w) :
    Calls Tryd.prog 13 #[.int .u64 u, .int .i64 16] w fun e w' => e = .returned (.string (strOf (hexD 7 u))) ∧ Below w.heap.size w w' := by
  have HF := Lib.hid (ifmt16 u hu w hT)
  go_enter Tryd.func13, Tryd.ntmps13
  go_wp2_with fail
  go_at_call 26
  refine HF.out.mono ?_
  rintro e w' ⟨rfl, hb⟩
  go_wp2_with fail
  go_ret
  exact ⟨rfl, hb⟩
theorem fmt10 (u : Nat) (hu : u < 4294967296) (w : World) (hT : NTab w) :
    Calls Tryd.prog 13 #[.int .u64 u, .int .i64 10] w fun e w' => e = .returned (.string (strOf (Lib.decDigits u))) ∧ Below w.heap.size w w' := by
  have HF := Lib.hid (ifmt10 u (by omega) w hT)
  go_enter Tryd.func13, Tryd.ntmps13
  go_wp2_with fail
  go_at_call 26
  refine HF.out.mono ?_
  rintro e w' ⟨rfl, hb⟩
  go_wp2_with fail
  go_ret
  exact ⟨rfl, hb⟩
end Go.Proofs.YtbehfhdkdekjfaaDoor
