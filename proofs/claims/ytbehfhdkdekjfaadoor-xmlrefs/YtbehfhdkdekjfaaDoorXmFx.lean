/- What strconv.FormatUint wants at base 16: the two small functions; digits at base 16 as a plain function. -/
import Derived.Test.YtbehfhdkdekjfaaDoorXmFu
namespace Go.Proofs.YtbehfhdkdekjfaaDoor
open Go.RowKit
set_option maxRecDepth 100000

theorem ispow16 (w : World) : Calls Tryd.prog 66 #[.int .i64 16] w fun e w' => e = .returned (.bool true) ∧ w = w' := by
  go_enter Tryd.func66, Tryd.ntmps66
  go_wp2_with fail
  go_ret
  exact ⟨rfl, rfl⟩

theorem tz64_16 (w : World) (hT : w.cell? ⟨4, 15, none⟩ = some (.int .u8 4)) : Calls Tryd.prog 85 #[.int .u64 16] w fun e w' => e = .returned (.int .i64 4) ∧ w = w' := by
  have hA : bits BinOp.and IntKind.u64 16 (IntKind.u64.wrap (-16)) = 16 := by kernel_rfl
  have hB : IntKind.u64.wrap (16 * 285870213051353865) = 4573923408821661840 := by kernel_rfl
  go_enter Tryd.func85, Tryd.ntmps85
  go_wp2_with fail
  go_ret
  exact ⟨rfl, rfl⟩

theorem tz_16 (w : World) (hT : w.cell? ⟨4, 15, none⟩ = some (.int .u8 4)) : Calls Tryd.prog 67 #[.int .u64 16] w fun e w' => e = .returned (.int .i64 4) ∧ w = w' := by
  go_enter Tryd.func67, Tryd.ntmps67
  go_wp2_with fail
  go_at_call 85
  refine (tz64_16 _ hT).mono ?_
  rintro e w' ⟨rfl, rfl⟩
  go_wp2_with fail
  go_ret
  exact ⟨rfl, rfl⟩

/-- A digit at base 16, small. -/
def hexC (d : Nat) : UInt8 := if d < 10 then UInt8.ofNat (48 + d) else UInt8.ofNat (87 + d)
/-- The digits of u at base 16. -/
def hexD : Nat → Nat → L8
  | 0, u => [hexC u]
  | f + 1, u => if u < 16 then [hexC u] else hexD f (u / 16) ++ [hexC (u % 16)]
theorem hexD_small (f u : Nat) (h : u < 16) : hexD f u = [hexC u] := by
  cases f with
  | zero => rfl
  | succ f => simp [hexD, h]
theorem hexD_great (f u : Nat) (h : ¬ u < 16) : hexD (f + 1) u = hexD f (u / 16) ++ [hexC (u % 16)] := by simp [hexD, h]
theorem hexD_len (f u : Nat) : 1 ≤ (hexD f u).length ∧ (hexD f u).length ≤ f + 1 := by
  induction f generalizing u with
  | zero => simp [hexD]
  | succ f ih =>
    by_cases h : u < 16
    · simp [hexD, h]
    · rw [hexD_great f u h]
      have := ih (u / 16)
      simp
      omega
end Go.Proofs.YtbehfhdkdekjfaaDoor
