/- What Low, Plain and Letter of package utf answer, as plain functions on integers; no Go in sight. -/
import Derived.WalkKit
namespace Go.Proofs.YtjeccmmhmdgdgaaGreatDoor

/-- Low, by the page. -/
def lowI (r : Int) : Int :=
  if (65 ≤ r ∧ r ≤ 90) ∨ (192 ≤ r ∧ r ≤ 222 ∧ r ≠ 215) then r + 32
  else if r = 376 then 255
  else if (256 ≤ r ∧ r ≤ 311 ∧ r ≠ 304 ∧ r % 2 = 0) ∨ (330 ≤ r ∧ r ≤ 375 ∧ r % 2 = 0) ∨ (313 ≤ r ∧ r ≤ 328 ∧ r % 2 = 1) ∨ (377 ≤ r ∧ r ≤ 382 ∧ r % 2 = 1) then r + 1
  else r

/-- The parts of the line of numbers on each of which all of Low's tests are decided. -/
theorem low_parts (r : Int) : r < 0 ∨ (0 ≤ r ∧ r ≤ 64) ∨ (65 ≤ r ∧ r ≤ 90) ∨ (91 ≤ r ∧ r ≤ 191) ∨ (192 ≤ r ∧ r ≤ 214) ∨ r = 215 ∨ (216 ≤ r ∧ r ≤ 222) ∨ (223 ≤ r ∧ r ≤ 255) ∨
    (256 ≤ r ∧ r ≤ 303 ∧ r % 2 = 0) ∨ (256 ≤ r ∧ r ≤ 303 ∧ r % 2 = 1) ∨ r = 304 ∨ (305 ≤ r ∧ r ≤ 311 ∧ r % 2 = 0) ∨ (305 ≤ r ∧ r ≤ 311 ∧ r % 2 = 1) ∨ r = 312 ∨
    (313 ≤ r ∧ r ≤ 328 ∧ r % 2 = 0) ∨ (313 ≤ r ∧ r ≤ 328 ∧ r % 2 = 1) ∨ r = 329 ∨ (330 ≤ r ∧ r ≤ 375 ∧ r % 2 = 0) ∨ (330 ≤ r ∧ r ≤ 375 ∧ r % 2 = 1) ∨ r = 376 ∨
    (377 ≤ r ∧ r ≤ 382 ∧ r % 2 = 0) ∨ (377 ≤ r ∧ r ≤ 382 ∧ r % 2 = 1) ∨ 383 ≤ r := by omega

theorem lowI_twice (r : Int) : lowI (lowI r) = lowI r := by
  unfold lowI; split <;> (try split) <;> (try split) <;> omega
end Go.Proofs.YtjeccmmhmdgdgaaGreatDoor
