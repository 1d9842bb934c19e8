/- Parse's two outcomes; texts put together. -/
import Derived.Test.YtbehfhdkdekjfaaDoorXmRep
namespace Go.Proofs.YtbehfhdkdekjfaaDoor
open Go.RowKit
set_option maxRecDepth 100000
theorem parse_err (l : L8) (c : Int) (h : Hid (parseX l = .error c)) (hl : l.length ≤ 1000000) (w : World) (hE : Env w) : Calls Tryd.prog 8 #[.string (strOf l)] w fun e w' => e = .returned (.tuple #[.slice none 0 0, .int .i64 c]) ∧ Below w.heap.size w w' := by
  refine (parse_any l hl w hE).mono ?_
  rintro e w1 ⟨b1, ⟨ns, v, hns, rfl, _⟩ | ⟨c', hns, rfl, _⟩⟩
  · rw [h.out] at hns; cases hns
  · rw [h.out] at hns; injection hns with hns; subst hns; exact ⟨rfl, b1⟩
theorem add8 (a b : L8) : (⟨a.toArray⟩ : ByteArray) ++ strOf b = strOf (a ++ b) := by
  apply ByteArray.ext
  simp [strOf]
theorem add8r (a b : L8) : strOf a ++ (⟨b.toArray⟩ : ByteArray) = strOf (a ++ b) := by
  apply ByteArray.ext
  simp [strOf]
theorem parse_ok (l : L8) (ns : List Nd) (h : Hid (parseX l = .ok ns)) (hl : l.length ≤ 1000000) (w : World) (hE : Env w) : Calls Tryd.prog 8 #[.string (strOf l)] w fun e w' => ∃ v, e = .returned (.tuple #[v, .int .i64 0]) ∧ NdRow w' w.heap.size v ns ∧ Below w.heap.size w w' := by
  refine (parse_any l hl w hE).mono ?_
  rintro e w1 ⟨b1, ⟨ns', v, hns, rfl, hr⟩ | ⟨c', hns, rfl, _⟩⟩
  · rw [h.out] at hns; injection hns with hns; subst hns; exact ⟨v, rfl, hr, b1⟩
  · rw [h.out] at hns; cases hns
end Go.Proofs.YtbehfhdkdekjfaaDoor
