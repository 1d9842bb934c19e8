/- The law's not. -/
import Derived.Test.YtafbjadlklcicaaMaBo
namespace Go.Proofs.Ytafbjadlklcicaa
open Go.RowKit
set_option maxRecDepth 100000

theorem ms_one (w : World) : MS (w.alloc (.cells #[.slice none 0 0, .slice none 0 0] 60)) (w.alloc (.cells #[.slice none 0 0, .slice none 0 0] 60)).heap.size (some ⟨w.heap.size, 0, none⟩) [([], [])] :=
  ⟨[(.slice none 0 0, .slice none 0 0)], cells_new w #[.slice none 0 0, .slice none 0 0] 60 _ (by simp), MZ.one (SV.nil _ _) (SV.nil _ _)⟩
def LNotQ (w : World) (ms : List Mt) (e : Ending) (w' : World) : Prop := ∃ A N c b, e = .returned (.tuple #[.slice A N c, .bool b]) ∧ ((waysF 1 ms = none ∧ b = false ∧ N = 0) ∨ (waysF 1 ms = some N ∧ b = true ∧ MS w' w'.heap.size A (notL ms))) ∧ Below w.heap.size w w'
theorem notL_sm (ms : List Mt) (h : ms.length ≤ 20000) : smM (notL ms) := fun x hx => by
  have := notL_size ms x hx
  omega
theorem turns_sm (m : Mt) : smM (turns m) := fun x hx => by
  have := turns_one m x hx
  omega
end Go.Proofs.Ytafbjadlklcicaa
