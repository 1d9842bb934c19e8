/- MatchMild answers true. -/
import Derived.Test.YtcgoeokocabelaaMaSf
import Derived.Test.YtcgoeokocabelaaMaMl
namespace Go.Proofs.Ytcgoeokocabelaa
open Go.RowKit
theorem mm_any (A0 A1 : Option Addr) (n0 c0 n1 c1 : Nat) (ms ns : List Mt) (H : n0 = ms.length ∧ n1 = ns.length) (l0 : n0 ≤ 9223372036854775807) (l1 : n1 ≤ 9223372036854775807) (w : World) (h0 : MS w w.heap.size A0 ms) (h1 : MS w w.heap.size A1 ns) :
    Calls Try.prog 4 #[.slice A0 n0 c0, .slice A1 n1 c1] w fun e w' => e = .returned (.bool true) ∧ Below w.heap.size w w' := by
  cases hg : goodB ms 30 && goodB ns 30 with
  | false => exact mm_no A0 A1 n0 c0 n1 c1 ms ns H l0 l1 hg w h0 h1
  | true =>
    rw [Bool.and_eq_true] at hg
    obtain ⟨g1, gl1⟩ := good_sm hg.2
    exact mm_yes A0 A1 n0 c0 n1 c1 ms ns H hg w h0 h1 fun W hW => covering_any sorts_own A1 n1 c1 ns H.2 (by have := H.2; omega) (fun m hm => by have := (g1 m hm).1; omega) W (h1.up hW)
end Go.Proofs.Ytcgoeokocabelaa
