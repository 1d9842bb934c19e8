/- GlobMatches answers true for every input. -/
import Derived.Test.YtdijicdlglnlmaaDoorGlMat
namespace Go.Proofs.YtdijicdlglnlmaaDoor
open Go.RowKit
set_option maxRecDepth 100000

theorem gmat_all (A : Option Addr) (n c : Nat) (z : List LP) (m : List UInt8) (w : World) (hT : UT w) (HN : Hid (n = z.length)) (hz : IP w w.heap.size A z) :
    Calls Tryd.prog 3 #[.slice A n c, .string (strOf m)] w fun e w' => e = .returned (.bool true) ∧ Below w.heap.size w w' := by
  by_cases hn : n ≤ 7
  · by_cases hm : m.length ≤ 14
    · exact gmat_main A n c z m w hT HN hn hz hm
    · have h1 : (n : Int) ≤ 7 := by omega
      have h2 : (14 : Int) < ((strOf m).size : Int) := by rw [size8]; omega
      have HT := Lib.hid hT
      clear hT hz HN hn hm
      go_enter Tryd.func3, Tryd.ntmps3
      go_wp2_with fail
      refine (head_any w HT.out).mono ?_
      rintro e w1 ⟨rfl, b1⟩
      go_wp2_with fail
      go_ret
      exact ⟨rfl, b1⟩
  · have h2 : (7 : Int) < (n : Int) := by omega
    have HT := Lib.hid hT
    clear hT hz HN hn
    go_enter Tryd.func3, Tryd.ntmps3
    go_wp2_with fail
    refine (head_any w HT.out).mono ?_
    rintro e w1 ⟨rfl, b1⟩
    go_wp2_with fail
    go_ret
    exact ⟨rfl, b1⟩
end Go.Proofs.YtdijicdlglnlmaaDoor
