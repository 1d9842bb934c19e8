/- The tables of digits that the rows hand the walks. -/
import Derived.Test.YtbehfhdkdekjfaaDoorRowX
import Derived.Test.YtbehfhdkdekjfaaDoorXmFu
import Derived.Lib.TrailingZeros
import Derived.Lib.LaidTab
namespace Go.Proofs.YtbehfhdkdekjfaaDoor
open Go.ChangeShapes Go.WideShapes Go.ChangeAt Go.RowKit
set_option maxRecDepth 100000

theorem pow10_is : (Rows.laid_internal_strconv_uint64pow10 : DataW Unit) = Lib.tabData .u64 Lib.pow10Tab := by kernel_rfl
def bruijnZ : List Int := Lib.deBruijn64tab.map fun x : Nat => (x : Int)
theorem bruijn_is : (Rows.laid_math_bits_deBruijn64tab : DataW Unit) = Lib.tabData .u8 bruijnZ := by kernel_rfl
theorem ntab_of {W : World} (h : laidMetH Tryd.prog laid7 W) : NTab W := by
  have hm := met_of h
  have h1 : laidMet Tryd.prog (laid7.drop 1) W := hm.tail
  have h2 : laidMet Tryd.prog (laid7.drop 2) W := hm.tail.tail
  have e1 : laid7.drop 1 = ("math/bits.deBruijn64tab", Lib.tabData .u8 bruijnZ) :: laid7.drop 2 := by
    show ("math/bits.deBruijn64tab", Rows.laid_math_bits_deBruijn64tab) :: laid7.drop 2 = _
    rw [bruijn_is]
  have e2 : laid7.drop 2 = ("internal/strconv.uint64pow10", Lib.tabData .u64 Lib.pow10Tab) :: laid7.drop 3 := by
    show ("internal/strconv.uint64pow10", Rows.laid_internal_strconv_uint64pow10) :: laid7.drop 3 = _
    rw [pow10_is]
  rw [e1] at h1
  rw [e2] at h2
  refine ⟨Lib.tabIs_of_head (g := 2) (t := 96) (e := 36) (n := 20) (by kernel_rfl) (by kernel_rfl) (by kernel_rfl) (by kernel_rfl) (by kernel_rfl) (by kernel_rfl) h2, ?_⟩
  have hb := Lib.tabIs_of_head (g := 4) (t := 123) (e := 5) (n := 64) (by kernel_rfl) (by kernel_rfl) (by kernel_rfl) (by kernel_rfl) (by kernel_rfl) (by kernel_rfl) h1
  have hc := World.var?_cell (show Tryd.prog.globalNamed "math/bits.deBruijn64tab" = some 4 by kernel_rfl) hb 15
  rw [hc]
  rfl
end Go.Proofs.YtbehfhdkdekjfaaDoor
