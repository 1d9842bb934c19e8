/- What the rows of this seat hand the walks: the library's tables and errors in memory; a world for the witness. -/
import Derived.Test.YtbehfhdkdekjfaaDoorRows
import Derived.Test.YtbehfhdkdekjfaaDoorShelf
import Derived.Test.YtbehfhdkdekjfaaDoorXmW1
import Derived.ProofKit
import Derived.OpenShut
import Derived.Below
import Derived.Deep.DeepHandedRow
import Derived.Deep.DeepWitnessRowRef
import Derived.Lib.LaidTab
import Derived.Lib.LaidU8
import Derived.Stop.LaidErr
import Derived.LaidLaws
import Derived.MakeChecks
namespace Go.Proofs.YtbehfhdkdekjfaaDoor
open Go.ChangeShapes Go.WideShapes Go.ChangeAt Go.RowKit
set_option maxRecDepth 100000

theorem extra8 : U8Extra Tryd.prog Tryd.lays260_ren := ⟨by kernel_rfl, by kernel_rfl, by kernel_rfl, by kernel_rfl, by kernel_rfl, by kernel_rfl, by kernel_rfl⟩
theorem first_is : Rows.laid_unicode_utf8_first = Lib.firstData := by kernel_rfl
theorem accept_is : (Rows.laid_unicode_utf8_acceptRanges : DataW Unit) = Lib.acceptData := by kernel_rfl
abbrev laid7 : List (String × DataW Unit) := [("math/bits.deBruijn32tab", Rows.laid_math_bits_deBruijn32tab), ("math/bits.deBruijn64tab", Rows.laid_math_bits_deBruijn64tab), ("internal/strconv.uint64pow10", Rows.laid_internal_strconv_uint64pow10), ("unicode/utf8.acceptRanges", Rows.laid_unicode_utf8_acceptRanges), ("strconv.ErrRange", Rows.laid_strconv_ErrRange), ("strconv.ErrSyntax", Rows.laid_strconv_ErrSyntax), ("unicode/utf8.first", Rows.laid_unicode_utf8_first)]
theorem met_of {W : World} (h : laidMetH Tryd.prog laid7 W) : laidMet Tryd.prog laid7 W := by
  rw [Go.MakeChecks.laidMetH_plain _ _ _ (by kernel_rfl)] at h
  exact h
theorem star : "*" ++ "errors.errorString" = "*errors.errorString" := by decide
theorem row_err (u : TypeId) (h : Tryd.prog.typeName? 3 u = some "*errors.errorString") : u = 138 :=
  typeName_ptr_named (nm := "errors.errorString") (by rw [star]; kernel_rfl) (by kernel_rfl) (by decide) u (by rw [star]; exact h)
theorem ut_of7 {W : World} (h : laidMetH Tryd.prog laid7 W) : UT W := by
  have hm := met_of h
  have h1 : Lib.VarReads Tryd.prog W "unicode/utf8.first" Lib.firstData := by rw [← first_is]; exact Lib.laidMet.reads hm (by simp)
  have h2 : Lib.VarReads Tryd.prog W "unicode/utf8.acceptRanges" Lib.acceptData := by rw [← accept_is]; exact Lib.laidMet.reads hm (by simp)
  exact utf8Tabs_of_reads Tryd.lays260 extra8 h1 h2
theorem err_cells {W : World} (h : laidMetH Tryd.prog laid7 W) : (∃ t p, W.cell? ⟨6, 0, none⟩ = some (.iface t p)) ∧ (∃ t p, W.cell? ⟨7, 0, none⟩ = some (.iface t p)) := by
  have hm := met_of h
  have hr : laidMet Tryd.prog (laid7.drop 4) W := hm.tail.tail.tail.tail
  obtain ⟨a7, s7, hv7, _, _, _⟩ := laid_sentinel (g := 7) hr (by kernel_rfl) (by kernel_rfl) Tryd.underlying119 row_err Tryd.underlying138 Tryd.underlying140 rfl rfl Tryd.underlying9 (by kernel_rfl) (by kernel_rfl)
  obtain ⟨a6, s6, hv6, _, _, _⟩ := laid_sentinel (g := 6) hr.tail (by kernel_rfl) (by kernel_rfl) Tryd.underlying119 row_err Tryd.underlying138 Tryd.underlying140 rfl rfl Tryd.underlying9 (by kernel_rfl) (by kernel_rfl)
  have c7 := World.var?_cell (show Tryd.prog.globalNamed "strconv.ErrRange" = some 7 by kernel_rfl) hv7 0
  have c6 := World.var?_cell (show Tryd.prog.globalNamed "strconv.ErrSyntax" = some 6 by kernel_rfl) hv6 0
  exact ⟨⟨_, _, by simpa using c6⟩, ⟨_, _, by simpa using c7⟩⟩
theorem env_of {W : World} (h : laidMetH Tryd.prog laid7 W) (hS : W.ShapedOpen Tryd.prog) : Env W := by
  obtain ⟨h6, h7⟩ := err_cells h
  refine ⟨ut_of7 h, Tryd.laysM219.s1_3 W hS, h6, h7, ?_⟩
  obtain ⟨t, p, hc⟩ := h7
  exact World.block_lt_of_cell? W _ hc
/-- The cells of a laid table of integers. -/
def litCells : DataW Unit → Array Value
  | .agg xs => (xs.map fun | .lit (.int k z) => Value.int k z | _ => Value.int .u8 0).toArray
  | _ => #[]
/-- A world for the witness: the settled one with the two errors' structs behind it, the seven variables holding what their initialisers lay. -/
noncomputable def laidWorld7 (os : Os) : World :=
  let N := (World.settled Tryd.prog os).heap.size
  let w0 := World.holding Tryd.prog os ⟨#[.cells #[.string ⟨#[105, 110, 118, 97, 108, 105, 100, 32, 115, 121, 110, 116, 97, 120]⟩] 140, .cells #[.string ⟨#[118, 97, 108, 117, 101, 32, 111, 117, 116, 32, 111, 102, 32, 114, 97, 110, 103, 101]⟩] 140], #[], []⟩
  let put (h : Array Obj) (g : Nat) (cs : Array Value) : Array Obj := h.modify g fun
    | .cells _ t frozen => .cells cs t frozen
    | o => o
  let h1 := put (put w0.heap 0 (Lib.firstTab.map fun z => Value.int .u8 z).toArray) 1 ((List.range 16).flatMap fun i => [Value.int .u8 (Lib.accLo i), Value.int .u8 (Lib.accHi i)]).toArray
  let h2 := put (put (put h1 2 (litCells Rows.laid_internal_strconv_uint64pow10)) 3 (litCells Rows.laid_math_bits_deBruijn32tab)) 4 (litCells Rows.laid_math_bits_deBruijn64tab)
  { w0 with heap := put (put h2 6 #[.iface 138 (.pointer (some ⟨N, 0, none⟩))]) 7 #[.iface 138 (.pointer (some ⟨N + 1, 0, none⟩))] }
end Go.Proofs.YtbehfhdkdekjfaaDoor
