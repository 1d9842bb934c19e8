/-
  NARROWER THAN 'FOR EVERY INPUT', by the rows' own cells (each row's printed sentence says how): VintPuts: laid · VintGets: laid · VintReads: laid · VintSums: laid · VintAdds: laid · VintSizes: laid.
  DERIVED. THE GIVEN ROWS OF THIS SEAT. 6 by the template 'for every input the law returns true; each argument reads behind the call as it read before'; 0 by the template 'total and deterministic' (their statements: YthnghgnoonfgiaaDoorTotals.lean).
  GIVEN WITH THE SEED: the statements are not yours to turn. If you find one false, say at which input.
  Laid BY PROGRAM, IN A SANDBOX (cutbox-rows.mjs): the forced cells as the released guide's own fill.sh prints them over the translation 2f15028c32e84f43… (all of the seat's roots in one cut). By AI agents, Wed Nov 11 2026. No macro, syntax, notation, axiom, sorry.
-/
import Derived.Test.YthnghgnoonfgiaaDoorChecked
import GoSem.Claim
import GoSem.ClaimJoined
import GoSem.ClaimMapViews
import Derived.JoinedTies
import Derived.KernelRfl
namespace Go.Proofs.YthnghgnoonfgiaaDoor
/- THE CELL 'sum', in the pinned program and in every row, IS THE sha256 OF THE DUMP (.gsa) THAT YthnghgnoonfgiaaDoorProg.lean LOADS. Nothing in Lean hashes anything: it is a label: what it is worth is what the hold of that sum in a sandbox is worth. -/
noncomputable def Tryd.pinned : Pinned := { name := "ythnghgnoonfgiaadoor", sum := "2f15028c32e84f43bf10f6f8e37d511ddfb3ed6ddff3a79b41532f860e1a6500", checked := Tryd.checked }
namespace Rows
def none {H : Type} : Left H := { results := [], args := [] }

/- WHAT THE LISTED PACKAGE-LEVEL VARIABLES READ AS WHEN THE CALL BEGINS. Each datum BY PROGRAM (the guide's laid-datum.mjs) off the statement by which the dump's own 'gosem.cut.vars' lays the variable. In a bare row this is a premise. The card (YthnghgnoonfgiaaDoorCards.lean) ties it to the program's text. -/
def laid_catchword_vint_remainders {H : Type} : DataW H := .agg [.lit (.int .u32 0), .lit (.int .u32 498536548), .lit (.int .u32 997073096), .lit (.int .u32 651767980), .lit (.int .u32 1994146192), .lit (.int .u32 1802195444), .lit (.int .u32 1303535960), .lit (.int .u32 1342533948), .lit (.int .u32 3988292384), .lit (.int .u32 4027552580), .lit (.int .u32 3604390888), .lit (.int .u32 3412177804), .lit (.int .u32 2607071920), .lit (.int .u32 2262029012), .lit (.int .u32 2685067896), .lit (.int .u32 3183342108)]

/-- 'catchwordlaw01.VintPuts': WHATEVER THE INPUT: true; the input reads as it did. -/
def vintPutsSpec : ChangeSpec := { name := "vintPuts", fn := fun _ => fun
  | [d1, d2, d3] => { results := [.lit (.bool true)], args := [d1, d2, d3] }
  | _ => none }
def vintPutsRow : OpenClaim := { program := "ythnghgnoonfgiaadoor", sum := "2f15028c32e84f43bf10f6f8e37d511ddfb3ed6ddff3a79b41532f860e1a6500", func := "catchword/catchwordlaw01.VintPuts", spec := "vintPuts", named := ["catchword/vint.remainders"], apart := false, laid := [("catchword/vint.remainders", laid_catchword_vint_remainders)] }
def VintPutsSaid : Prop := vintPutsRow.holds Tryd.pinned (OpenSpec.ofChange vintPutsSpec)

/-- ITS FALSE NEIGHBOUR: 'it returns false'. Refute it at one input. -/
def vintPutsWrong : ChangeSpec := { name := "vintPuts", fn := fun _ => fun
  | [d1, d2, d3] => { results := [.lit (.bool false)], args := [d1, d2, d3] }
  | _ => none }
def VintPutsWrongFalsely : Prop := vintPutsRow.holds Tryd.pinned (OpenSpec.ofChange vintPutsWrong)

/-- 'catchwordlaw01.VintGets': WHATEVER THE INPUT: true; the input reads as it did. -/
def vintGetsSpec : ChangeSpec := { name := "vintGets", fn := fun _ => fun
  | [d] => { results := [.lit (.bool true)], args := [d] }
  | _ => none }
def vintGetsRow : OpenClaim := { program := "ythnghgnoonfgiaadoor", sum := "2f15028c32e84f43bf10f6f8e37d511ddfb3ed6ddff3a79b41532f860e1a6500", func := "catchword/catchwordlaw01.VintGets", spec := "vintGets", named := ["catchword/vint.remainders"], apart := false, laid := [("catchword/vint.remainders", laid_catchword_vint_remainders)] }
def VintGetsSaid : Prop := vintGetsRow.holds Tryd.pinned (OpenSpec.ofChange vintGetsSpec)

/-- ITS FALSE NEIGHBOUR: 'it returns false'. Refute it at one input. -/
def vintGetsWrong : ChangeSpec := { name := "vintGets", fn := fun _ => fun
  | [d] => { results := [.lit (.bool false)], args := [d] }
  | _ => none }
def VintGetsWrongFalsely : Prop := vintGetsRow.holds Tryd.pinned (OpenSpec.ofChange vintGetsWrong)

/-- 'catchwordlaw01.VintReads': WHATEVER THE INPUT: true; the input reads as it did. -/
def vintReadsSpec : ChangeSpec := { name := "vintReads", fn := fun _ => fun
  | [d1, d2, d3] => { results := [.lit (.bool true)], args := [d1, d2, d3] }
  | _ => none }
def vintReadsRow : OpenClaim := { program := "ythnghgnoonfgiaadoor", sum := "2f15028c32e84f43bf10f6f8e37d511ddfb3ed6ddff3a79b41532f860e1a6500", func := "catchword/catchwordlaw01.VintReads", spec := "vintReads", named := ["catchword/vint.remainders"], apart := false, laid := [("catchword/vint.remainders", laid_catchword_vint_remainders)] }
def VintReadsSaid : Prop := vintReadsRow.holds Tryd.pinned (OpenSpec.ofChange vintReadsSpec)

/-- ITS FALSE NEIGHBOUR: 'it returns false'. Refute it at one input. -/
def vintReadsWrong : ChangeSpec := { name := "vintReads", fn := fun _ => fun
  | [d1, d2, d3] => { results := [.lit (.bool false)], args := [d1, d2, d3] }
  | _ => none }
def VintReadsWrongFalsely : Prop := vintReadsRow.holds Tryd.pinned (OpenSpec.ofChange vintReadsWrong)

/-- 'catchwordlaw01.VintSums': WHATEVER THE INPUT: true; the input reads as it did. -/
def vintSumsSpec : ChangeSpec := { name := "vintSums", fn := fun _ => fun
  | [d1, d2, d3] => { results := [.lit (.bool true)], args := [d1, d2, d3] }
  | _ => none }
def vintSumsRow : OpenClaim := { program := "ythnghgnoonfgiaadoor", sum := "2f15028c32e84f43bf10f6f8e37d511ddfb3ed6ddff3a79b41532f860e1a6500", func := "catchword/catchwordlaw01.VintSums", spec := "vintSums", named := ["catchword/vint.remainders"], apart := false, laid := [("catchword/vint.remainders", laid_catchword_vint_remainders)] }
def VintSumsSaid : Prop := vintSumsRow.holds Tryd.pinned (OpenSpec.ofChange vintSumsSpec)

/-- ITS FALSE NEIGHBOUR: 'it returns false'. Refute it at one input. -/
def vintSumsWrong : ChangeSpec := { name := "vintSums", fn := fun _ => fun
  | [d1, d2, d3] => { results := [.lit (.bool false)], args := [d1, d2, d3] }
  | _ => none }
def VintSumsWrongFalsely : Prop := vintSumsRow.holds Tryd.pinned (OpenSpec.ofChange vintSumsWrong)

/-- 'catchwordlaw01.VintAdds': WHATEVER THE INPUT: true; the input reads as it did. -/
def vintAddsSpec : ChangeSpec := { name := "vintAdds", fn := fun _ => fun
  | [d1, d2] => { results := [.lit (.bool true)], args := [d1, d2] }
  | _ => none }
def vintAddsRow : OpenClaim := { program := "ythnghgnoonfgiaadoor", sum := "2f15028c32e84f43bf10f6f8e37d511ddfb3ed6ddff3a79b41532f860e1a6500", func := "catchword/catchwordlaw01.VintAdds", spec := "vintAdds", named := ["catchword/vint.remainders"], apart := false, laid := [("catchword/vint.remainders", laid_catchword_vint_remainders)] }
def VintAddsSaid : Prop := vintAddsRow.holds Tryd.pinned (OpenSpec.ofChange vintAddsSpec)

/-- ITS FALSE NEIGHBOUR: 'it returns false'. Refute it at one input. -/
def vintAddsWrong : ChangeSpec := { name := "vintAdds", fn := fun _ => fun
  | [d1, d2] => { results := [.lit (.bool false)], args := [d1, d2] }
  | _ => none }
def VintAddsWrongFalsely : Prop := vintAddsRow.holds Tryd.pinned (OpenSpec.ofChange vintAddsWrong)

/-- 'catchwordlaw01.VintSizes': WHATEVER THE INPUT: true; the input reads as it did. -/
def vintSizesSpec : ChangeSpec := { name := "vintSizes", fn := fun _ => fun
  | [d1, d2, d3] => { results := [.lit (.bool true)], args := [d1, d2, d3] }
  | _ => none }
def vintSizesRow : OpenClaim := { program := "ythnghgnoonfgiaadoor", sum := "2f15028c32e84f43bf10f6f8e37d511ddfb3ed6ddff3a79b41532f860e1a6500", func := "catchword/catchwordlaw01.VintSizes", spec := "vintSizes", named := ["catchword/vint.remainders"], apart := false, laid := [("catchword/vint.remainders", laid_catchword_vint_remainders)] }
def VintSizesSaid : Prop := vintSizesRow.holds Tryd.pinned (OpenSpec.ofChange vintSizesSpec)

/-- ITS FALSE NEIGHBOUR: 'it returns false'. Refute it at one input. -/
def vintSizesWrong : ChangeSpec := { name := "vintSizes", fn := fun _ => fun
  | [d1, d2, d3] => { results := [.lit (.bool false)], args := [d1, d2, d3] }
  | _ => none }
def VintSizesWrongFalsely : Prop := vintSizesRow.holds Tryd.pinned (OpenSpec.ofChange vintSizesWrong)

/- THE SECOND FORM. 'bulk': how many values and letters a reading holds, each counted each time it is reached (what is shared counts as often as it is met; a slice's spare places count too). A statement '..UptoSaid' is the law's where the arguments, and the package variables that the reading takes, are together of bulk at most 1048576: NARROWER than '..Said'. Prove '..Said' where nothing that the law and all that it calls make is longer than what came in: it says more and counts as full. Else prove '..UptoSaid'. A law counts once. -/
mutual
def uptoBulk {H : Type} : DataW H → Nat
  | .lit (.string bytes) => bytes.length + 1
  | .lit _ => 1
  | .nil => 1
  | .ptr d => uptoBulk d + 1
  | .slice elems spare => uptoBulkAll elems + uptoBulkAll spare + 1
  | .agg parts => uptoBulkAll parts + 1
  | .iface _ d => uptoBulk d + 1
  | .map entries => uptoBulkEntries entries + 1
  | .held _ => 1
def uptoBulkAll {H : Type} : List (DataW H) → Nat
  | [] => 0
  | d :: r => uptoBulk d + uptoBulkAll r
def uptoBulkEntries {H : Type} : List (Lit × DataW H) → Nat
  | [] => 0
  | x :: r => uptoBulkEntry x + uptoBulkEntries r
def uptoBulkEntry {H : Type} : Lit × DataW H → Nat
  | (.string bytes, d) => bytes.length + uptoBulk d + 1
  | (_, d) => uptoBulk d + 1
 end
def uptoSmall : (H : Type) → List (DataW H) → Bool := fun _ ds => decide (uptoBulkAll ds ≤ 1048576)
def OpenSpec.upto (s : _root_.Go.ChangeSpec) : _root_.Go.OpenSpec := { _root_.Go.OpenSpec.ofChange s with cond := some uptoSmall }

/-- 'catchwordlaw01.VintPuts', WHERE WHAT IT READS IS OF BULK AT MOST 1048576: true; the input reads as it did. -/
def vintPutsUptoRow : OpenClaim := { program := "ythnghgnoonfgiaadoor", sum := "2f15028c32e84f43bf10f6f8e37d511ddfb3ed6ddff3a79b41532f860e1a6500", func := "catchword/catchwordlaw01.VintPuts", spec := "vintPuts", named := ["catchword/vint.remainders"], apart := false, laid := [("catchword/vint.remainders", laid_catchword_vint_remainders)], narrowed := true }
def VintPutsUptoSaid : Prop := vintPutsUptoRow.holds Tryd.pinned (OpenSpec.upto vintPutsSpec)

/-- 'catchwordlaw01.VintGets', WHERE WHAT IT READS IS OF BULK AT MOST 1048576: true; the input reads as it did. -/
def vintGetsUptoRow : OpenClaim := { program := "ythnghgnoonfgiaadoor", sum := "2f15028c32e84f43bf10f6f8e37d511ddfb3ed6ddff3a79b41532f860e1a6500", func := "catchword/catchwordlaw01.VintGets", spec := "vintGets", named := ["catchword/vint.remainders"], apart := false, laid := [("catchword/vint.remainders", laid_catchword_vint_remainders)], narrowed := true }
def VintGetsUptoSaid : Prop := vintGetsUptoRow.holds Tryd.pinned (OpenSpec.upto vintGetsSpec)

/-- 'catchwordlaw01.VintReads', WHERE WHAT IT READS IS OF BULK AT MOST 1048576: true; the input reads as it did. -/
def vintReadsUptoRow : OpenClaim := { program := "ythnghgnoonfgiaadoor", sum := "2f15028c32e84f43bf10f6f8e37d511ddfb3ed6ddff3a79b41532f860e1a6500", func := "catchword/catchwordlaw01.VintReads", spec := "vintReads", named := ["catchword/vint.remainders"], apart := false, laid := [("catchword/vint.remainders", laid_catchword_vint_remainders)], narrowed := true }
def VintReadsUptoSaid : Prop := vintReadsUptoRow.holds Tryd.pinned (OpenSpec.upto vintReadsSpec)

/-- 'catchwordlaw01.VintSums', WHERE WHAT IT READS IS OF BULK AT MOST 1048576: true; the input reads as it did. -/
def vintSumsUptoRow : OpenClaim := { program := "ythnghgnoonfgiaadoor", sum := "2f15028c32e84f43bf10f6f8e37d511ddfb3ed6ddff3a79b41532f860e1a6500", func := "catchword/catchwordlaw01.VintSums", spec := "vintSums", named := ["catchword/vint.remainders"], apart := false, laid := [("catchword/vint.remainders", laid_catchword_vint_remainders)], narrowed := true }
def VintSumsUptoSaid : Prop := vintSumsUptoRow.holds Tryd.pinned (OpenSpec.upto vintSumsSpec)

/-- 'catchwordlaw01.VintAdds', WHERE WHAT IT READS IS OF BULK AT MOST 1048576: true; the input reads as it did. -/
def vintAddsUptoRow : OpenClaim := { program := "ythnghgnoonfgiaadoor", sum := "2f15028c32e84f43bf10f6f8e37d511ddfb3ed6ddff3a79b41532f860e1a6500", func := "catchword/catchwordlaw01.VintAdds", spec := "vintAdds", named := ["catchword/vint.remainders"], apart := false, laid := [("catchword/vint.remainders", laid_catchword_vint_remainders)], narrowed := true }
def VintAddsUptoSaid : Prop := vintAddsUptoRow.holds Tryd.pinned (OpenSpec.upto vintAddsSpec)

/-- 'catchwordlaw01.VintSizes', WHERE WHAT IT READS IS OF BULK AT MOST 1048576: true; the input reads as it did. -/
def vintSizesUptoRow : OpenClaim := { program := "ythnghgnoonfgiaadoor", sum := "2f15028c32e84f43bf10f6f8e37d511ddfb3ed6ddff3a79b41532f860e1a6500", func := "catchword/catchwordlaw01.VintSizes", spec := "vintSizes", named := ["catchword/vint.remainders"], apart := false, laid := [("catchword/vint.remainders", laid_catchword_vint_remainders)], narrowed := true }
def VintSizesUptoSaid : Prop := vintSizesUptoRow.holds Tryd.pinned (OpenSpec.upto vintSizesSpec)

end Rows
end Go.Proofs.YthnghgnoonfgiaaDoor
