/-
  No cell of these rows narrows 'for every input' (looked for: loops, veiled, ifaces, maps, wideKeys, modest, calm, conditions, laid).
  DERIVED. THE GIVEN ROWS OF THIS SEAT. 6 by the template 'for every input the law returns true; each argument reads behind the call as it read before'; 0 by the template 'total and deterministic' (their statements: YtbchmfkdhaggbaaTotals.lean).
  GIVEN WITH THE SEED: the statements are not yours to turn. If you find one false, say at which input.
  Laid BY PROGRAM, IN A SANDBOX (cutbox-rows.mjs): the forced cells as the released guide's own fill.sh prints them over the translation be84597077ce1da3… (all of the seat's roots in one cut). By AI agents, Wed Nov 11 2026. No macro, syntax, notation, axiom, sorry.
-/
import Derived.Test.YtbchmfkdhaggbaaChecked
import GoSem.Claim
import GoSem.ClaimJoined
import GoSem.ClaimMapViews
import Derived.JoinedTies
import Derived.KernelRfl
namespace Go.Proofs.Ytbchmfkdhaggbaa
/- THE CELL 'sum', in the pinned program and in every row, IS THE sha256 OF THE DUMP (.gsa) THAT YtbchmfkdhaggbaaProg.lean LOADS. Nothing in Lean hashes anything: it is a label: what it is worth is what the hold of that sum in a sandbox is worth. -/
noncomputable def Try.pinned : Pinned := { name := "ytbchmfkdhaggbaa", sum := "be84597077ce1da319c6b34d34a19093073ca7b8544f1b928199b83796426a18", checked := Try.checked }
namespace Rows
def none {H : Type} : Left H := { results := [], args := [] }

/-- 'catchwordlaw10.DictMakes': WHATEVER THE INPUT: true; the input reads as it did. -/
def dictMakesSpec : ChangeSpec := { name := "dictMakes", fn := fun _ => fun
  | [d1, d2, d3] => { results := [.lit (.bool true)], args := [d1, d2, d3] }
  | _ => none }
def dictMakesRow : OpenClaim := { program := "ytbchmfkdhaggbaa", sum := "be84597077ce1da319c6b34d34a19093073ca7b8544f1b928199b83796426a18", func := "catchword/catchwordlaw10.DictMakes", spec := "dictMakes", unfollowed := true, recurses := true, apart := false }
def DictMakesSaid : Prop := dictMakesRow.holds Try.pinned (OpenSpec.ofChange dictMakesSpec)

/-- ITS FALSE NEIGHBOUR: 'it returns false'. Refute it at one input. -/
def dictMakesWrong : ChangeSpec := { name := "dictMakes", fn := fun _ => fun
  | [d1, d2, d3] => { results := [.lit (.bool false)], args := [d1, d2, d3] }
  | _ => none }
def DictMakesWrongFalsely : Prop := dictMakesRow.holds Try.pinned (OpenSpec.ofChange dictMakesWrong)

/-- 'catchwordlaw10.DictPrefixes': WHATEVER THE INPUT: true; the input reads as it did. -/
def dictPrefixesSpec : ChangeSpec := { name := "dictPrefixes", fn := fun _ => fun
  | [d1, d2] => { results := [.lit (.bool true)], args := [d1, d2] }
  | _ => none }
def dictPrefixesRow : OpenClaim := { program := "ytbchmfkdhaggbaa", sum := "be84597077ce1da319c6b34d34a19093073ca7b8544f1b928199b83796426a18", func := "catchword/catchwordlaw10.DictPrefixes", spec := "dictPrefixes", unfollowed := true, recurses := true, apart := false }
def DictPrefixesSaid : Prop := dictPrefixesRow.holds Try.pinned (OpenSpec.ofChange dictPrefixesSpec)

/-- ITS FALSE NEIGHBOUR: 'it returns false'. Refute it at one input. -/
def dictPrefixesWrong : ChangeSpec := { name := "dictPrefixes", fn := fun _ => fun
  | [d1, d2] => { results := [.lit (.bool false)], args := [d1, d2] }
  | _ => none }
def DictPrefixesWrongFalsely : Prop := dictPrefixesRow.holds Try.pinned (OpenSpec.ofChange dictPrefixesWrong)

/-- 'catchwordlaw10.DictBytes': WHATEVER THE INPUT: true; the input reads as it did. -/
def dictBytesSpec : ChangeSpec := { name := "dictBytes", fn := fun _ => fun
  | [d1, d2, d3] => { results := [.lit (.bool true)], args := [d1, d2, d3] }
  | _ => none }
def dictBytesRow : OpenClaim := { program := "ytbchmfkdhaggbaa", sum := "be84597077ce1da319c6b34d34a19093073ca7b8544f1b928199b83796426a18", func := "catchword/catchwordlaw10.DictBytes", spec := "dictBytes", unfollowed := true, recurses := true, apart := false }
def DictBytesSaid : Prop := dictBytesRow.holds Try.pinned (OpenSpec.ofChange dictBytesSpec)

/-- ITS FALSE NEIGHBOUR: 'it returns false'. Refute it at one input. -/
def dictBytesWrong : ChangeSpec := { name := "dictBytes", fn := fun _ => fun
  | [d1, d2, d3] => { results := [.lit (.bool false)], args := [d1, d2, d3] }
  | _ => none }
def DictBytesWrongFalsely : Prop := dictBytesRow.holds Try.pinned (OpenSpec.ofChange dictBytesWrong)

/-- 'catchwordlaw10.DictReads': WHATEVER THE INPUT: true; the input reads as it did. -/
def dictReadsSpec : ChangeSpec := { name := "dictReads", fn := fun _ => fun
  | [d] => { results := [.lit (.bool true)], args := [d] }
  | _ => none }
def dictReadsRow : OpenClaim := { program := "ytbchmfkdhaggbaa", sum := "be84597077ce1da319c6b34d34a19093073ca7b8544f1b928199b83796426a18", func := "catchword/catchwordlaw10.DictReads", spec := "dictReads", unfollowed := true, recurses := true, apart := false }
def DictReadsSaid : Prop := dictReadsRow.holds Try.pinned (OpenSpec.ofChange dictReadsSpec)

/-- ITS FALSE NEIGHBOUR: 'it returns false'. Refute it at one input. -/
def dictReadsWrong : ChangeSpec := { name := "dictReads", fn := fun _ => fun
  | [d] => { results := [.lit (.bool false)], args := [d] }
  | _ => none }
def DictReadsWrongFalsely : Prop := dictReadsRow.holds Try.pinned (OpenSpec.ofChange dictReadsWrong)

/-- 'catchwordlaw10.DictTwo': WHATEVER THE INPUT: true; the input reads as it did. -/
def dictTwoSpec : ChangeSpec := { name := "dictTwo", fn := fun _ => fun
  | [d1, d2, d3] => { results := [.lit (.bool true)], args := [d1, d2, d3] }
  | _ => none }
def dictTwoRow : OpenClaim := { program := "ytbchmfkdhaggbaa", sum := "be84597077ce1da319c6b34d34a19093073ca7b8544f1b928199b83796426a18", func := "catchword/catchwordlaw10.DictTwo", spec := "dictTwo", unfollowed := true, recurses := true, apart := false }
def DictTwoSaid : Prop := dictTwoRow.holds Try.pinned (OpenSpec.ofChange dictTwoSpec)

/-- ITS FALSE NEIGHBOUR: 'it returns false'. Refute it at one input. -/
def dictTwoWrong : ChangeSpec := { name := "dictTwo", fn := fun _ => fun
  | [d1, d2, d3] => { results := [.lit (.bool false)], args := [d1, d2, d3] }
  | _ => none }
def DictTwoWrongFalsely : Prop := dictTwoRow.holds Try.pinned (OpenSpec.ofChange dictTwoWrong)

/-- 'catchwordlaw10.DictShares': WHATEVER THE INPUT: true; the input reads as it did. -/
def dictSharesSpec : ChangeSpec := { name := "dictShares", fn := fun _ => fun
  | [d1, d2] => { results := [.lit (.bool true)], args := [d1, d2] }
  | _ => none }
def dictSharesRow : OpenClaim := { program := "ytbchmfkdhaggbaa", sum := "be84597077ce1da319c6b34d34a19093073ca7b8544f1b928199b83796426a18", func := "catchword/catchwordlaw10.DictShares", spec := "dictShares", unfollowed := true, recurses := true, apart := false }
def DictSharesSaid : Prop := dictSharesRow.holds Try.pinned (OpenSpec.ofChange dictSharesSpec)

/-- ITS FALSE NEIGHBOUR: 'it returns false'. Refute it at one input. -/
def dictSharesWrong : ChangeSpec := { name := "dictShares", fn := fun _ => fun
  | [d1, d2] => { results := [.lit (.bool false)], args := [d1, d2] }
  | _ => none }
def DictSharesWrongFalsely : Prop := dictSharesRow.holds Try.pinned (OpenSpec.ofChange dictSharesWrong)

/- THE SECOND FORM. 'bulk': how many values and letters a reading holds, each counted each time it is reached (what is shared counts as often as it is met; a slice's spare places count too). A statement '..UptoSaid' is the law's where the arguments, and the package variables that the reading takes, are together of bulk at most 1048576: NARROWER than '..Said'. Prove '..Said' where nothing that the law and all that it calls make is longer than what came in: it says more and counts as full. Else prove '..UptoSaid'. A law counts once. -/
mutual
def uptoBulk {H : Type} : DataW H → Nat
  | .lit (.string bytes) => bytes.length + 1
  | .lit _ => 1
  | .nil => 1
  | .ptr d => uptoBulk d + 1
  | .slice elems spare => uptoBulkAll elems + uptoBulkAll spare + 1
  | .agg parts => uptoBulkAll parts + 1
  | .iface _ d => uptoBulk d + 1
  | .map entries => uptoBulkEntries entries + 1
  | .held _ => 1
def uptoBulkAll {H : Type} : List (DataW H) → Nat
  | [] => 0
  | d :: r => uptoBulk d + uptoBulkAll r
def uptoBulkEntries {H : Type} : List (Lit × DataW H) → Nat
  | [] => 0
  | x :: r => uptoBulkEntry x + uptoBulkEntries r
def uptoBulkEntry {H : Type} : Lit × DataW H → Nat
  | (.string bytes, d) => bytes.length + uptoBulk d + 1
  | (_, d) => uptoBulk d + 1
 end
def uptoSmall : (H : Type) → List (DataW H) → Bool := fun _ ds => decide (uptoBulkAll ds ≤ 1048576)
def OpenSpec.upto (s : _root_.Go.ChangeSpec) : _root_.Go.OpenSpec := { _root_.Go.OpenSpec.ofChange s with cond := some uptoSmall }

/-- 'catchwordlaw10.DictMakes', WHERE WHAT IT READS IS OF BULK AT MOST 1048576: true; the input reads as it did. -/
def dictMakesUptoRow : OpenClaim := { program := "ytbchmfkdhaggbaa", sum := "be84597077ce1da319c6b34d34a19093073ca7b8544f1b928199b83796426a18", func := "catchword/catchwordlaw10.DictMakes", spec := "dictMakes", unfollowed := true, recurses := true, apart := false, narrowed := true }
def DictMakesUptoSaid : Prop := dictMakesUptoRow.holds Try.pinned (OpenSpec.upto dictMakesSpec)

/-- 'catchwordlaw10.DictPrefixes', WHERE WHAT IT READS IS OF BULK AT MOST 1048576: true; the input reads as it did. -/
def dictPrefixesUptoRow : OpenClaim := { program := "ytbchmfkdhaggbaa", sum := "be84597077ce1da319c6b34d34a19093073ca7b8544f1b928199b83796426a18", func := "catchword/catchwordlaw10.DictPrefixes", spec := "dictPrefixes", unfollowed := true, recurses := true, apart := false, narrowed := true }
def DictPrefixesUptoSaid : Prop := dictPrefixesUptoRow.holds Try.pinned (OpenSpec.upto dictPrefixesSpec)

/-- 'catchwordlaw10.DictBytes', WHERE WHAT IT READS IS OF BULK AT MOST 1048576: true; the input reads as it did. -/
def dictBytesUptoRow : OpenClaim := { program := "ytbchmfkdhaggbaa", sum := "be84597077ce1da319c6b34d34a19093073ca7b8544f1b928199b83796426a18", func := "catchword/catchwordlaw10.DictBytes", spec := "dictBytes", unfollowed := true, recurses := true, apart := false, narrowed := true }
def DictBytesUptoSaid : Prop := dictBytesUptoRow.holds Try.pinned (OpenSpec.upto dictBytesSpec)

/-- 'catchwordlaw10.DictReads', WHERE WHAT IT READS IS OF BULK AT MOST 1048576: true; the input reads as it did. -/
def dictReadsUptoRow : OpenClaim := { program := "ytbchmfkdhaggbaa", sum := "be84597077ce1da319c6b34d34a19093073ca7b8544f1b928199b83796426a18", func := "catchword/catchwordlaw10.DictReads", spec := "dictReads", unfollowed := true, recurses := true, apart := false, narrowed := true }
def DictReadsUptoSaid : Prop := dictReadsUptoRow.holds Try.pinned (OpenSpec.upto dictReadsSpec)

/-- 'catchwordlaw10.DictTwo', WHERE WHAT IT READS IS OF BULK AT MOST 1048576: true; the input reads as it did. -/
def dictTwoUptoRow : OpenClaim := { program := "ytbchmfkdhaggbaa", sum := "be84597077ce1da319c6b34d34a19093073ca7b8544f1b928199b83796426a18", func := "catchword/catchwordlaw10.DictTwo", spec := "dictTwo", unfollowed := true, recurses := true, apart := false, narrowed := true }
def DictTwoUptoSaid : Prop := dictTwoUptoRow.holds Try.pinned (OpenSpec.upto dictTwoSpec)

/-- 'catchwordlaw10.DictShares', WHERE WHAT IT READS IS OF BULK AT MOST 1048576: true; the input reads as it did. -/
def dictSharesUptoRow : OpenClaim := { program := "ytbchmfkdhaggbaa", sum := "be84597077ce1da319c6b34d34a19093073ca7b8544f1b928199b83796426a18", func := "catchword/catchwordlaw10.DictShares", spec := "dictShares", unfollowed := true, recurses := true, apart := false, narrowed := true }
def DictSharesUptoSaid : Prop := dictSharesUptoRow.holds Try.pinned (OpenSpec.upto dictSharesSpec)

end Rows
end Go.Proofs.Ytbchmfkdhaggbaa
