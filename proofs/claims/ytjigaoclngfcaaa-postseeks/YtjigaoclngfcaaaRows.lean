/-
  No cell of these rows narrows 'for every input' (looked for: loops, veiled, ifaces, maps, wideKeys, modest, calm, conditions, laid).
  DERIVED. THE GIVEN ROWS OF THIS SEAT. 11 by the template 'for every input the law returns true; each argument reads behind the call as it read before'; 0 by the template 'total and deterministic' (their statements: YtjigaoclngfcaaaTotals.lean).
  GIVEN WITH THE SEED: the statements are not yours to turn. If you find one false, say at which input.
  Laid BY PROGRAM, IN A SANDBOX (cutbox-rows.mjs): the forced cells as the released guide's own fill.sh prints them over the translation add7a992321c5442… (all of the seat's roots in one cut). By AI agents, Wed Nov 11 2026. No macro, syntax, notation, axiom, sorry.
-/
import Derived.Test.YtjigaoclngfcaaaChecked
import GoSem.Claim
import GoSem.ClaimJoined
import GoSem.ClaimMapViews
import Derived.JoinedTies
import Derived.KernelRfl
namespace Go.Proofs.Ytjigaoclngfcaaa
/- THE CELL 'sum', in the pinned program and in every row, IS THE sha256 OF THE DUMP (.gsa) THAT YtjigaoclngfcaaaProg.lean LOADS. Nothing in Lean hashes anything: it is a label: what it is worth is what the hold of that sum in a sandbox is worth. -/
noncomputable def Try.pinned : Pinned := { name := "ytjigaoclngfcaaa", sum := "add7a992321c54421f40b03aa13bb87da027cefac23a01f06c1c06c78103d433", checked := Try.checked }
namespace Rows
def none {H : Type} : Left H := { results := [], args := [] }

/-- 'catchwordlaw09.PostBytes': WHATEVER THE INPUT: true; the input reads as it did. -/
def postBytesSpec : ChangeSpec := { name := "postBytes", fn := fun _ => fun
  | [d] => { results := [.lit (.bool true)], args := [d] }
  | _ => none }
def postBytesRow : OpenClaim := { program := "ytjigaoclngfcaaa", sum := "add7a992321c54421f40b03aa13bb87da027cefac23a01f06c1c06c78103d433", func := "catchword/catchwordlaw09.PostBytes", spec := "postBytes", unfollowed := true, recurses := true, apart := false }
def PostBytesSaid : Prop := postBytesRow.holds Try.pinned (OpenSpec.ofChange postBytesSpec)

/-- ITS FALSE NEIGHBOUR: 'it returns false'. Refute it at one input. -/
def postBytesWrong : ChangeSpec := { name := "postBytes", fn := fun _ => fun
  | [d] => { results := [.lit (.bool false)], args := [d] }
  | _ => none }
def PostBytesWrongFalsely : Prop := postBytesRow.holds Try.pinned (OpenSpec.ofChange postBytesWrong)

/-- 'catchwordlaw09.PostReads': WHATEVER THE INPUT: true; the input reads as it did. -/
def postReadsSpec : ChangeSpec := { name := "postReads", fn := fun _ => fun
  | [d] => { results := [.lit (.bool true)], args := [d] }
  | _ => none }
def postReadsRow : OpenClaim := { program := "ytjigaoclngfcaaa", sum := "add7a992321c54421f40b03aa13bb87da027cefac23a01f06c1c06c78103d433", func := "catchword/catchwordlaw09.PostReads", spec := "postReads", unfollowed := true, recurses := true, apart := false }
def PostReadsSaid : Prop := postReadsRow.holds Try.pinned (OpenSpec.ofChange postReadsSpec)

/-- ITS FALSE NEIGHBOUR: 'it returns false'. Refute it at one input. -/
def postReadsWrong : ChangeSpec := { name := "postReads", fn := fun _ => fun
  | [d] => { results := [.lit (.bool false)], args := [d] }
  | _ => none }
def PostReadsWrongFalsely : Prop := postReadsRow.holds Try.pinned (OpenSpec.ofChange postReadsWrong)

/-- 'catchwordlaw09.PostSeeks': WHATEVER THE INPUT: true; the input reads as it did. -/
def postSeeksSpec : ChangeSpec := { name := "postSeeks", fn := fun _ => fun
  | [d1, d2] => { results := [.lit (.bool true)], args := [d1, d2] }
  | _ => none }
def postSeeksRow : OpenClaim := { program := "ytjigaoclngfcaaa", sum := "add7a992321c54421f40b03aa13bb87da027cefac23a01f06c1c06c78103d433", func := "catchword/catchwordlaw09.PostSeeks", spec := "postSeeks", unfollowed := true, recurses := true, apart := false }
def PostSeeksSaid : Prop := postSeeksRow.holds Try.pinned (OpenSpec.ofChange postSeeksSpec)

/-- ITS FALSE NEIGHBOUR: 'it returns false'. Refute it at one input. -/
def postSeeksWrong : ChangeSpec := { name := "postSeeks", fn := fun _ => fun
  | [d1, d2] => { results := [.lit (.bool false)], args := [d1, d2] }
  | _ => none }
def PostSeeksWrongFalsely : Prop := postSeeksRow.holds Try.pinned (OpenSpec.ofChange postSeeksWrong)

/-- 'catchwordlaw09.PostSkips': WHATEVER THE INPUT: true; the input reads as it did. -/
def postSkipsSpec : ChangeSpec := { name := "postSkips", fn := fun _ => fun
  | [d1, d2] => { results := [.lit (.bool true)], args := [d1, d2] }
  | _ => none }
def postSkipsRow : OpenClaim := { program := "ytjigaoclngfcaaa", sum := "add7a992321c54421f40b03aa13bb87da027cefac23a01f06c1c06c78103d433", func := "catchword/catchwordlaw09.PostSkips", spec := "postSkips", unfollowed := true, recurses := true, apart := false }
def PostSkipsSaid : Prop := postSkipsRow.holds Try.pinned (OpenSpec.ofChange postSkipsSpec)

/-- ITS FALSE NEIGHBOUR: 'it returns false'. Refute it at one input. -/
def postSkipsWrong : ChangeSpec := { name := "postSkips", fn := fun _ => fun
  | [d1, d2] => { results := [.lit (.bool false)], args := [d1, d2] }
  | _ => none }
def PostSkipsWrongFalsely : Prop := postSkipsRow.holds Try.pinned (OpenSpec.ofChange postSkipsWrong)

/-- 'catchwordlaw09.PostWithin': WHATEVER THE INPUT: true; the input reads as it did. -/
def postWithinSpec : ChangeSpec := { name := "postWithin", fn := fun _ => fun
  | [d1, d2, d3] => { results := [.lit (.bool true)], args := [d1, d2, d3] }
  | _ => none }
def postWithinRow : OpenClaim := { program := "ytjigaoclngfcaaa", sum := "add7a992321c54421f40b03aa13bb87da027cefac23a01f06c1c06c78103d433", func := "catchword/catchwordlaw09.PostWithin", spec := "postWithin", unfollowed := true, recurses := true, apart := false }
def PostWithinSaid : Prop := postWithinRow.holds Try.pinned (OpenSpec.ofChange postWithinSpec)

/-- ITS FALSE NEIGHBOUR: 'it returns false'. Refute it at one input. -/
def postWithinWrong : ChangeSpec := { name := "postWithin", fn := fun _ => fun
  | [d1, d2, d3] => { results := [.lit (.bool false)], args := [d1, d2, d3] }
  | _ => none }
def PostWithinWrongFalsely : Prop := postWithinRow.holds Try.pinned (OpenSpec.ofChange postWithinWrong)

/-- 'catchwordlaw09.PostMany': WHATEVER THE INPUT: true; the input reads as it did. -/
def postManySpec : ChangeSpec := { name := "postMany", fn := fun _ => fun
  | [d1, d2, d3] => { results := [.lit (.bool true)], args := [d1, d2, d3] }
  | _ => none }
def postManyRow : OpenClaim := { program := "ytjigaoclngfcaaa", sum := "add7a992321c54421f40b03aa13bb87da027cefac23a01f06c1c06c78103d433", func := "catchword/catchwordlaw09.PostMany", spec := "postMany", unfollowed := true, recurses := true, apart := false }
def PostManySaid : Prop := postManyRow.holds Try.pinned (OpenSpec.ofChange postManySpec)

/-- ITS FALSE NEIGHBOUR: 'it returns false'. Refute it at one input. -/
def postManyWrong : ChangeSpec := { name := "postMany", fn := fun _ => fun
  | [d1, d2, d3] => { results := [.lit (.bool false)], args := [d1, d2, d3] }
  | _ => none }
def PostManyWrongFalsely : Prop := postManyRow.holds Try.pinned (OpenSpec.ofChange postManyWrong)

/-- 'catchwordlaw09.PostCuts': WHATEVER THE INPUT: true; the input reads as it did. -/
def postCutsSpec : ChangeSpec := { name := "postCuts", fn := fun _ => fun
  | [d1, d2, d3] => { results := [.lit (.bool true)], args := [d1, d2, d3] }
  | _ => none }
def postCutsRow : OpenClaim := { program := "ytjigaoclngfcaaa", sum := "add7a992321c54421f40b03aa13bb87da027cefac23a01f06c1c06c78103d433", func := "catchword/catchwordlaw09.PostCuts", spec := "postCuts", unfollowed := true, recurses := true, apart := false }
def PostCutsSaid : Prop := postCutsRow.holds Try.pinned (OpenSpec.ofChange postCutsSpec)

/-- ITS FALSE NEIGHBOUR: 'it returns false'. Refute it at one input. -/
def postCutsWrong : ChangeSpec := { name := "postCuts", fn := fun _ => fun
  | [d1, d2, d3] => { results := [.lit (.bool false)], args := [d1, d2, d3] }
  | _ => none }
def PostCutsWrongFalsely : Prop := postCutsRow.holds Try.pinned (OpenSpec.ofChange postCutsWrong)

/-- 'catchwordlaw10.DictMakes': WHATEVER THE INPUT: true; the input reads as it did. -/
def dictMakesSpec : ChangeSpec := { name := "dictMakes", fn := fun _ => fun
  | [d1, d2, d3] => { results := [.lit (.bool true)], args := [d1, d2, d3] }
  | _ => none }
def dictMakesRow : OpenClaim := { program := "ytjigaoclngfcaaa", sum := "add7a992321c54421f40b03aa13bb87da027cefac23a01f06c1c06c78103d433", func := "catchword/catchwordlaw10.DictMakes", spec := "dictMakes", unfollowed := true, recurses := true, apart := false }
def DictMakesSaid : Prop := dictMakesRow.holds Try.pinned (OpenSpec.ofChange dictMakesSpec)

/-- ITS FALSE NEIGHBOUR: 'it returns false'. Refute it at one input. -/
def dictMakesWrong : ChangeSpec := { name := "dictMakes", fn := fun _ => fun
  | [d1, d2, d3] => { results := [.lit (.bool false)], args := [d1, d2, d3] }
  | _ => none }
def DictMakesWrongFalsely : Prop := dictMakesRow.holds Try.pinned (OpenSpec.ofChange dictMakesWrong)

/-- 'catchwordlaw10.DictBytes': WHATEVER THE INPUT: true; the input reads as it did. -/
def dictBytesSpec : ChangeSpec := { name := "dictBytes", fn := fun _ => fun
  | [d1, d2, d3] => { results := [.lit (.bool true)], args := [d1, d2, d3] }
  | _ => none }
def dictBytesRow : OpenClaim := { program := "ytjigaoclngfcaaa", sum := "add7a992321c54421f40b03aa13bb87da027cefac23a01f06c1c06c78103d433", func := "catchword/catchwordlaw10.DictBytes", spec := "dictBytes", unfollowed := true, recurses := true, apart := false }
def DictBytesSaid : Prop := dictBytesRow.holds Try.pinned (OpenSpec.ofChange dictBytesSpec)

/-- ITS FALSE NEIGHBOUR: 'it returns false'. Refute it at one input. -/
def dictBytesWrong : ChangeSpec := { name := "dictBytes", fn := fun _ => fun
  | [d1, d2, d3] => { results := [.lit (.bool false)], args := [d1, d2, d3] }
  | _ => none }
def DictBytesWrongFalsely : Prop := dictBytesRow.holds Try.pinned (OpenSpec.ofChange dictBytesWrong)

/-- 'catchwordlaw10.DictReads': WHATEVER THE INPUT: true; the input reads as it did. -/
def dictReadsSpec : ChangeSpec := { name := "dictReads", fn := fun _ => fun
  | [d] => { results := [.lit (.bool true)], args := [d] }
  | _ => none }
def dictReadsRow : OpenClaim := { program := "ytjigaoclngfcaaa", sum := "add7a992321c54421f40b03aa13bb87da027cefac23a01f06c1c06c78103d433", func := "catchword/catchwordlaw10.DictReads", spec := "dictReads", unfollowed := true, recurses := true, apart := false }
def DictReadsSaid : Prop := dictReadsRow.holds Try.pinned (OpenSpec.ofChange dictReadsSpec)

/-- ITS FALSE NEIGHBOUR: 'it returns false'. Refute it at one input. -/
def dictReadsWrong : ChangeSpec := { name := "dictReads", fn := fun _ => fun
  | [d] => { results := [.lit (.bool false)], args := [d] }
  | _ => none }
def DictReadsWrongFalsely : Prop := dictReadsRow.holds Try.pinned (OpenSpec.ofChange dictReadsWrong)

/-- 'catchwordlaw10.DictShares': WHATEVER THE INPUT: true; the input reads as it did. -/
def dictSharesSpec : ChangeSpec := { name := "dictShares", fn := fun _ => fun
  | [d1, d2] => { results := [.lit (.bool true)], args := [d1, d2] }
  | _ => none }
def dictSharesRow : OpenClaim := { program := "ytjigaoclngfcaaa", sum := "add7a992321c54421f40b03aa13bb87da027cefac23a01f06c1c06c78103d433", func := "catchword/catchwordlaw10.DictShares", spec := "dictShares", unfollowed := true, recurses := true, apart := false }
def DictSharesSaid : Prop := dictSharesRow.holds Try.pinned (OpenSpec.ofChange dictSharesSpec)

/-- ITS FALSE NEIGHBOUR: 'it returns false'. Refute it at one input. -/
def dictSharesWrong : ChangeSpec := { name := "dictShares", fn := fun _ => fun
  | [d1, d2] => { results := [.lit (.bool false)], args := [d1, d2] }
  | _ => none }
def DictSharesWrongFalsely : Prop := dictSharesRow.holds Try.pinned (OpenSpec.ofChange dictSharesWrong)

/- THE SECOND FORM. 'bulk': how many values and letters a reading holds, each counted each time it is reached (what is shared counts as often as it is met; a slice's spare places count too). A statement '..UptoSaid' is the law's where the arguments, and the package variables that the reading takes, are together of bulk at most 1048576: NARROWER than '..Said'. Prove '..Said' where nothing that the law and all that it calls make is longer than what came in: it says more and counts as full. Else prove '..UptoSaid'. A law counts once. -/
mutual
def uptoBulk {H : Type} : DataW H → Nat
  | .lit (.string bytes) => bytes.length + 1
  | .lit _ => 1
  | .nil => 1
  | .ptr d => uptoBulk d + 1
  | .slice elems spare => uptoBulkAll elems + uptoBulkAll spare + 1
  | .agg parts => uptoBulkAll parts + 1
  | .iface _ d => uptoBulk d + 1
  | .map entries => uptoBulkEntries entries + 1
  | .held _ => 1
def uptoBulkAll {H : Type} : List (DataW H) → Nat
  | [] => 0
  | d :: r => uptoBulk d + uptoBulkAll r
def uptoBulkEntries {H : Type} : List (Lit × DataW H) → Nat
  | [] => 0
  | x :: r => uptoBulkEntry x + uptoBulkEntries r
def uptoBulkEntry {H : Type} : Lit × DataW H → Nat
  | (.string bytes, d) => bytes.length + uptoBulk d + 1
  | (_, d) => uptoBulk d + 1
 end
def uptoSmall : (H : Type) → List (DataW H) → Bool := fun _ ds => decide (uptoBulkAll ds ≤ 1048576)
def OpenSpec.upto (s : _root_.Go.ChangeSpec) : _root_.Go.OpenSpec := { _root_.Go.OpenSpec.ofChange s with cond := some uptoSmall }

/-- 'catchwordlaw09.PostBytes', WHERE WHAT IT READS IS OF BULK AT MOST 1048576: true; the input reads as it did. -/
def postBytesUptoRow : OpenClaim := { program := "ytjigaoclngfcaaa", sum := "add7a992321c54421f40b03aa13bb87da027cefac23a01f06c1c06c78103d433", func := "catchword/catchwordlaw09.PostBytes", spec := "postBytes", unfollowed := true, recurses := true, apart := false, narrowed := true }
def PostBytesUptoSaid : Prop := postBytesUptoRow.holds Try.pinned (OpenSpec.upto postBytesSpec)

/-- 'catchwordlaw09.PostReads', WHERE WHAT IT READS IS OF BULK AT MOST 1048576: true; the input reads as it did. -/
def postReadsUptoRow : OpenClaim := { program := "ytjigaoclngfcaaa", sum := "add7a992321c54421f40b03aa13bb87da027cefac23a01f06c1c06c78103d433", func := "catchword/catchwordlaw09.PostReads", spec := "postReads", unfollowed := true, recurses := true, apart := false, narrowed := true }
def PostReadsUptoSaid : Prop := postReadsUptoRow.holds Try.pinned (OpenSpec.upto postReadsSpec)

/-- 'catchwordlaw09.PostSeeks', WHERE WHAT IT READS IS OF BULK AT MOST 1048576: true; the input reads as it did. -/
def postSeeksUptoRow : OpenClaim := { program := "ytjigaoclngfcaaa", sum := "add7a992321c54421f40b03aa13bb87da027cefac23a01f06c1c06c78103d433", func := "catchword/catchwordlaw09.PostSeeks", spec := "postSeeks", unfollowed := true, recurses := true, apart := false, narrowed := true }
def PostSeeksUptoSaid : Prop := postSeeksUptoRow.holds Try.pinned (OpenSpec.upto postSeeksSpec)

/-- 'catchwordlaw09.PostSkips', WHERE WHAT IT READS IS OF BULK AT MOST 1048576: true; the input reads as it did. -/
def postSkipsUptoRow : OpenClaim := { program := "ytjigaoclngfcaaa", sum := "add7a992321c54421f40b03aa13bb87da027cefac23a01f06c1c06c78103d433", func := "catchword/catchwordlaw09.PostSkips", spec := "postSkips", unfollowed := true, recurses := true, apart := false, narrowed := true }
def PostSkipsUptoSaid : Prop := postSkipsUptoRow.holds Try.pinned (OpenSpec.upto postSkipsSpec)

/-- 'catchwordlaw09.PostWithin', WHERE WHAT IT READS IS OF BULK AT MOST 1048576: true; the input reads as it did. -/
def postWithinUptoRow : OpenClaim := { program := "ytjigaoclngfcaaa", sum := "add7a992321c54421f40b03aa13bb87da027cefac23a01f06c1c06c78103d433", func := "catchword/catchwordlaw09.PostWithin", spec := "postWithin", unfollowed := true, recurses := true, apart := false, narrowed := true }
def PostWithinUptoSaid : Prop := postWithinUptoRow.holds Try.pinned (OpenSpec.upto postWithinSpec)

/-- 'catchwordlaw09.PostMany', WHERE WHAT IT READS IS OF BULK AT MOST 1048576: true; the input reads as it did. -/
def postManyUptoRow : OpenClaim := { program := "ytjigaoclngfcaaa", sum := "add7a992321c54421f40b03aa13bb87da027cefac23a01f06c1c06c78103d433", func := "catchword/catchwordlaw09.PostMany", spec := "postMany", unfollowed := true, recurses := true, apart := false, narrowed := true }
def PostManyUptoSaid : Prop := postManyUptoRow.holds Try.pinned (OpenSpec.upto postManySpec)

/-- 'catchwordlaw09.PostCuts', WHERE WHAT IT READS IS OF BULK AT MOST 1048576: true; the input reads as it did. -/
def postCutsUptoRow : OpenClaim := { program := "ytjigaoclngfcaaa", sum := "add7a992321c54421f40b03aa13bb87da027cefac23a01f06c1c06c78103d433", func := "catchword/catchwordlaw09.PostCuts", spec := "postCuts", unfollowed := true, recurses := true, apart := false, narrowed := true }
def PostCutsUptoSaid : Prop := postCutsUptoRow.holds Try.pinned (OpenSpec.upto postCutsSpec)

/-- 'catchwordlaw10.DictMakes', WHERE WHAT IT READS IS OF BULK AT MOST 1048576: true; the input reads as it did. -/
def dictMakesUptoRow : OpenClaim := { program := "ytjigaoclngfcaaa", sum := "add7a992321c54421f40b03aa13bb87da027cefac23a01f06c1c06c78103d433", func := "catchword/catchwordlaw10.DictMakes", spec := "dictMakes", unfollowed := true, recurses := true, apart := false, narrowed := true }
def DictMakesUptoSaid : Prop := dictMakesUptoRow.holds Try.pinned (OpenSpec.upto dictMakesSpec)

/-- 'catchwordlaw10.DictBytes', WHERE WHAT IT READS IS OF BULK AT MOST 1048576: true; the input reads as it did. -/
def dictBytesUptoRow : OpenClaim := { program := "ytjigaoclngfcaaa", sum := "add7a992321c54421f40b03aa13bb87da027cefac23a01f06c1c06c78103d433", func := "catchword/catchwordlaw10.DictBytes", spec := "dictBytes", unfollowed := true, recurses := true, apart := false, narrowed := true }
def DictBytesUptoSaid : Prop := dictBytesUptoRow.holds Try.pinned (OpenSpec.upto dictBytesSpec)

/-- 'catchwordlaw10.DictReads', WHERE WHAT IT READS IS OF BULK AT MOST 1048576: true; the input reads as it did. -/
def dictReadsUptoRow : OpenClaim := { program := "ytjigaoclngfcaaa", sum := "add7a992321c54421f40b03aa13bb87da027cefac23a01f06c1c06c78103d433", func := "catchword/catchwordlaw10.DictReads", spec := "dictReads", unfollowed := true, recurses := true, apart := false, narrowed := true }
def DictReadsUptoSaid : Prop := dictReadsUptoRow.holds Try.pinned (OpenSpec.upto dictReadsSpec)

/-- 'catchwordlaw10.DictShares', WHERE WHAT IT READS IS OF BULK AT MOST 1048576: true; the input reads as it did. -/
def dictSharesUptoRow : OpenClaim := { program := "ytjigaoclngfcaaa", sum := "add7a992321c54421f40b03aa13bb87da027cefac23a01f06c1c06c78103d433", func := "catchword/catchwordlaw10.DictShares", spec := "dictShares", unfollowed := true, recurses := true, apart := false, narrowed := true }
def DictSharesUptoSaid : Prop := dictSharesUptoRow.holds Try.pinned (OpenSpec.upto dictSharesSpec)

end Rows
end Go.Proofs.Ytjigaoclngfcaaa
