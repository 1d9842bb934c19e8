/-
  No cell of these rows narrows 'for every input' (looked for: loops, veiled, ifaces, maps, wideKeys, modest, calm, conditions, laid).
  DERIVED. THE GIVEN ROWS OF THIS SEAT. 4 by the template 'for every input the law returns true; each argument reads behind the call as it read before'; 0 by the template 'total and deterministic' (their statements: YtafbjadlklcicaaTotals.lean).
  GIVEN WITH THE SEED: the statements are not yours to turn. If you find one false, say at which input.
  Laid BY PROGRAM, IN A SANDBOX (cutbox-rows.mjs): the forced cells as the released guide's own fill.sh prints them over the translation 8bfb58d47508bdc3… (all of the seat's roots in one cut). By AI agents, Wed Nov 11 2026. No macro, syntax, notation, axiom, sorry.
-/
import Derived.Test.YtafbjadlklcicaaChecked
import GoSem.Claim
import GoSem.ClaimJoined
import GoSem.ClaimMapViews
import Derived.JoinedTies
import Derived.KernelRfl
namespace Go.Proofs.Ytafbjadlklcicaa
/- THE CELL 'sum', in the pinned program and in every row, IS THE sha256 OF THE DUMP (.gsa) THAT YtafbjadlklcicaaProg.lean LOADS. Nothing in Lean hashes anything: it is a label: what it is worth is what the hold of that sum in a sandbox is worth. -/
noncomputable def Try.pinned : Pinned := { name := "ytafbjadlklcicaa", sum := "8bfb58d47508bdc3003e6165559db0dc1436960e7757c9b57c1261e447104a4a", checked := Try.checked }
namespace Rows
def none {H : Type} : Left H := { results := [], args := [] }

/-- 'catchwordlaw12.MatchOrders': WHATEVER THE INPUT: true; the input reads as it did. -/
def matchOrdersSpec : ChangeSpec := { name := "matchOrders", fn := fun _ => fun
  | [d] => { results := [.lit (.bool true)], args := [d] }
  | _ => none }
def matchOrdersRow : OpenClaim := { program := "ytafbjadlklcicaa", sum := "8bfb58d47508bdc3003e6165559db0dc1436960e7757c9b57c1261e447104a4a", func := "catchword/catchwordlaw12.MatchOrders", spec := "matchOrders", unfollowed := true, recurses := true, apart := false }
def MatchOrdersSaid : Prop := matchOrdersRow.holds Try.pinned (OpenSpec.ofChange matchOrdersSpec)

/-- ITS FALSE NEIGHBOUR: 'it returns false'. Refute it at one input. -/
def matchOrdersWrong : ChangeSpec := { name := "matchOrders", fn := fun _ => fun
  | [d] => { results := [.lit (.bool false)], args := [d] }
  | _ => none }
def MatchOrdersWrongFalsely : Prop := matchOrdersRow.holds Try.pinned (OpenSpec.ofChange matchOrdersWrong)

/-- 'catchwordlaw12.MatchWindows': WHATEVER THE INPUT: true; the input reads as it did. -/
def matchWindowsSpec : ChangeSpec := { name := "matchWindows", fn := fun _ => fun
  | [d1, d2, d3, d4, d5] => { results := [.lit (.bool true)], args := [d1, d2, d3, d4, d5] }
  | _ => none }
def matchWindowsRow : OpenClaim := { program := "ytafbjadlklcicaa", sum := "8bfb58d47508bdc3003e6165559db0dc1436960e7757c9b57c1261e447104a4a", func := "catchword/catchwordlaw12.MatchWindows", spec := "matchWindows", unfollowed := true, recurses := true, apart := false }
def MatchWindowsSaid : Prop := matchWindowsRow.holds Try.pinned (OpenSpec.ofChange matchWindowsSpec)

/-- ITS FALSE NEIGHBOUR: 'it returns false'. Refute it at one input. -/
def matchWindowsWrong : ChangeSpec := { name := "matchWindows", fn := fun _ => fun
  | [d1, d2, d3, d4, d5] => { results := [.lit (.bool false)], args := [d1, d2, d3, d4, d5] }
  | _ => none }
def MatchWindowsWrongFalsely : Prop := matchWindowsRow.holds Try.pinned (OpenSpec.ofChange matchWindowsWrong)

/-- 'catchwordlaw12.MatchDistances': WHATEVER THE INPUT: true; the input reads as it did. -/
def matchDistancesSpec : ChangeSpec := { name := "matchDistances", fn := fun _ => fun
  | [d1, d2, d3, d4] => { results := [.lit (.bool true)], args := [d1, d2, d3, d4] }
  | _ => none }
def matchDistancesRow : OpenClaim := { program := "ytafbjadlklcicaa", sum := "8bfb58d47508bdc3003e6165559db0dc1436960e7757c9b57c1261e447104a4a", func := "catchword/catchwordlaw12.MatchDistances", spec := "matchDistances", unfollowed := true, recurses := true, apart := false }
def MatchDistancesSaid : Prop := matchDistancesRow.holds Try.pinned (OpenSpec.ofChange matchDistancesSpec)

/-- ITS FALSE NEIGHBOUR: 'it returns false'. Refute it at one input. -/
def matchDistancesWrong : ChangeSpec := { name := "matchDistances", fn := fun _ => fun
  | [d1, d2, d3, d4] => { results := [.lit (.bool false)], args := [d1, d2, d3, d4] }
  | _ => none }
def MatchDistancesWrongFalsely : Prop := matchDistancesRow.holds Try.pinned (OpenSpec.ofChange matchDistancesWrong)

/-- 'catchwordlaw12.MatchAgain': WHATEVER THE INPUT: true; the input reads as it did. -/
def matchAgainSpec : ChangeSpec := { name := "matchAgain", fn := fun _ => fun
  | [d1, d2, d3, d4] => { results := [.lit (.bool true)], args := [d1, d2, d3, d4] }
  | _ => none }
def matchAgainRow : OpenClaim := { program := "ytafbjadlklcicaa", sum := "8bfb58d47508bdc3003e6165559db0dc1436960e7757c9b57c1261e447104a4a", func := "catchword/catchwordlaw12.MatchAgain", spec := "matchAgain", unfollowed := true, recurses := true, apart := false }
def MatchAgainSaid : Prop := matchAgainRow.holds Try.pinned (OpenSpec.ofChange matchAgainSpec)

/-- ITS FALSE NEIGHBOUR: 'it returns false'. Refute it at one input. -/
def matchAgainWrong : ChangeSpec := { name := "matchAgain", fn := fun _ => fun
  | [d1, d2, d3, d4] => { results := [.lit (.bool false)], args := [d1, d2, d3, d4] }
  | _ => none }
def MatchAgainWrongFalsely : Prop := matchAgainRow.holds Try.pinned (OpenSpec.ofChange matchAgainWrong)

/- THE SECOND FORM. 'bulk': how many values and letters a reading holds, each counted each time it is reached (what is shared counts as often as it is met; a slice's spare places count too). A statement '..UptoSaid' is the law's where the arguments, and the package variables that the reading takes, are together of bulk at most 1048576: NARROWER than '..Said'. Prove '..Said' where nothing that the law and all that it calls make is longer than what came in: it says more and counts as full. Else prove '..UptoSaid'. A law counts once. -/
mutual
def uptoBulk {H : Type} : DataW H → Nat
  | .lit (.string bytes) => bytes.length + 1
  | .lit _ => 1
  | .nil => 1
  | .ptr d => uptoBulk d + 1
  | .slice elems spare => uptoBulkAll elems + uptoBulkAll spare + 1
  | .agg parts => uptoBulkAll parts + 1
  | .iface _ d => uptoBulk d + 1
  | .map entries => uptoBulkEntries entries + 1
  | .held _ => 1
def uptoBulkAll {H : Type} : List (DataW H) → Nat
  | [] => 0
  | d :: r => uptoBulk d + uptoBulkAll r
def uptoBulkEntries {H : Type} : List (Lit × DataW H) → Nat
  | [] => 0
  | x :: r => uptoBulkEntry x + uptoBulkEntries r
def uptoBulkEntry {H : Type} : Lit × DataW H → Nat
  | (.string bytes, d) => bytes.length + uptoBulk d + 1
  | (_, d) => uptoBulk d + 1
 end
def uptoSmall : (H : Type) → List (DataW H) → Bool := fun _ ds => decide (uptoBulkAll ds ≤ 1048576)
def OpenSpec.upto (s : _root_.Go.ChangeSpec) : _root_.Go.OpenSpec := { _root_.Go.OpenSpec.ofChange s with cond := some uptoSmall }

/-- 'catchwordlaw12.MatchOrders', WHERE WHAT IT READS IS OF BULK AT MOST 1048576: true; the input reads as it did. -/
def matchOrdersUptoRow : OpenClaim := { program := "ytafbjadlklcicaa", sum := "8bfb58d47508bdc3003e6165559db0dc1436960e7757c9b57c1261e447104a4a", func := "catchword/catchwordlaw12.MatchOrders", spec := "matchOrders", unfollowed := true, recurses := true, apart := false, narrowed := true }
def MatchOrdersUptoSaid : Prop := matchOrdersUptoRow.holds Try.pinned (OpenSpec.upto matchOrdersSpec)

/-- 'catchwordlaw12.MatchWindows', WHERE WHAT IT READS IS OF BULK AT MOST 1048576: true; the input reads as it did. -/
def matchWindowsUptoRow : OpenClaim := { program := "ytafbjadlklcicaa", sum := "8bfb58d47508bdc3003e6165559db0dc1436960e7757c9b57c1261e447104a4a", func := "catchword/catchwordlaw12.MatchWindows", spec := "matchWindows", unfollowed := true, recurses := true, apart := false, narrowed := true }
def MatchWindowsUptoSaid : Prop := matchWindowsUptoRow.holds Try.pinned (OpenSpec.upto matchWindowsSpec)

/-- 'catchwordlaw12.MatchDistances', WHERE WHAT IT READS IS OF BULK AT MOST 1048576: true; the input reads as it did. -/
def matchDistancesUptoRow : OpenClaim := { program := "ytafbjadlklcicaa", sum := "8bfb58d47508bdc3003e6165559db0dc1436960e7757c9b57c1261e447104a4a", func := "catchword/catchwordlaw12.MatchDistances", spec := "matchDistances", unfollowed := true, recurses := true, apart := false, narrowed := true }
def MatchDistancesUptoSaid : Prop := matchDistancesUptoRow.holds Try.pinned (OpenSpec.upto matchDistancesSpec)

/-- 'catchwordlaw12.MatchAgain', WHERE WHAT IT READS IS OF BULK AT MOST 1048576: true; the input reads as it did. -/
def matchAgainUptoRow : OpenClaim := { program := "ytafbjadlklcicaa", sum := "8bfb58d47508bdc3003e6165559db0dc1436960e7757c9b57c1261e447104a4a", func := "catchword/catchwordlaw12.MatchAgain", spec := "matchAgain", unfollowed := true, recurses := true, apart := false, narrowed := true }
def MatchAgainUptoSaid : Prop := matchAgainUptoRow.holds Try.pinned (OpenSpec.upto matchAgainSpec)

end Rows
end Go.Proofs.Ytafbjadlklcicaa
