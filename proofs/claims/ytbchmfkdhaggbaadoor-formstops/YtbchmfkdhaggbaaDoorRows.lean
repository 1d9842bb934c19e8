/-
  NARROWER THAN 'FOR EVERY INPUT', by the rows' own cells (each row's printed sentence says how): FormWords: laid · FormGlobs: laid · FormPrefixes: laid · FormStops: laid · FormWider: laid.
  DERIVED. THE GIVEN ROWS OF THIS SEAT. 5 by the template 'for every input the law returns true; each argument reads behind the call as it read before'; 0 by the template 'total and deterministic' (their statements: YtbchmfkdhaggbaaDoorTotals.lean).
  GIVEN WITH THE SEED: the statements are not yours to turn. If you find one false, say at which input.
  Laid BY PROGRAM, IN A SANDBOX (cutbox-rows.mjs): the forced cells as the released guide's own fill.sh prints them over the translation 62c305054fef8e08… (all of the seat's roots in one cut). By AI agents, Wed Nov 11 2026. No macro, syntax, notation, axiom, sorry.
-/
import Derived.Test.YtbchmfkdhaggbaaDoorChecked
import GoSem.PinnedTables
import GoSem.Claim
import GoSem.ClaimJoined
import GoSem.ClaimMapViews
import Derived.JoinedTies
import Derived.KernelRfl
namespace Go.Proofs.YtbchmfkdhaggbaaDoor
/- THE CELL 'sum', in the pinned program and in every row, IS THE sha256 OF THE DUMP (.gsa) THAT YtbchmfkdhaggbaaDoorProg.lean LOADS. Nothing in Lean hashes anything: it is a label: what it is worth is what the hold of that sum in a sandbox is worth. -/
noncomputable def Tryd.pinned : Pinned := { name := "ytbchmfkdhaggbaadoor", sum := "62c305054fef8e082c2bb93e8f6ff07539a76e54785a29b8fc6b6efa9a26cc5e", checked := Tryd.checked }
namespace Rows
def none {H : Type} : Left H := { results := [], args := [] }

/- WHAT THE LISTED PACKAGE-LEVEL VARIABLES READ AS WHEN THE CALL BEGINS. Each datum BY PROGRAM (the guide's laid-datum.mjs) off the statement by which the dump's own 'gosem.cut.vars' lays the variable. In a bare row this is a premise. The card (YtbchmfkdhaggbaaDoorCards.lean) ties it to the program's text. -/
def laid_unicode_utf8_acceptRanges {H : Type} : DataW H := .agg [.agg [.lit (.int .u8 128), .lit (.int .u8 191)], .agg [.lit (.int .u8 160), .lit (.int .u8 191)], .agg [.lit (.int .u8 128), .lit (.int .u8 159)], .agg [.lit (.int .u8 144), .lit (.int .u8 191)], .agg [.lit (.int .u8 128), .lit (.int .u8 143)], .agg [.lit (.int .u8 0), .lit (.int .u8 0)], .agg [.lit (.int .u8 0), .lit (.int .u8 0)], .agg [.lit (.int .u8 0), .lit (.int .u8 0)], .agg [.lit (.int .u8 0), .lit (.int .u8 0)], .agg [.lit (.int .u8 0), .lit (.int .u8 0)], .agg [.lit (.int .u8 0), .lit (.int .u8 0)], .agg [.lit (.int .u8 0), .lit (.int .u8 0)], .agg [.lit (.int .u8 0), .lit (.int .u8 0)], .agg [.lit (.int .u8 0), .lit (.int .u8 0)], .agg [.lit (.int .u8 0), .lit (.int .u8 0)], .agg [.lit (.int .u8 0), .lit (.int .u8 0)]]
/-- One of Go's own tables, pinned by name: the form's constant. -/
def laid_unicode_utf8_first : DataW Unit := Go.Pinned.utf8First

/-- 'catchwordlaw08.FormWords': WHATEVER THE INPUT: true; the input reads as it did. -/
def formWordsSpec : ChangeSpec := { name := "formWords", fn := fun _ => fun
  | [d1, d2, d3] => { results := [.lit (.bool true)], args := [d1, d2, d3] }
  | _ => none }
def formWordsRow : OpenClaim := { program := "ytbchmfkdhaggbaadoor", sum := "62c305054fef8e082c2bb93e8f6ff07539a76e54785a29b8fc6b6efa9a26cc5e", func := "catchword/catchwordlaw08.FormWords", spec := "formWords", inPlace := ["internal/bytealg.IndexByteString", "internal/bytealg.IndexString"], unfollowed := true, recurses := true, named := ["unicode/utf8.first", "unicode/utf8.acceptRanges", "internal/bytealg.MaxLen"], apart := false, laid := [("unicode/utf8.acceptRanges", laid_unicode_utf8_acceptRanges), ("unicode/utf8.first", laid_unicode_utf8_first)] }
def FormWordsSaid : Prop := formWordsRow.holds Tryd.pinned (OpenSpec.ofChange formWordsSpec)

/-- ITS FALSE NEIGHBOUR: 'it returns false'. Refute it at one input. -/
def formWordsWrong : ChangeSpec := { name := "formWords", fn := fun _ => fun
  | [d1, d2, d3] => { results := [.lit (.bool false)], args := [d1, d2, d3] }
  | _ => none }
def FormWordsWrongFalsely : Prop := formWordsRow.holds Tryd.pinned (OpenSpec.ofChange formWordsWrong)

/-- 'catchwordlaw08.FormGlobs': WHATEVER THE INPUT: true; the input reads as it did. -/
def formGlobsSpec : ChangeSpec := { name := "formGlobs", fn := fun _ => fun
  | [d1, d2, d3] => { results := [.lit (.bool true)], args := [d1, d2, d3] }
  | _ => none }
def formGlobsRow : OpenClaim := { program := "ytbchmfkdhaggbaadoor", sum := "62c305054fef8e082c2bb93e8f6ff07539a76e54785a29b8fc6b6efa9a26cc5e", func := "catchword/catchwordlaw08.FormGlobs", spec := "formGlobs", inPlace := ["internal/bytealg.IndexByteString", "internal/bytealg.IndexString"], unfollowed := true, recurses := true, named := ["unicode/utf8.first", "unicode/utf8.acceptRanges", "internal/bytealg.MaxLen"], apart := false, laid := [("unicode/utf8.acceptRanges", laid_unicode_utf8_acceptRanges), ("unicode/utf8.first", laid_unicode_utf8_first)] }
def FormGlobsSaid : Prop := formGlobsRow.holds Tryd.pinned (OpenSpec.ofChange formGlobsSpec)

/-- ITS FALSE NEIGHBOUR: 'it returns false'. Refute it at one input. -/
def formGlobsWrong : ChangeSpec := { name := "formGlobs", fn := fun _ => fun
  | [d1, d2, d3] => { results := [.lit (.bool false)], args := [d1, d2, d3] }
  | _ => none }
def FormGlobsWrongFalsely : Prop := formGlobsRow.holds Tryd.pinned (OpenSpec.ofChange formGlobsWrong)

/-- 'catchwordlaw08.FormPrefixes': WHATEVER THE INPUT: true; the input reads as it did. -/
def formPrefixesSpec : ChangeSpec := { name := "formPrefixes", fn := fun _ => fun
  | [d1, d2, d3] => { results := [.lit (.bool true)], args := [d1, d2, d3] }
  | _ => none }
def formPrefixesRow : OpenClaim := { program := "ytbchmfkdhaggbaadoor", sum := "62c305054fef8e082c2bb93e8f6ff07539a76e54785a29b8fc6b6efa9a26cc5e", func := "catchword/catchwordlaw08.FormPrefixes", spec := "formPrefixes", inPlace := ["internal/bytealg.IndexByteString", "internal/bytealg.IndexString"], unfollowed := true, recurses := true, named := ["unicode/utf8.first", "unicode/utf8.acceptRanges", "internal/bytealg.MaxLen"], apart := false, laid := [("unicode/utf8.acceptRanges", laid_unicode_utf8_acceptRanges), ("unicode/utf8.first", laid_unicode_utf8_first)] }
def FormPrefixesSaid : Prop := formPrefixesRow.holds Tryd.pinned (OpenSpec.ofChange formPrefixesSpec)

/-- ITS FALSE NEIGHBOUR: 'it returns false'. Refute it at one input. -/
def formPrefixesWrong : ChangeSpec := { name := "formPrefixes", fn := fun _ => fun
  | [d1, d2, d3] => { results := [.lit (.bool false)], args := [d1, d2, d3] }
  | _ => none }
def FormPrefixesWrongFalsely : Prop := formPrefixesRow.holds Tryd.pinned (OpenSpec.ofChange formPrefixesWrong)

/-- 'catchwordlaw08.FormStops': WHATEVER THE INPUT: true; the input reads as it did. -/
def formStopsSpec : ChangeSpec := { name := "formStops", fn := fun _ => fun
  | [d1, d2] => { results := [.lit (.bool true)], args := [d1, d2] }
  | _ => none }
def formStopsRow : OpenClaim := { program := "ytbchmfkdhaggbaadoor", sum := "62c305054fef8e082c2bb93e8f6ff07539a76e54785a29b8fc6b6efa9a26cc5e", func := "catchword/catchwordlaw08.FormStops", spec := "formStops", inPlace := ["internal/bytealg.IndexByteString", "internal/bytealg.IndexString"], unfollowed := true, recurses := true, named := ["unicode/utf8.first", "unicode/utf8.acceptRanges", "internal/bytealg.MaxLen"], apart := false, laid := [("unicode/utf8.acceptRanges", laid_unicode_utf8_acceptRanges), ("unicode/utf8.first", laid_unicode_utf8_first)] }
def FormStopsSaid : Prop := formStopsRow.holds Tryd.pinned (OpenSpec.ofChange formStopsSpec)

/-- ITS FALSE NEIGHBOUR: 'it returns false'. Refute it at one input. -/
def formStopsWrong : ChangeSpec := { name := "formStops", fn := fun _ => fun
  | [d1, d2] => { results := [.lit (.bool false)], args := [d1, d2] }
  | _ => none }
def FormStopsWrongFalsely : Prop := formStopsRow.holds Tryd.pinned (OpenSpec.ofChange formStopsWrong)

/-- 'catchwordlaw08.FormWider': WHATEVER THE INPUT: true; the input reads as it did. -/
def formWiderSpec : ChangeSpec := { name := "formWider", fn := fun _ => fun
  | [d1, d2, d3] => { results := [.lit (.bool true)], args := [d1, d2, d3] }
  | _ => none }
def formWiderRow : OpenClaim := { program := "ytbchmfkdhaggbaadoor", sum := "62c305054fef8e082c2bb93e8f6ff07539a76e54785a29b8fc6b6efa9a26cc5e", func := "catchword/catchwordlaw08.FormWider", spec := "formWider", inPlace := ["internal/bytealg.IndexByteString", "internal/bytealg.IndexString"], unfollowed := true, recurses := true, named := ["unicode/utf8.first", "unicode/utf8.acceptRanges", "internal/bytealg.MaxLen"], apart := false, laid := [("unicode/utf8.acceptRanges", laid_unicode_utf8_acceptRanges), ("unicode/utf8.first", laid_unicode_utf8_first)] }
def FormWiderSaid : Prop := formWiderRow.holds Tryd.pinned (OpenSpec.ofChange formWiderSpec)

/-- ITS FALSE NEIGHBOUR: 'it returns false'. Refute it at one input. -/
def formWiderWrong : ChangeSpec := { name := "formWider", fn := fun _ => fun
  | [d1, d2, d3] => { results := [.lit (.bool false)], args := [d1, d2, d3] }
  | _ => none }
def FormWiderWrongFalsely : Prop := formWiderRow.holds Tryd.pinned (OpenSpec.ofChange formWiderWrong)

/- THE SECOND FORM. 'bulk': how many values and letters a reading holds, each counted each time it is reached (what is shared counts as often as it is met; a slice's spare places count too). A statement '..UptoSaid' is the law's where the arguments, and the package variables that the reading takes, are together of bulk at most 1048576: NARROWER than '..Said'. Prove '..Said' where nothing that the law and all that it calls make is longer than what came in: it says more and counts as full. Else prove '..UptoSaid'. A law counts once. -/
mutual
def uptoBulk {H : Type} : DataW H → Nat
  | .lit (.string bytes) => bytes.length + 1
  | .lit _ => 1
  | .nil => 1
  | .ptr d => uptoBulk d + 1
  | .slice elems spare => uptoBulkAll elems + uptoBulkAll spare + 1
  | .agg parts => uptoBulkAll parts + 1
  | .iface _ d => uptoBulk d + 1
  | .map entries => uptoBulkEntries entries + 1
  | .held _ => 1
def uptoBulkAll {H : Type} : List (DataW H) → Nat
  | [] => 0
  | d :: r => uptoBulk d + uptoBulkAll r
def uptoBulkEntries {H : Type} : List (Lit × DataW H) → Nat
  | [] => 0
  | x :: r => uptoBulkEntry x + uptoBulkEntries r
def uptoBulkEntry {H : Type} : Lit × DataW H → Nat
  | (.string bytes, d) => bytes.length + uptoBulk d + 1
  | (_, d) => uptoBulk d + 1
 end
def uptoSmall : (H : Type) → List (DataW H) → Bool := fun _ ds => decide (uptoBulkAll ds ≤ 1048576)
def OpenSpec.upto (s : _root_.Go.ChangeSpec) : _root_.Go.OpenSpec := { _root_.Go.OpenSpec.ofChange s with cond := some uptoSmall }

/-- 'catchwordlaw08.FormWords', WHERE WHAT IT READS IS OF BULK AT MOST 1048576: true; the input reads as it did. -/
def formWordsUptoRow : OpenClaim := { program := "ytbchmfkdhaggbaadoor", sum := "62c305054fef8e082c2bb93e8f6ff07539a76e54785a29b8fc6b6efa9a26cc5e", func := "catchword/catchwordlaw08.FormWords", spec := "formWords", inPlace := ["internal/bytealg.IndexByteString", "internal/bytealg.IndexString"], unfollowed := true, recurses := true, named := ["unicode/utf8.first", "unicode/utf8.acceptRanges", "internal/bytealg.MaxLen"], apart := false, laid := [("unicode/utf8.acceptRanges", laid_unicode_utf8_acceptRanges), ("unicode/utf8.first", laid_unicode_utf8_first)], narrowed := true }
def FormWordsUptoSaid : Prop := formWordsUptoRow.holds Tryd.pinned (OpenSpec.upto formWordsSpec)

/-- 'catchwordlaw08.FormGlobs', WHERE WHAT IT READS IS OF BULK AT MOST 1048576: true; the input reads as it did. -/
def formGlobsUptoRow : OpenClaim := { program := "ytbchmfkdhaggbaadoor", sum := "62c305054fef8e082c2bb93e8f6ff07539a76e54785a29b8fc6b6efa9a26cc5e", func := "catchword/catchwordlaw08.FormGlobs", spec := "formGlobs", inPlace := ["internal/bytealg.IndexByteString", "internal/bytealg.IndexString"], unfollowed := true, recurses := true, named := ["unicode/utf8.first", "unicode/utf8.acceptRanges", "internal/bytealg.MaxLen"], apart := false, laid := [("unicode/utf8.acceptRanges", laid_unicode_utf8_acceptRanges), ("unicode/utf8.first", laid_unicode_utf8_first)], narrowed := true }
def FormGlobsUptoSaid : Prop := formGlobsUptoRow.holds Tryd.pinned (OpenSpec.upto formGlobsSpec)

/-- 'catchwordlaw08.FormPrefixes', WHERE WHAT IT READS IS OF BULK AT MOST 1048576: true; the input reads as it did. -/
def formPrefixesUptoRow : OpenClaim := { program := "ytbchmfkdhaggbaadoor", sum := "62c305054fef8e082c2bb93e8f6ff07539a76e54785a29b8fc6b6efa9a26cc5e", func := "catchword/catchwordlaw08.FormPrefixes", spec := "formPrefixes", inPlace := ["internal/bytealg.IndexByteString", "internal/bytealg.IndexString"], unfollowed := true, recurses := true, named := ["unicode/utf8.first", "unicode/utf8.acceptRanges", "internal/bytealg.MaxLen"], apart := false, laid := [("unicode/utf8.acceptRanges", laid_unicode_utf8_acceptRanges), ("unicode/utf8.first", laid_unicode_utf8_first)], narrowed := true }
def FormPrefixesUptoSaid : Prop := formPrefixesUptoRow.holds Tryd.pinned (OpenSpec.upto formPrefixesSpec)

/-- 'catchwordlaw08.FormStops', WHERE WHAT IT READS IS OF BULK AT MOST 1048576: true; the input reads as it did. -/
def formStopsUptoRow : OpenClaim := { program := "ytbchmfkdhaggbaadoor", sum := "62c305054fef8e082c2bb93e8f6ff07539a76e54785a29b8fc6b6efa9a26cc5e", func := "catchword/catchwordlaw08.FormStops", spec := "formStops", inPlace := ["internal/bytealg.IndexByteString", "internal/bytealg.IndexString"], unfollowed := true, recurses := true, named := ["unicode/utf8.first", "unicode/utf8.acceptRanges", "internal/bytealg.MaxLen"], apart := false, laid := [("unicode/utf8.acceptRanges", laid_unicode_utf8_acceptRanges), ("unicode/utf8.first", laid_unicode_utf8_first)], narrowed := true }
def FormStopsUptoSaid : Prop := formStopsUptoRow.holds Tryd.pinned (OpenSpec.upto formStopsSpec)

/-- 'catchwordlaw08.FormWider', WHERE WHAT IT READS IS OF BULK AT MOST 1048576: true; the input reads as it did. -/
def formWiderUptoRow : OpenClaim := { program := "ytbchmfkdhaggbaadoor", sum := "62c305054fef8e082c2bb93e8f6ff07539a76e54785a29b8fc6b6efa9a26cc5e", func := "catchword/catchwordlaw08.FormWider", spec := "formWider", inPlace := ["internal/bytealg.IndexByteString", "internal/bytealg.IndexString"], unfollowed := true, recurses := true, named := ["unicode/utf8.first", "unicode/utf8.acceptRanges", "internal/bytealg.MaxLen"], apart := false, laid := [("unicode/utf8.acceptRanges", laid_unicode_utf8_acceptRanges), ("unicode/utf8.first", laid_unicode_utf8_first)], narrowed := true }
def FormWiderUptoSaid : Prop := formWiderUptoRow.holds Tryd.pinned (OpenSpec.upto formWiderSpec)

end Rows
end Go.Proofs.YtbchmfkdhaggbaaDoor
