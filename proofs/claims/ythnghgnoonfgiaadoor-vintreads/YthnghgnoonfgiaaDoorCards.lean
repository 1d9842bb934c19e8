/-
  DERIVED. GIVEN WITH THE SEED: THE CARDS: each row of YthnghgnoonfgiaaDoorRows.lean that lists a variable, with what it lists TIED to the program's text (the seventh form; the later family's looks); each row that meets fmt, with fmt's text TOLD by the authors' own Lean function (tested against real Go, not proved from fmt's source: count such statements apart). THE CARD IS WHAT COUNTS. Prove the row's statement (the work); the ties are given (YthnghgnoonfgiaaDoorTie.lean); close each card by the builder's one call (the guide's Derived/Test/ToyasCard.lean, 'card_holds'). Laid BY PROGRAM, IN A SANDBOX (cutbox-door.mjs). By AI agents, Wed Nov 11 2026. No macro, syntax, notation, axiom, sorry.
-/
import Derived.Test.YthnghgnoonfgiaaDoorRows
import GoSem.ClaimSeven
namespace Go.Proofs.YthnghgnoonfgiaaDoor
namespace Rows

/-- THE TIED CARD OF 'catchwordlaw01.VintPuts'. -/
def vintPutsCard : Claim7 := { stood := { row := vintPutsRow, standIns := [], harness := (true, "a4742f906e91907e9363f740fff16abcbf264991b368d21e778d60b347ae9f7f"), looks := false }, kinds := [], alts := [], laidByText := true, laidKinds := [.data], laidTests := true, laidLooks := .later }
def VintPutsCardSaid : Prop := Claim7.holds Tryd.pinned (.plain (OpenSpec.ofChange vintPutsSpec)) vintPutsCard

/-- THE TIED CARD OF 'catchwordlaw01.VintGets'. -/
def vintGetsCard : Claim7 := { stood := { row := vintGetsRow, standIns := [], harness := (true, "a4742f906e91907e9363f740fff16abcbf264991b368d21e778d60b347ae9f7f"), looks := false }, kinds := [], alts := [], laidByText := true, laidKinds := [.data], laidTests := true, laidLooks := .later }
def VintGetsCardSaid : Prop := Claim7.holds Tryd.pinned (.plain (OpenSpec.ofChange vintGetsSpec)) vintGetsCard

/-- THE TIED CARD OF 'catchwordlaw01.VintReads'. -/
def vintReadsCard : Claim7 := { stood := { row := vintReadsRow, standIns := [], harness := (true, "a4742f906e91907e9363f740fff16abcbf264991b368d21e778d60b347ae9f7f"), looks := false }, kinds := [], alts := [], laidByText := true, laidKinds := [.data], laidTests := true, laidLooks := .later }
def VintReadsCardSaid : Prop := Claim7.holds Tryd.pinned (.plain (OpenSpec.ofChange vintReadsSpec)) vintReadsCard

/-- THE TIED CARD OF 'catchwordlaw01.VintSums'. -/
def vintSumsCard : Claim7 := { stood := { row := vintSumsRow, standIns := [], harness := (true, "a4742f906e91907e9363f740fff16abcbf264991b368d21e778d60b347ae9f7f"), looks := false }, kinds := [], alts := [], laidByText := true, laidKinds := [.data], laidTests := true, laidLooks := .later }
def VintSumsCardSaid : Prop := Claim7.holds Tryd.pinned (.plain (OpenSpec.ofChange vintSumsSpec)) vintSumsCard

/-- THE TIED CARD OF 'catchwordlaw01.VintAdds'. -/
def vintAddsCard : Claim7 := { stood := { row := vintAddsRow, standIns := [], harness := (true, "a4742f906e91907e9363f740fff16abcbf264991b368d21e778d60b347ae9f7f"), looks := false }, kinds := [], alts := [], laidByText := true, laidKinds := [.data], laidTests := true, laidLooks := .later }
def VintAddsCardSaid : Prop := Claim7.holds Tryd.pinned (.plain (OpenSpec.ofChange vintAddsSpec)) vintAddsCard

/-- THE TIED CARD OF 'catchwordlaw01.VintSizes'. -/
def vintSizesCard : Claim7 := { stood := { row := vintSizesRow, standIns := [], harness := (true, "a4742f906e91907e9363f740fff16abcbf264991b368d21e778d60b347ae9f7f"), looks := false }, kinds := [], alts := [], laidByText := true, laidKinds := [.data], laidTests := true, laidLooks := .later }
def VintSizesCardSaid : Prop := Claim7.holds Tryd.pinned (.plain (OpenSpec.ofChange vintSizesSpec)) vintSizesCard

/-- THE SECOND FORM's CARD OF 'catchwordlaw01.VintPuts'. -/
def vintPutsUptoCard : Claim7 := { stood := { row := vintPutsUptoRow, standIns := [], harness := (true, "a4742f906e91907e9363f740fff16abcbf264991b368d21e778d60b347ae9f7f"), looks := false }, kinds := [], alts := [], laidByText := true, laidKinds := [.data], laidTests := true, laidLooks := .later }
def VintPutsUptoCardSaid : Prop := Claim7.holds Tryd.pinned (.plain (OpenSpec.upto vintPutsSpec)) vintPutsUptoCard

/-- THE SECOND FORM's CARD OF 'catchwordlaw01.VintGets'. -/
def vintGetsUptoCard : Claim7 := { stood := { row := vintGetsUptoRow, standIns := [], harness := (true, "a4742f906e91907e9363f740fff16abcbf264991b368d21e778d60b347ae9f7f"), looks := false }, kinds := [], alts := [], laidByText := true, laidKinds := [.data], laidTests := true, laidLooks := .later }
def VintGetsUptoCardSaid : Prop := Claim7.holds Tryd.pinned (.plain (OpenSpec.upto vintGetsSpec)) vintGetsUptoCard

/-- THE SECOND FORM's CARD OF 'catchwordlaw01.VintReads'. -/
def vintReadsUptoCard : Claim7 := { stood := { row := vintReadsUptoRow, standIns := [], harness := (true, "a4742f906e91907e9363f740fff16abcbf264991b368d21e778d60b347ae9f7f"), looks := false }, kinds := [], alts := [], laidByText := true, laidKinds := [.data], laidTests := true, laidLooks := .later }
def VintReadsUptoCardSaid : Prop := Claim7.holds Tryd.pinned (.plain (OpenSpec.upto vintReadsSpec)) vintReadsUptoCard

/-- THE SECOND FORM's CARD OF 'catchwordlaw01.VintSums'. -/
def vintSumsUptoCard : Claim7 := { stood := { row := vintSumsUptoRow, standIns := [], harness := (true, "a4742f906e91907e9363f740fff16abcbf264991b368d21e778d60b347ae9f7f"), looks := false }, kinds := [], alts := [], laidByText := true, laidKinds := [.data], laidTests := true, laidLooks := .later }
def VintSumsUptoCardSaid : Prop := Claim7.holds Tryd.pinned (.plain (OpenSpec.upto vintSumsSpec)) vintSumsUptoCard

/-- THE SECOND FORM's CARD OF 'catchwordlaw01.VintAdds'. -/
def vintAddsUptoCard : Claim7 := { stood := { row := vintAddsUptoRow, standIns := [], harness := (true, "a4742f906e91907e9363f740fff16abcbf264991b368d21e778d60b347ae9f7f"), looks := false }, kinds := [], alts := [], laidByText := true, laidKinds := [.data], laidTests := true, laidLooks := .later }
def VintAddsUptoCardSaid : Prop := Claim7.holds Tryd.pinned (.plain (OpenSpec.upto vintAddsSpec)) vintAddsUptoCard

/-- THE SECOND FORM's CARD OF 'catchwordlaw01.VintSizes'. -/
def vintSizesUptoCard : Claim7 := { stood := { row := vintSizesUptoRow, standIns := [], harness := (true, "a4742f906e91907e9363f740fff16abcbf264991b368d21e778d60b347ae9f7f"), looks := false }, kinds := [], alts := [], laidByText := true, laidKinds := [.data], laidTests := true, laidLooks := .later }
def VintSizesUptoCardSaid : Prop := Claim7.holds Tryd.pinned (.plain (OpenSpec.upto vintSizesSpec)) vintSizesUptoCard
end Rows
end Go.Proofs.YthnghgnoonfgiaaDoor
