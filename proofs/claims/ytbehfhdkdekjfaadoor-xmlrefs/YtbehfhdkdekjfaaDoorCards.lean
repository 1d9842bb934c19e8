/-
  DERIVED. GIVEN WITH THE SEED: THE CARDS: each row of YtbehfhdkdekjfaaDoorRows.lean that lists a variable, with what it lists TIED to the program's text (the seventh form; the later family's looks); each row that meets fmt, with fmt's text TOLD by the authors' own Lean function (tested against real Go, not proved from fmt's source: count such statements apart). THE CARD IS WHAT COUNTS. Prove the row's statement (the work); the ties are given (YtbehfhdkdekjfaaDoorTie.lean); close each card by the builder's one call (the guide's Derived/Test/ToyasCard.lean, 'card_holds'). Laid BY PROGRAM, IN A SANDBOX (cutbox-door.mjs). By AI agents, Wed Nov 11 2026. No macro, syntax, notation, axiom, sorry.
-/
import Derived.Test.YtbehfhdkdekjfaaDoorRows
import GoSem.ClaimSeven
namespace Go.Proofs.YtbehfhdkdekjfaaDoor
namespace Rows

/-- THE TIED CARD OF 'catchwordlaw05.XmlAgain'. -/
def xmlAgainCard : Claim7 := { stood := { row := xmlAgainRow, standIns := [], harness := (true, "9e45185479cb9dff2ffa23473d39d813cac743b1c5fd96ef91b96b077559d4bd"), looks := true }, kinds := [], alts := [], laidByText := true, laidKinds := [.data, .data, .data, .data, .sentinel, .sentinel, .pinned], laidTests := true, laidLooks := .later }
def XmlAgainCardSaid : Prop := Claim7.holds Tryd.pinned (.plain (OpenSpec.ofChange xmlAgainSpec)) xmlAgainCard

/-- THE TIED CARD OF 'catchwordlaw05.XmlRefs'. -/
def xmlRefsCard : Claim7 := { stood := { row := xmlRefsRow, standIns := [], harness := (true, "9e45185479cb9dff2ffa23473d39d813cac743b1c5fd96ef91b96b077559d4bd"), looks := true }, kinds := [], alts := [], laidByText := true, laidKinds := [.data, .data, .data, .data, .sentinel, .sentinel, .pinned], laidTests := true, laidLooks := .later }
def XmlRefsCardSaid : Prop := Claim7.holds Tryd.pinned (.plain (OpenSpec.ofChange xmlRefsSpec)) xmlRefsCard

/-- THE TIED CARD OF 'catchwordlaw06.TreeRight'. -/
def treeRightCard : Claim7 := { stood := { row := treeRightRow, standIns := [], harness := (true, "9e45185479cb9dff2ffa23473d39d813cac743b1c5fd96ef91b96b077559d4bd"), looks := true }, kinds := [], alts := [], laidByText := true, laidKinds := [.data, .data, .data, .data, .sentinel, .sentinel, .pinned], laidTests := true, laidLooks := .later }
def TreeRightCardSaid : Prop := Claim7.holds Tryd.pinned (.plain (OpenSpec.ofChange treeRightSpec)) treeRightCard

/-- THE TIED CARD OF 'catchwordlaw06.TreeOf'. -/
def treeOfCard : Claim7 := { stood := { row := treeOfRow, standIns := [], harness := (true, "9e45185479cb9dff2ffa23473d39d813cac743b1c5fd96ef91b96b077559d4bd"), looks := true }, kinds := [], alts := [], laidByText := true, laidKinds := [.data, .data, .data, .data, .sentinel, .sentinel, .pinned], laidTests := true, laidLooks := .later }
def TreeOfCardSaid : Prop := Claim7.holds Tryd.pinned (.plain (OpenSpec.ofChange treeOfSpec)) treeOfCard

/-- THE SECOND FORM's CARD OF 'catchwordlaw05.XmlAgain'. -/
def xmlAgainUptoCard : Claim7 := { stood := { row := xmlAgainUptoRow, standIns := [], harness := (true, "9e45185479cb9dff2ffa23473d39d813cac743b1c5fd96ef91b96b077559d4bd"), looks := true }, kinds := [], alts := [], laidByText := true, laidKinds := [.data, .data, .data, .data, .sentinel, .sentinel, .pinned], laidTests := true, laidLooks := .later }
def XmlAgainUptoCardSaid : Prop := Claim7.holds Tryd.pinned (.plain (OpenSpec.upto xmlAgainSpec)) xmlAgainUptoCard

/-- THE SECOND FORM's CARD OF 'catchwordlaw05.XmlRefs'. -/
def xmlRefsUptoCard : Claim7 := { stood := { row := xmlRefsUptoRow, standIns := [], harness := (true, "9e45185479cb9dff2ffa23473d39d813cac743b1c5fd96ef91b96b077559d4bd"), looks := true }, kinds := [], alts := [], laidByText := true, laidKinds := [.data, .data, .data, .data, .sentinel, .sentinel, .pinned], laidTests := true, laidLooks := .later }
def XmlRefsUptoCardSaid : Prop := Claim7.holds Tryd.pinned (.plain (OpenSpec.upto xmlRefsSpec)) xmlRefsUptoCard

/-- THE SECOND FORM's CARD OF 'catchwordlaw06.TreeRight'. -/
def treeRightUptoCard : Claim7 := { stood := { row := treeRightUptoRow, standIns := [], harness := (true, "9e45185479cb9dff2ffa23473d39d813cac743b1c5fd96ef91b96b077559d4bd"), looks := true }, kinds := [], alts := [], laidByText := true, laidKinds := [.data, .data, .data, .data, .sentinel, .sentinel, .pinned], laidTests := true, laidLooks := .later }
def TreeRightUptoCardSaid : Prop := Claim7.holds Tryd.pinned (.plain (OpenSpec.upto treeRightSpec)) treeRightUptoCard

/-- THE SECOND FORM's CARD OF 'catchwordlaw06.TreeOf'. -/
def treeOfUptoCard : Claim7 := { stood := { row := treeOfUptoRow, standIns := [], harness := (true, "9e45185479cb9dff2ffa23473d39d813cac743b1c5fd96ef91b96b077559d4bd"), looks := true }, kinds := [], alts := [], laidByText := true, laidKinds := [.data, .data, .data, .data, .sentinel, .sentinel, .pinned], laidTests := true, laidLooks := .later }
def TreeOfUptoCardSaid : Prop := Claim7.holds Tryd.pinned (.plain (OpenSpec.upto treeOfSpec)) treeOfUptoCard
end Rows
end Go.Proofs.YtbehfhdkdekjfaaDoor
