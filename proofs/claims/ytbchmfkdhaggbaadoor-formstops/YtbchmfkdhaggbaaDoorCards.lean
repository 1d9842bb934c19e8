/-
  DERIVED. GIVEN WITH THE SEED: THE CARDS: each row of YtbchmfkdhaggbaaDoorRows.lean that lists a variable, with what it lists TIED to the program's text (the seventh form; the later family's looks); each row that meets fmt, with fmt's text TOLD by the authors' own Lean function (tested against real Go, not proved from fmt's source: count such statements apart). THE CARD IS WHAT COUNTS. Prove the row's statement (the work); the ties are given (YtbchmfkdhaggbaaDoorTie.lean); close each card by the builder's one call (the guide's Derived/Test/ToyasCard.lean, 'card_holds'). Laid BY PROGRAM, IN A SANDBOX (cutbox-door.mjs). By AI agents, Wed Nov 11 2026. No macro, syntax, notation, axiom, sorry.
-/
import Derived.Test.YtbchmfkdhaggbaaDoorRows
import GoSem.ClaimSeven
namespace Go.Proofs.YtbchmfkdhaggbaaDoor
namespace Rows

/-- THE TIED CARD OF 'catchwordlaw08.FormWords'. -/
def formWordsCard : Claim7 := { stood := { row := formWordsRow, standIns := [], harness := (true, "54e9b7ff5b1bb569b04336b4fc6b24064c95a54f5bbb63ef094a18cec49ebd45"), looks := false }, kinds := [], alts := [], laidByText := true, laidKinds := [.data, .pinned], laidTests := true, laidLooks := .later }
def FormWordsCardSaid : Prop := Claim7.holds Tryd.pinned (.plain (OpenSpec.ofChange formWordsSpec)) formWordsCard

/-- THE TIED CARD OF 'catchwordlaw08.FormGlobs'. -/
def formGlobsCard : Claim7 := { stood := { row := formGlobsRow, standIns := [], harness := (true, "54e9b7ff5b1bb569b04336b4fc6b24064c95a54f5bbb63ef094a18cec49ebd45"), looks := false }, kinds := [], alts := [], laidByText := true, laidKinds := [.data, .pinned], laidTests := true, laidLooks := .later }
def FormGlobsCardSaid : Prop := Claim7.holds Tryd.pinned (.plain (OpenSpec.ofChange formGlobsSpec)) formGlobsCard

/-- THE TIED CARD OF 'catchwordlaw08.FormPrefixes'. -/
def formPrefixesCard : Claim7 := { stood := { row := formPrefixesRow, standIns := [], harness := (true, "54e9b7ff5b1bb569b04336b4fc6b24064c95a54f5bbb63ef094a18cec49ebd45"), looks := false }, kinds := [], alts := [], laidByText := true, laidKinds := [.data, .pinned], laidTests := true, laidLooks := .later }
def FormPrefixesCardSaid : Prop := Claim7.holds Tryd.pinned (.plain (OpenSpec.ofChange formPrefixesSpec)) formPrefixesCard

/-- THE TIED CARD OF 'catchwordlaw08.FormStops'. -/
def formStopsCard : Claim7 := { stood := { row := formStopsRow, standIns := [], harness := (true, "54e9b7ff5b1bb569b04336b4fc6b24064c95a54f5bbb63ef094a18cec49ebd45"), looks := false }, kinds := [], alts := [], laidByText := true, laidKinds := [.data, .pinned], laidTests := true, laidLooks := .later }
def FormStopsCardSaid : Prop := Claim7.holds Tryd.pinned (.plain (OpenSpec.ofChange formStopsSpec)) formStopsCard

/-- THE TIED CARD OF 'catchwordlaw08.FormWider'. -/
def formWiderCard : Claim7 := { stood := { row := formWiderRow, standIns := [], harness := (true, "54e9b7ff5b1bb569b04336b4fc6b24064c95a54f5bbb63ef094a18cec49ebd45"), looks := false }, kinds := [], alts := [], laidByText := true, laidKinds := [.data, .pinned], laidTests := true, laidLooks := .later }
def FormWiderCardSaid : Prop := Claim7.holds Tryd.pinned (.plain (OpenSpec.ofChange formWiderSpec)) formWiderCard

/-- THE SECOND FORM's CARD OF 'catchwordlaw08.FormWords'. -/
def formWordsUptoCard : Claim7 := { stood := { row := formWordsUptoRow, standIns := [], harness := (true, "54e9b7ff5b1bb569b04336b4fc6b24064c95a54f5bbb63ef094a18cec49ebd45"), looks := false }, kinds := [], alts := [], laidByText := true, laidKinds := [.data, .pinned], laidTests := true, laidLooks := .later }
def FormWordsUptoCardSaid : Prop := Claim7.holds Tryd.pinned (.plain (OpenSpec.upto formWordsSpec)) formWordsUptoCard

/-- THE SECOND FORM's CARD OF 'catchwordlaw08.FormGlobs'. -/
def formGlobsUptoCard : Claim7 := { stood := { row := formGlobsUptoRow, standIns := [], harness := (true, "54e9b7ff5b1bb569b04336b4fc6b24064c95a54f5bbb63ef094a18cec49ebd45"), looks := false }, kinds := [], alts := [], laidByText := true, laidKinds := [.data, .pinned], laidTests := true, laidLooks := .later }
def FormGlobsUptoCardSaid : Prop := Claim7.holds Tryd.pinned (.plain (OpenSpec.upto formGlobsSpec)) formGlobsUptoCard

/-- THE SECOND FORM's CARD OF 'catchwordlaw08.FormPrefixes'. -/
def formPrefixesUptoCard : Claim7 := { stood := { row := formPrefixesUptoRow, standIns := [], harness := (true, "54e9b7ff5b1bb569b04336b4fc6b24064c95a54f5bbb63ef094a18cec49ebd45"), looks := false }, kinds := [], alts := [], laidByText := true, laidKinds := [.data, .pinned], laidTests := true, laidLooks := .later }
def FormPrefixesUptoCardSaid : Prop := Claim7.holds Tryd.pinned (.plain (OpenSpec.upto formPrefixesSpec)) formPrefixesUptoCard

/-- THE SECOND FORM's CARD OF 'catchwordlaw08.FormStops'. -/
def formStopsUptoCard : Claim7 := { stood := { row := formStopsUptoRow, standIns := [], harness := (true, "54e9b7ff5b1bb569b04336b4fc6b24064c95a54f5bbb63ef094a18cec49ebd45"), looks := false }, kinds := [], alts := [], laidByText := true, laidKinds := [.data, .pinned], laidTests := true, laidLooks := .later }
def FormStopsUptoCardSaid : Prop := Claim7.holds Tryd.pinned (.plain (OpenSpec.upto formStopsSpec)) formStopsUptoCard

/-- THE SECOND FORM's CARD OF 'catchwordlaw08.FormWider'. -/
def formWiderUptoCard : Claim7 := { stood := { row := formWiderUptoRow, standIns := [], harness := (true, "54e9b7ff5b1bb569b04336b4fc6b24064c95a54f5bbb63ef094a18cec49ebd45"), looks := false }, kinds := [], alts := [], laidByText := true, laidKinds := [.data, .pinned], laidTests := true, laidLooks := .later }
def FormWiderUptoCardSaid : Prop := Claim7.holds Tryd.pinned (.plain (OpenSpec.upto formWiderSpec)) formWiderUptoCard
end Rows
end Go.Proofs.YtbchmfkdhaggbaaDoor
