/-
  DERIVED. GIVEN WITH THE SEED: THE CARDS: each row of YtdijicdlglnlmaaDoorRows.lean that lists a variable, with what it lists TIED to the program's text (the seventh form; the later family's looks); each row that meets fmt, with fmt's text TOLD by the authors' own Lean function (tested against real Go, not proved from fmt's source: count such statements apart). THE CARD IS WHAT COUNTS. Prove the row's statement (the work); the ties are given (YtdijicdlglnlmaaDoorTie.lean); close each card by the builder's one call (the guide's Derived/Test/ToyasCard.lean, 'card_holds'). Laid BY PROGRAM, IN A SANDBOX (cutbox-door.mjs). By AI agents, Wed Nov 11 2026. No macro, syntax, notation, axiom, sorry.
-/
import Derived.Test.YtdijicdlglnlmaaDoorRows
import GoSem.ClaimSeven
namespace Go.Proofs.YtdijicdlglnlmaaDoor
namespace Rows

/-- THE TIED CARD OF 'catchwordlaw04.GlobMatches'. -/
def globMatchesCard : Claim7 := { stood := { row := globMatchesRow, standIns := [], harness := (true, "13e38f2ec739356687a96731d96ffaf5c091910ab311d0ac6abb7031c30653be"), looks := false }, kinds := [], alts := [], laidByText := true, laidKinds := [.data, .data, .data, .data, .pinned], laidTests := true, laidLooks := .later }
def GlobMatchesCardSaid : Prop := Claim7.holds Tryd.pinned (.plain (OpenSpec.ofChange globMatchesSpec)) globMatchesCard

/-- THE TIED CARD OF 'catchwordlaw04.GlobPlain'. -/
def globPlainCard : Claim7 := { stood := { row := globPlainRow, standIns := [], harness := (true, "13e38f2ec739356687a96731d96ffaf5c091910ab311d0ac6abb7031c30653be"), looks := false }, kinds := [], alts := [], laidByText := true, laidKinds := [.data, .pinned], laidTests := true, laidLooks := .later }
def GlobPlainCardSaid : Prop := Claim7.holds Tryd.pinned (.plain (OpenSpec.ofChange globPlainSpec)) globPlainCard

/-- THE TIED CARD OF 'catchwordlaw04.GlobErrors'. -/
def globErrorsCard : Claim7 := { stood := { row := globErrorsRow, standIns := [], harness := (true, "13e38f2ec739356687a96731d96ffaf5c091910ab311d0ac6abb7031c30653be"), looks := false }, kinds := [], alts := [], laidByText := true, laidKinds := [.data, .pinned], laidTests := true, laidLooks := .later }
def GlobErrorsCardSaid : Prop := Claim7.holds Tryd.pinned (.plain (OpenSpec.ofChange globErrorsSpec)) globErrorsCard

/-- THE TIED CARD OF 'catchwordlaw04.GlobMaps'. -/
def globMapsCard : Claim7 := { stood := { row := globMapsRow, standIns := [], harness := (true, "13e38f2ec739356687a96731d96ffaf5c091910ab311d0ac6abb7031c30653be"), looks := false }, kinds := [], alts := [], laidByText := true, laidKinds := [.data, .data, .data, .data, .pinned], laidTests := true, laidLooks := .later }
def GlobMapsCardSaid : Prop := Claim7.holds Tryd.pinned (.plain (OpenSpec.ofChange globMapsSpec)) globMapsCard

/-- THE TIED CARD OF 'catchwordlaw04.GlobStars'. -/
def globStarsCard : Claim7 := { stood := { row := globStarsRow, standIns := [], harness := (true, "13e38f2ec739356687a96731d96ffaf5c091910ab311d0ac6abb7031c30653be"), looks := false }, kinds := [], alts := [], laidByText := true, laidKinds := [.data, .pinned], laidTests := true, laidLooks := .later }
def GlobStarsCardSaid : Prop := Claim7.holds Tryd.pinned (.plain (OpenSpec.ofChange globStarsSpec)) globStarsCard

/-- THE SECOND FORM's CARD OF 'catchwordlaw04.GlobMatches'. -/
def globMatchesUptoCard : Claim7 := { stood := { row := globMatchesUptoRow, standIns := [], harness := (true, "13e38f2ec739356687a96731d96ffaf5c091910ab311d0ac6abb7031c30653be"), looks := false }, kinds := [], alts := [], laidByText := true, laidKinds := [.data, .data, .data, .data, .pinned], laidTests := true, laidLooks := .later }
def GlobMatchesUptoCardSaid : Prop := Claim7.holds Tryd.pinned (.plain (OpenSpec.upto globMatchesSpec)) globMatchesUptoCard

/-- THE SECOND FORM's CARD OF 'catchwordlaw04.GlobPlain'. -/
def globPlainUptoCard : Claim7 := { stood := { row := globPlainUptoRow, standIns := [], harness := (true, "13e38f2ec739356687a96731d96ffaf5c091910ab311d0ac6abb7031c30653be"), looks := false }, kinds := [], alts := [], laidByText := true, laidKinds := [.data, .pinned], laidTests := true, laidLooks := .later }
def GlobPlainUptoCardSaid : Prop := Claim7.holds Tryd.pinned (.plain (OpenSpec.upto globPlainSpec)) globPlainUptoCard

/-- THE SECOND FORM's CARD OF 'catchwordlaw04.GlobErrors'. -/
def globErrorsUptoCard : Claim7 := { stood := { row := globErrorsUptoRow, standIns := [], harness := (true, "13e38f2ec739356687a96731d96ffaf5c091910ab311d0ac6abb7031c30653be"), looks := false }, kinds := [], alts := [], laidByText := true, laidKinds := [.data, .pinned], laidTests := true, laidLooks := .later }
def GlobErrorsUptoCardSaid : Prop := Claim7.holds Tryd.pinned (.plain (OpenSpec.upto globErrorsSpec)) globErrorsUptoCard

/-- THE SECOND FORM's CARD OF 'catchwordlaw04.GlobMaps'. -/
def globMapsUptoCard : Claim7 := { stood := { row := globMapsUptoRow, standIns := [], harness := (true, "13e38f2ec739356687a96731d96ffaf5c091910ab311d0ac6abb7031c30653be"), looks := false }, kinds := [], alts := [], laidByText := true, laidKinds := [.data, .data, .data, .data, .pinned], laidTests := true, laidLooks := .later }
def GlobMapsUptoCardSaid : Prop := Claim7.holds Tryd.pinned (.plain (OpenSpec.upto globMapsSpec)) globMapsUptoCard

/-- THE SECOND FORM's CARD OF 'catchwordlaw04.GlobStars'. -/
def globStarsUptoCard : Claim7 := { stood := { row := globStarsUptoRow, standIns := [], harness := (true, "13e38f2ec739356687a96731d96ffaf5c091910ab311d0ac6abb7031c30653be"), looks := false }, kinds := [], alts := [], laidByText := true, laidKinds := [.data, .pinned], laidTests := true, laidLooks := .later }
def GlobStarsUptoCardSaid : Prop := Claim7.holds Tryd.pinned (.plain (OpenSpec.upto globStarsSpec)) globStarsUptoCard
end Rows
end Go.Proofs.YtdijicdlglnlmaaDoor
