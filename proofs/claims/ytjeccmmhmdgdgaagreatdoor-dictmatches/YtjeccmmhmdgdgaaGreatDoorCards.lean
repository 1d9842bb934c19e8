/-
  DERIVED. GIVEN WITH THE SEED: THE CARDS: each row of YtjeccmmhmdgdgaaGreatDoorRows.lean that lists a variable, with what it lists TIED to the program's text (the seventh form; the later family's looks); each row that meets fmt, with fmt's text TOLD by the authors' own Lean function (tested against real Go, not proved from fmt's source: count such statements apart). THE CARD IS WHAT COUNTS. Prove the row's statement (the work); the ties are given (YtjeccmmhmdgdgaaGreatDoorTie.lean); close each card by the builder's one call (the guide's Derived/Test/ToyasCard.lean, 'card_holds'). Laid BY PROGRAM, IN A SANDBOX (cutbox-door.mjs). By AI agents, Wed Nov 11 2026. No macro, syntax, notation, axiom, sorry.
-/
import Derived.Test.YtjeccmmhmdgdgaaGreatDoorRows
import GoSem.ClaimSeven
namespace Go.Proofs.YtjeccmmhmdgdgaaGreatDoor
namespace Rows

/-- THE TIED CARD OF 'catchwordlaw10.DictMatches'. -/
def dictMatchesCard : Claim7 := { stood := { row := dictMatchesRow, standIns := [], harness := (true, "067dc0cd6495a056a53b748a239dffeacf71aa10c5a93d7e00de1bcf415e2a3c"), looks := false }, kinds := [], alts := [], laidByText := true, laidKinds := [.data, .pinned], laidTests := true, laidLooks := .later }
def DictMatchesCardSaid : Prop := Claim7.holds Tryz.pinned (.plain (OpenSpec.ofChange dictMatchesSpec)) dictMatchesCard

/-- THE SECOND FORM's CARD OF 'catchwordlaw10.DictMatches'. -/
def dictMatchesUptoCard : Claim7 := { stood := { row := dictMatchesUptoRow, standIns := [], harness := (true, "067dc0cd6495a056a53b748a239dffeacf71aa10c5a93d7e00de1bcf415e2a3c"), looks := false }, kinds := [], alts := [], laidByText := true, laidKinds := [.data, .pinned], laidTests := true, laidLooks := .later }
def DictMatchesUptoCardSaid : Prop := Claim7.holds Tryz.pinned (.plain (OpenSpec.upto dictMatchesSpec)) dictMatchesUptoCard
end Rows
end Go.Proofs.YtjeccmmhmdgdgaaGreatDoor
