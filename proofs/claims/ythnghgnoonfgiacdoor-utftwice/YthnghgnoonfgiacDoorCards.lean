/-
  DERIVED. GIVEN WITH THE SEED: THE CARDS: each row of YthnghgnoonfgiacDoorRows.lean that lists a variable, with what it lists TIED to the program's text (the seventh form; the later family's looks); each row that meets fmt, with fmt's text TOLD by the authors' own Lean function (tested against real Go, not proved from fmt's source: count such statements apart). THE CARD IS WHAT COUNTS. Prove the row's statement (the work); the ties are given (YthnghgnoonfgiacDoorTie.lean); close each card by the builder's one call (the guide's Derived/Test/ToyasCard.lean, 'card_holds'). Laid BY PROGRAM, IN A SANDBOX (cutbox-door.mjs). By AI agents, Wed Nov 11 2026. No macro, syntax, notation, axiom, sorry.
-/
import Derived.Test.YthnghgnoonfgiacDoorRows
import GoSem.ClaimSeven
namespace Go.Proofs.YthnghgnoonfgiacDoor
namespace Rows

/-- THE TIED CARD OF 'catchwordlaw02.UtfJoins'. -/
def utfJoinsCard : Claim7 := { stood := { row := utfJoinsRow, standIns := [], harness := (true, "bd607d228ce72b2f8896f36719b52dcd95ba03f4ff16ae83ee9ac423a2dc2971"), looks := false }, kinds := [], alts := [], laidByText := true, laidKinds := [.data, .pinned], laidTests := true, laidLooks := .later }
def UtfJoinsCardSaid : Prop := Claim7.holds Tryd.pinned (.plain (OpenSpec.ofChange utfJoinsSpec)) utfJoinsCard

/-- THE TIED CARD OF 'catchwordlaw02.UtfTwice'. -/
def utfTwiceCard : Claim7 := { stood := { row := utfTwiceRow, standIns := [], harness := (true, "bd607d228ce72b2f8896f36719b52dcd95ba03f4ff16ae83ee9ac423a2dc2971"), looks := false }, kinds := [], alts := [], laidByText := true, laidKinds := [.data, .pinned], laidTests := true, laidLooks := .later }
def UtfTwiceCardSaid : Prop := Claim7.holds Tryd.pinned (.plain (OpenSpec.ofChange utfTwiceSpec)) utfTwiceCard

/-- THE SECOND FORM's CARD OF 'catchwordlaw02.UtfJoins'. -/
def utfJoinsUptoCard : Claim7 := { stood := { row := utfJoinsUptoRow, standIns := [], harness := (true, "bd607d228ce72b2f8896f36719b52dcd95ba03f4ff16ae83ee9ac423a2dc2971"), looks := false }, kinds := [], alts := [], laidByText := true, laidKinds := [.data, .pinned], laidTests := true, laidLooks := .later }
def UtfJoinsUptoCardSaid : Prop := Claim7.holds Tryd.pinned (.plain (OpenSpec.upto utfJoinsSpec)) utfJoinsUptoCard

/-- THE SECOND FORM's CARD OF 'catchwordlaw02.UtfTwice'. -/
def utfTwiceUptoCard : Claim7 := { stood := { row := utfTwiceUptoRow, standIns := [], harness := (true, "bd607d228ce72b2f8896f36719b52dcd95ba03f4ff16ae83ee9ac423a2dc2971"), looks := false }, kinds := [], alts := [], laidByText := true, laidKinds := [.data, .pinned], laidTests := true, laidLooks := .later }
def UtfTwiceUptoCardSaid : Prop := Claim7.holds Tryd.pinned (.plain (OpenSpec.upto utfTwiceSpec)) utfTwiceUptoCard
end Rows
end Go.Proofs.YthnghgnoonfgiacDoor
