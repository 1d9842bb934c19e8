/-
  DERIVED. GIVEN WITH THE SEED: THE CARDS: each row of YthnghgnoonfgiabDoorRows.lean that lists a variable, with what it lists TIED to the program's text (the seventh form; the later family's looks); each row that meets fmt, with fmt's text TOLD by the authors' own Lean function (tested against real Go, not proved from fmt's source: count such statements apart). THE CARD IS WHAT COUNTS. Prove the row's statement (the work); the ties are given (YthnghgnoonfgiabDoorTie.lean); close each card by the builder's one call (the guide's Derived/Test/ToyasCard.lean, 'card_holds'). Laid BY PROGRAM, IN A SANDBOX (cutbox-door.mjs). By AI agents, Wed Nov 11 2026. No macro, syntax, notation, axiom, sorry.
-/
import Derived.Test.YthnghgnoonfgiabDoorRows
import GoSem.ClaimSeven
namespace Go.Proofs.YthnghgnoonfgiabDoor
namespace Rows

/-- THE TIED CARD OF 'catchwordlaw02.UtfPuts'. -/
def utfPutsCard : Claim7 := { stood := { row := utfPutsRow, standIns := [], harness := (true, "7983a72517a5c6c647a53f4aa4189f926a4363525b8a1254e775f7de5caae00b"), looks := false }, kinds := [], alts := [], laidByText := true, laidKinds := [.data, .pinned], laidTests := true, laidLooks := .later }
def UtfPutsCardSaid : Prop := Claim7.holds Tryd.pinned (.plain (OpenSpec.ofChange utfPutsSpec)) utfPutsCard

/-- THE TIED CARD OF 'catchwordlaw02.UtfNexts'. -/
def utfNextsCard : Claim7 := { stood := { row := utfNextsRow, standIns := [], harness := (true, "7983a72517a5c6c647a53f4aa4189f926a4363525b8a1254e775f7de5caae00b"), looks := false }, kinds := [], alts := [], laidByText := true, laidKinds := [.data, .pinned], laidTests := true, laidLooks := .later }
def UtfNextsCardSaid : Prop := Claim7.holds Tryd.pinned (.plain (OpenSpec.ofChange utfNextsSpec)) utfNextsCard

/-- THE TIED CARD OF 'catchwordlaw02.UtfMaps'. -/
def utfMapsCard : Claim7 := { stood := { row := utfMapsRow, standIns := [], harness := (true, "7983a72517a5c6c647a53f4aa4189f926a4363525b8a1254e775f7de5caae00b"), looks := false }, kinds := [], alts := [], laidByText := true, laidKinds := [.data, .pinned], laidTests := true, laidLooks := .later }
def UtfMapsCardSaid : Prop := Claim7.holds Tryd.pinned (.plain (OpenSpec.ofChange utfMapsSpec)) utfMapsCard

/-- THE SECOND FORM's CARD OF 'catchwordlaw02.UtfPuts'. -/
def utfPutsUptoCard : Claim7 := { stood := { row := utfPutsUptoRow, standIns := [], harness := (true, "7983a72517a5c6c647a53f4aa4189f926a4363525b8a1254e775f7de5caae00b"), looks := false }, kinds := [], alts := [], laidByText := true, laidKinds := [.data, .pinned], laidTests := true, laidLooks := .later }
def UtfPutsUptoCardSaid : Prop := Claim7.holds Tryd.pinned (.plain (OpenSpec.upto utfPutsSpec)) utfPutsUptoCard

/-- THE SECOND FORM's CARD OF 'catchwordlaw02.UtfNexts'. -/
def utfNextsUptoCard : Claim7 := { stood := { row := utfNextsUptoRow, standIns := [], harness := (true, "7983a72517a5c6c647a53f4aa4189f926a4363525b8a1254e775f7de5caae00b"), looks := false }, kinds := [], alts := [], laidByText := true, laidKinds := [.data, .pinned], laidTests := true, laidLooks := .later }
def UtfNextsUptoCardSaid : Prop := Claim7.holds Tryd.pinned (.plain (OpenSpec.upto utfNextsSpec)) utfNextsUptoCard

/-- THE SECOND FORM's CARD OF 'catchwordlaw02.UtfMaps'. -/
def utfMapsUptoCard : Claim7 := { stood := { row := utfMapsUptoRow, standIns := [], harness := (true, "7983a72517a5c6c647a53f4aa4189f926a4363525b8a1254e775f7de5caae00b"), looks := false }, kinds := [], alts := [], laidByText := true, laidKinds := [.data, .pinned], laidTests := true, laidLooks := .later }
def UtfMapsUptoCardSaid : Prop := Claim7.holds Tryd.pinned (.plain (OpenSpec.upto utfMapsSpec)) utfMapsUptoCard
end Rows
end Go.Proofs.YthnghgnoonfgiabDoor
