/-
  DERIVED. GIVEN WITH THE SEED: THE CARDS: each row of YtiocdngkhdoigaaDoorRows.lean that lists a variable, with what it lists TIED to the program's text (the seventh form; the later family's looks); each row that meets fmt, with fmt's text TOLD by the authors' own Lean function (tested against real Go, not proved from fmt's source: count such statements apart). THE CARD IS WHAT COUNTS. Prove the row's statement (the work); the ties are given (YtiocdngkhdoigaaDoorTie.lean); close each card by the builder's one call (the guide's Derived/Test/ToyasCard.lean, 'card_holds'). Laid BY PROGRAM, IN A SANDBOX (cutbox-door.mjs). By AI agents, Wed Nov 11 2026. No macro, syntax, notation, axiom, sorry.
-/
import Derived.Test.YtiocdngkhdoigaaDoorRows
import GoSem.ClaimSeven
namespace Go.Proofs.YtiocdngkhdoigaaDoor
namespace Rows

/-- THE TIED CARD OF 'catchwordlaw05.XmlAgain'. -/
def xmlAgainCard : Claim7 := { stood := { row := xmlAgainRow, standIns := [], harness := (true, "9e650237b9a7fdc06bf2e45f473d7afac3481b91e1d7fa364c07be2e6f39b819"), looks := true }, kinds := [], alts := [], laidByText := true, laidKinds := [.data, .data, .data, .data, .sentinel, .sentinel, .pinned], laidTests := true, laidLooks := .later }
def XmlAgainCardSaid : Prop := Claim7.holds Tryd.pinned (.plain (OpenSpec.ofChange xmlAgainSpec)) xmlAgainCard

/-- THE TIED CARD OF 'catchwordlaw05.XmlErrors'. -/
def xmlErrorsCard : Claim7 := { stood := { row := xmlErrorsRow, standIns := [], harness := (true, "9e650237b9a7fdc06bf2e45f473d7afac3481b91e1d7fa364c07be2e6f39b819"), looks := true }, kinds := [], alts := [], laidByText := true, laidKinds := [.data, .data, .data, .data, .sentinel, .sentinel, .pinned], laidTests := true, laidLooks := .later }
def XmlErrorsCardSaid : Prop := Claim7.holds Tryd.pinned (.plain (OpenSpec.ofChange xmlErrorsSpec)) xmlErrorsCard

/-- THE TIED CARD OF 'catchwordlaw05.XmlDeep'. -/
def xmlDeepCard : Claim7 := { stood := { row := xmlDeepRow, standIns := [], harness := (true, "9e650237b9a7fdc06bf2e45f473d7afac3481b91e1d7fa364c07be2e6f39b819"), looks := true }, kinds := [], alts := [], laidByText := true, laidKinds := [.data, .data, .data, .data, .sentinel, .sentinel, .pinned], laidTests := true, laidLooks := .later }
def XmlDeepCardSaid : Prop := Claim7.holds Tryd.pinned (.plain (OpenSpec.ofChange xmlDeepSpec)) xmlDeepCard

/-- THE TIED CARD OF 'catchwordlaw05.XmlMany'. -/
def xmlManyCard : Claim7 := { stood := { row := xmlManyRow, standIns := [], harness := (true, "9e650237b9a7fdc06bf2e45f473d7afac3481b91e1d7fa364c07be2e6f39b819"), looks := true }, kinds := [], alts := [], laidByText := true, laidKinds := [.data, .data, .data, .data, .sentinel, .sentinel, .pinned], laidTests := true, laidLooks := .later }
def XmlManyCardSaid : Prop := Claim7.holds Tryd.pinned (.plain (OpenSpec.ofChange xmlManySpec)) xmlManyCard

/-- THE TIED CARD OF 'catchwordlaw05.XmlRefs'. -/
def xmlRefsCard : Claim7 := { stood := { row := xmlRefsRow, standIns := [], harness := (true, "9e650237b9a7fdc06bf2e45f473d7afac3481b91e1d7fa364c07be2e6f39b819"), looks := true }, kinds := [], alts := [], laidByText := true, laidKinds := [.data, .data, .data, .data, .sentinel, .sentinel, .pinned], laidTests := true, laidLooks := .later }
def XmlRefsCardSaid : Prop := Claim7.holds Tryd.pinned (.plain (OpenSpec.ofChange xmlRefsSpec)) xmlRefsCard

/-- THE TIED CARD OF 'catchwordlaw05.XmlQuotes'. -/
def xmlQuotesCard : Claim7 := { stood := { row := xmlQuotesRow, standIns := [], harness := (true, "9e650237b9a7fdc06bf2e45f473d7afac3481b91e1d7fa364c07be2e6f39b819"), looks := true }, kinds := [], alts := [], laidByText := true, laidKinds := [.data, .data, .data, .data, .sentinel, .sentinel, .pinned], laidTests := true, laidLooks := .later }
def XmlQuotesCardSaid : Prop := Claim7.holds Tryd.pinned (.plain (OpenSpec.ofChange xmlQuotesSpec)) xmlQuotesCard

/-- THE SECOND FORM's CARD OF 'catchwordlaw05.XmlAgain'. -/
def xmlAgainUptoCard : Claim7 := { stood := { row := xmlAgainUptoRow, standIns := [], harness := (true, "9e650237b9a7fdc06bf2e45f473d7afac3481b91e1d7fa364c07be2e6f39b819"), looks := true }, kinds := [], alts := [], laidByText := true, laidKinds := [.data, .data, .data, .data, .sentinel, .sentinel, .pinned], laidTests := true, laidLooks := .later }
def XmlAgainUptoCardSaid : Prop := Claim7.holds Tryd.pinned (.plain (OpenSpec.upto xmlAgainSpec)) xmlAgainUptoCard

/-- THE SECOND FORM's CARD OF 'catchwordlaw05.XmlErrors'. -/
def xmlErrorsUptoCard : Claim7 := { stood := { row := xmlErrorsUptoRow, standIns := [], harness := (true, "9e650237b9a7fdc06bf2e45f473d7afac3481b91e1d7fa364c07be2e6f39b819"), looks := true }, kinds := [], alts := [], laidByText := true, laidKinds := [.data, .data, .data, .data, .sentinel, .sentinel, .pinned], laidTests := true, laidLooks := .later }
def XmlErrorsUptoCardSaid : Prop := Claim7.holds Tryd.pinned (.plain (OpenSpec.upto xmlErrorsSpec)) xmlErrorsUptoCard

/-- THE SECOND FORM's CARD OF 'catchwordlaw05.XmlDeep'. -/
def xmlDeepUptoCard : Claim7 := { stood := { row := xmlDeepUptoRow, standIns := [], harness := (true, "9e650237b9a7fdc06bf2e45f473d7afac3481b91e1d7fa364c07be2e6f39b819"), looks := true }, kinds := [], alts := [], laidByText := true, laidKinds := [.data, .data, .data, .data, .sentinel, .sentinel, .pinned], laidTests := true, laidLooks := .later }
def XmlDeepUptoCardSaid : Prop := Claim7.holds Tryd.pinned (.plain (OpenSpec.upto xmlDeepSpec)) xmlDeepUptoCard

/-- THE SECOND FORM's CARD OF 'catchwordlaw05.XmlMany'. -/
def xmlManyUptoCard : Claim7 := { stood := { row := xmlManyUptoRow, standIns := [], harness := (true, "9e650237b9a7fdc06bf2e45f473d7afac3481b91e1d7fa364c07be2e6f39b819"), looks := true }, kinds := [], alts := [], laidByText := true, laidKinds := [.data, .data, .data, .data, .sentinel, .sentinel, .pinned], laidTests := true, laidLooks := .later }
def XmlManyUptoCardSaid : Prop := Claim7.holds Tryd.pinned (.plain (OpenSpec.upto xmlManySpec)) xmlManyUptoCard

/-- THE SECOND FORM's CARD OF 'catchwordlaw05.XmlRefs'. -/
def xmlRefsUptoCard : Claim7 := { stood := { row := xmlRefsUptoRow, standIns := [], harness := (true, "9e650237b9a7fdc06bf2e45f473d7afac3481b91e1d7fa364c07be2e6f39b819"), looks := true }, kinds := [], alts := [], laidByText := true, laidKinds := [.data, .data, .data, .data, .sentinel, .sentinel, .pinned], laidTests := true, laidLooks := .later }
def XmlRefsUptoCardSaid : Prop := Claim7.holds Tryd.pinned (.plain (OpenSpec.upto xmlRefsSpec)) xmlRefsUptoCard

/-- THE SECOND FORM's CARD OF 'catchwordlaw05.XmlQuotes'. -/
def xmlQuotesUptoCard : Claim7 := { stood := { row := xmlQuotesUptoRow, standIns := [], harness := (true, "9e650237b9a7fdc06bf2e45f473d7afac3481b91e1d7fa364c07be2e6f39b819"), looks := true }, kinds := [], alts := [], laidByText := true, laidKinds := [.data, .data, .data, .data, .sentinel, .sentinel, .pinned], laidTests := true, laidLooks := .later }
def XmlQuotesUptoCardSaid : Prop := Claim7.holds Tryd.pinned (.plain (OpenSpec.upto xmlQuotesSpec)) xmlQuotesUptoCard
end Rows
end Go.Proofs.YtiocdngkhdoigaaDoor
