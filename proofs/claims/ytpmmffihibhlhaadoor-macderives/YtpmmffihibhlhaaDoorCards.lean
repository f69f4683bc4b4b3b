/-
  DERIVED. GIVEN WITH THE SEED: THE CARDS: each row of YtpmmffihibhlhaaDoorRows.lean that lists a variable, with what it lists TIED to the program's text (the seventh form; the later family's looks); each row that meets fmt, with fmt's text TOLD by the authors' own Lean function (tested against real Go, not proved from fmt's source: count such statements apart). THE CARD IS WHAT COUNTS. Prove the row's statement (the work); the ties are given (YtpmmffihibhlhaaDoorTie.lean); close each card by the builder's one call (the guide's Derived/Test/ToyasCard.lean, 'card_holds'). Laid BY PROGRAM, IN A SANDBOX (cutbox-door.mjs). By AI agents, Wed Nov 11 2026. No macro, syntax, notation, axiom, sorry.
-/
import Derived.Test.YtpmmffihibhlhaaDoorRows
import GoSem.ClaimSeven
namespace Go.Proofs.YtpmmffihibhlhaaDoor
namespace Rows

/-- THE TIED CARD OF 'precinctlaw05.MacTags'. -/
def macTagsCard : Claim7 := { stood := { row := macTagsRow, standIns := [], harness := (true, "5ea2a390f69e00d759d07ed98a99a6374fa98c03ab3318fdadf9e52099dbdf19"), looks := true }, kinds := [], alts := [], laidByText := true, laidKinds := [.data], laidTests := true, laidLooks := .later }
def MacTagsCardSaid : Prop := Claim7.holds Tryd.pinned (.plain (OpenSpec.ofChange macTagsSpec)) macTagsCard

/-- THE TIED CARD OF 'precinctlaw05.MacLays'. -/
def macLaysCard : Claim7 := { stood := { row := macLaysRow, standIns := [], harness := (true, "5ea2a390f69e00d759d07ed98a99a6374fa98c03ab3318fdadf9e52099dbdf19"), looks := true }, kinds := [], alts := [], laidByText := true, laidKinds := [.data], laidTests := true, laidLooks := .later }
def MacLaysCardSaid : Prop := Claim7.holds Tryd.pinned (.plain (OpenSpec.ofChange macLaysSpec)) macLaysCard

/-- THE TIED CARD OF 'precinctlaw05.MacDerives'. -/
def macDerivesCard : Claim7 := { stood := { row := macDerivesRow, standIns := [], harness := (true, "5ea2a390f69e00d759d07ed98a99a6374fa98c03ab3318fdadf9e52099dbdf19"), looks := true }, kinds := [], alts := [], laidByText := true, laidKinds := [.data], laidTests := true, laidLooks := .later }
def MacDerivesCardSaid : Prop := Claim7.holds Tryd.pinned (.plain (OpenSpec.ofChange macDerivesSpec)) macDerivesCard

/-- THE TIED CARD OF 'precinctlaw05.MacWhole'. -/
def macWholeCard : Claim7 := { stood := { row := macWholeRow, standIns := [], harness := (true, "5ea2a390f69e00d759d07ed98a99a6374fa98c03ab3318fdadf9e52099dbdf19"), looks := true }, kinds := [], alts := [], laidByText := true, laidKinds := [.data], laidTests := true, laidLooks := .later }
def MacWholeCardSaid : Prop := Claim7.holds Tryd.pinned (.plain (OpenSpec.ofChange macWholeSpec)) macWholeCard

/-- THE SECOND FORM's CARD OF 'precinctlaw05.MacTags'. -/
def macTagsUptoCard : Claim7 := { stood := { row := macTagsUptoRow, standIns := [], harness := (true, "5ea2a390f69e00d759d07ed98a99a6374fa98c03ab3318fdadf9e52099dbdf19"), looks := true }, kinds := [], alts := [], laidByText := true, laidKinds := [.data], laidTests := true, laidLooks := .later }
def MacTagsUptoCardSaid : Prop := Claim7.holds Tryd.pinned (.plain (OpenSpec.upto macTagsSpec)) macTagsUptoCard

/-- THE SECOND FORM's CARD OF 'precinctlaw05.MacLays'. -/
def macLaysUptoCard : Claim7 := { stood := { row := macLaysUptoRow, standIns := [], harness := (true, "5ea2a390f69e00d759d07ed98a99a6374fa98c03ab3318fdadf9e52099dbdf19"), looks := true }, kinds := [], alts := [], laidByText := true, laidKinds := [.data], laidTests := true, laidLooks := .later }
def MacLaysUptoCardSaid : Prop := Claim7.holds Tryd.pinned (.plain (OpenSpec.upto macLaysSpec)) macLaysUptoCard

/-- THE SECOND FORM's CARD OF 'precinctlaw05.MacDerives'. -/
def macDerivesUptoCard : Claim7 := { stood := { row := macDerivesUptoRow, standIns := [], harness := (true, "5ea2a390f69e00d759d07ed98a99a6374fa98c03ab3318fdadf9e52099dbdf19"), looks := true }, kinds := [], alts := [], laidByText := true, laidKinds := [.data], laidTests := true, laidLooks := .later }
def MacDerivesUptoCardSaid : Prop := Claim7.holds Tryd.pinned (.plain (OpenSpec.upto macDerivesSpec)) macDerivesUptoCard

/-- THE SECOND FORM's CARD OF 'precinctlaw05.MacWhole'. -/
def macWholeUptoCard : Claim7 := { stood := { row := macWholeUptoRow, standIns := [], harness := (true, "5ea2a390f69e00d759d07ed98a99a6374fa98c03ab3318fdadf9e52099dbdf19"), looks := true }, kinds := [], alts := [], laidByText := true, laidKinds := [.data], laidTests := true, laidLooks := .later }
def MacWholeUptoCardSaid : Prop := Claim7.holds Tryd.pinned (.plain (OpenSpec.upto macWholeSpec)) macWholeUptoCard
end Rows
end Go.Proofs.YtpmmffihibhlhaaDoor
