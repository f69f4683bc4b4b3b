/-
  DERIVED. GIVEN WITH THE SEED: THE CARDS: each row of YtkelipedpjmmaaaGreatDoorRows.lean that lists a variable, with what it lists TIED to the program's text (the seventh form; the later family's looks); each row that meets fmt, with fmt's text TOLD by the authors' own Lean function (tested against real Go, not proved from fmt's source: count such statements apart). THE CARD IS WHAT COUNTS. Prove the row's statement (the work); the ties are given (YtkelipedpjmmaaaGreatDoorTie.lean); close each card by the builder's one call (the guide's Derived/Test/ToyasCard.lean, 'card_holds'). Laid BY PROGRAM, IN A SANDBOX (cutbox-door.mjs). By AI agents, Wed Nov 11 2026. No macro, syntax, notation, axiom, sorry.
-/
import Derived.Test.YtkelipedpjmmaaaGreatDoorRows
import GoSem.ClaimSeven
namespace Go.Proofs.YtkelipedpjmmaaaGreatDoor
namespace Rows

/-- THE TIED CARD OF 'precinctlaw09.TokenMints'. -/
def tokenMintsCard : Claim7 := { stood := { row := tokenMintsRow, standIns := [], harness := (true, "f9af47247ddaa2db967ce72e3775cccebe0ea12c3b88b57d59cbfea64f75bf6e"), looks := true }, kinds := [], alts := [], laidByText := true, laidKinds := [.data], laidTests := true, laidLooks := .later }
def TokenMintsCardSaid : Prop := Claim7.holds Tryz.pinned (.plain (OpenSpec.ofChange tokenMintsSpec)) tokenMintsCard

/-- THE SECOND FORM's CARD OF 'precinctlaw09.TokenMints'. -/
def tokenMintsUptoCard : Claim7 := { stood := { row := tokenMintsUptoRow, standIns := [], harness := (true, "f9af47247ddaa2db967ce72e3775cccebe0ea12c3b88b57d59cbfea64f75bf6e"), looks := true }, kinds := [], alts := [], laidByText := true, laidKinds := [.data], laidTests := true, laidLooks := .later }
def TokenMintsUptoCardSaid : Prop := Claim7.holds Tryz.pinned (.plain (OpenSpec.upto tokenMintsSpec)) tokenMintsUptoCard
end Rows
end Go.Proofs.YtkelipedpjmmaaaGreatDoor
