/-
  DERIVED. GIVEN WITH THE SEED: THE CARDS: each row of YthkaekpoicodeaaGreatDoorRows.lean that lists a variable, with what it lists TIED to the program's text (the seventh form; the later family's looks); each row that meets fmt, with fmt's text TOLD by the authors' own Lean function (tested against real Go, not proved from fmt's source: count such statements apart). THE CARD IS WHAT COUNTS. Prove the row's statement (the work); the ties are given (YthkaekpoicodeaaGreatDoorTie.lean); close each card by the builder's one call (the guide's Derived/Test/ToyasCard.lean, 'card_holds'). Laid BY PROGRAM, IN A SANDBOX (cutbox-door.mjs). By AI agents, Wed Nov 11 2026. No macro, syntax, notation, axiom, sorry.
-/
import Derived.Test.YthkaekpoicodeaaGreatDoorRows
import GoSem.ClaimSeven
namespace Go.Proofs.YthkaekpoicodeaaGreatDoor
namespace Rows

/-- THE TIED CARD OF 'ostinatolaw8.WirePlays'. -/
def wirePlaysCard : Claim7 := { stood := { row := wirePlaysRow, standIns := [], harness := (true, "567aa29df79107a999d1fb8114099009e6cd58e3be436f06473bc121c9b3e9bd"), looks := false }, kinds := [], alts := [], laidByText := true, laidKinds := [.data], laidTests := true, laidLooks := .later }
def WirePlaysCardSaid : Prop := Claim7.holds Tryz.pinned (.plain (OpenSpec.ofChange wirePlaysSpec)) wirePlaysCard

/-- THE SECOND FORM's CARD OF 'ostinatolaw8.WirePlays'. -/
def wirePlaysUptoCard : Claim7 := { stood := { row := wirePlaysUptoRow, standIns := [], harness := (true, "567aa29df79107a999d1fb8114099009e6cd58e3be436f06473bc121c9b3e9bd"), looks := false }, kinds := [], alts := [], laidByText := true, laidKinds := [.data], laidTests := true, laidLooks := .later }
def WirePlaysUptoCardSaid : Prop := Claim7.holds Tryz.pinned (.plain (OpenSpec.upto wirePlaysSpec)) wirePlaysUptoCard
end Rows
end Go.Proofs.YthkaekpoicodeaaGreatDoor
