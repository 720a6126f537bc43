/-
  DERIVED. GIVEN WITH THE SEED: THE CARDS: each row of YthappkhiiopfgaaGreatDoorRows.lean that lists a variable, with what it lists TIED to the program's text (the seventh form; the later family's looks); each row that meets fmt, with fmt's text TOLD by the authors' own Lean function (tested against real Go, not proved from fmt's source: count such statements apart). THE CARD IS WHAT COUNTS. Prove the row's statement (the work); the ties are given (YthappkhiiopfgaaGreatDoorTie.lean); close each card by the builder's one call (the guide's Derived/Test/ToyasCard.lean, 'card_holds'). Laid BY PROGRAM, IN A SANDBOX (cutbox-door.mjs). By AI agents, Wed Nov 11 2026. No macro, syntax, notation, axiom, sorry.
-/
import Derived.Test.YthappkhiiopfgaaGreatDoorRows
import GoSem.ClaimSeven
namespace Go.Proofs.YthappkhiiopfgaaGreatDoor
namespace Rows

/-- THE TIED CARD OF 'ostinatolaw7.MacPlays'. -/
def macPlaysCard : Claim7 := { stood := { row := macPlaysRow, standIns := [], harness := (true, "599d8a533fd1966028b8051f51568749bde1055002600af30b7d900c0d48dc87"), looks := false }, kinds := [], alts := [], laidByText := true, laidKinds := [.data], laidTests := true, laidLooks := .later }
def MacPlaysCardSaid : Prop := Claim7.holds Tryz.pinned (.plain (OpenSpec.ofChange macPlaysSpec)) macPlaysCard

/-- THE SECOND FORM's CARD OF 'ostinatolaw7.MacPlays'. -/
def macPlaysUptoCard : Claim7 := { stood := { row := macPlaysUptoRow, standIns := [], harness := (true, "599d8a533fd1966028b8051f51568749bde1055002600af30b7d900c0d48dc87"), looks := false }, kinds := [], alts := [], laidByText := true, laidKinds := [.data], laidTests := true, laidLooks := .later }
def MacPlaysUptoCardSaid : Prop := Claim7.holds Tryz.pinned (.plain (OpenSpec.upto macPlaysSpec)) macPlaysUptoCard
end Rows
end Go.Proofs.YthappkhiiopfgaaGreatDoor
