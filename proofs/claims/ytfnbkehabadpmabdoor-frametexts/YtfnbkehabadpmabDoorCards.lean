/-
  DERIVED. GIVEN WITH THE SEED: THE CARDS: each row of YtfnbkehabadpmabDoorRows.lean that lists a variable, with what it lists TIED to the program's text (the seventh form; the later family's looks); each row that meets fmt, with fmt's text TOLD by the authors' own Lean function (tested against real Go, not proved from fmt's source: count such statements apart). THE CARD IS WHAT COUNTS. Prove the row's statement (the work); the ties are given (YtfnbkehabadpmabDoorTie.lean); close each card by the builder's one call (the guide's Derived/Test/ToyasCard.lean, 'card_holds'). Laid BY PROGRAM, IN A SANDBOX (cutbox-door.mjs). By AI agents, Wed Nov 11 2026. No macro, syntax, notation, axiom, sorry.
-/
import Derived.Test.YtfnbkehabadpmabDoorRows
import GoSem.ClaimSeven
namespace Go.Proofs.YtfnbkehabadpmabDoor
namespace Rows

/-- THE TIED CARD OF 'ostinatolaw3.FrameLess'. -/
def frameLessCard : Claim7 := { stood := { row := frameLessRow, standIns := [], harness := (true, "f5cba5e6e2f0df2d3fc61e89571f37200d318aa744cf75416ecd44b8efc89321"), looks := false }, kinds := [], alts := [], laidByText := true, laidKinds := [.data], laidTests := true, laidLooks := .later }
def FrameLessCardSaid : Prop := Claim7.holds Tryd.pinned (.plain (OpenSpec.ofChange frameLessSpec)) frameLessCard

/-- THE TIED CARD OF 'ostinatolaw3.FrameTexts'. -/
def frameTextsCard : Claim7 := { stood := { row := frameTextsRow, standIns := [], harness := (true, "f5cba5e6e2f0df2d3fc61e89571f37200d318aa744cf75416ecd44b8efc89321"), looks := false }, kinds := [], alts := [], laidByText := true, laidKinds := [.data], laidTests := true, laidLooks := .later }
def FrameTextsCardSaid : Prop := Claim7.holds Tryd.pinned (.plain (OpenSpec.ofChange frameTextsSpec)) frameTextsCard

/-- THE SECOND FORM's CARD OF 'ostinatolaw3.FrameLess'. -/
def frameLessUptoCard : Claim7 := { stood := { row := frameLessUptoRow, standIns := [], harness := (true, "f5cba5e6e2f0df2d3fc61e89571f37200d318aa744cf75416ecd44b8efc89321"), looks := false }, kinds := [], alts := [], laidByText := true, laidKinds := [.data], laidTests := true, laidLooks := .later }
def FrameLessUptoCardSaid : Prop := Claim7.holds Tryd.pinned (.plain (OpenSpec.upto frameLessSpec)) frameLessUptoCard

/-- THE SECOND FORM's CARD OF 'ostinatolaw3.FrameTexts'. -/
def frameTextsUptoCard : Claim7 := { stood := { row := frameTextsUptoRow, standIns := [], harness := (true, "f5cba5e6e2f0df2d3fc61e89571f37200d318aa744cf75416ecd44b8efc89321"), looks := false }, kinds := [], alts := [], laidByText := true, laidKinds := [.data], laidTests := true, laidLooks := .later }
def FrameTextsUptoCardSaid : Prop := Claim7.holds Tryd.pinned (.plain (OpenSpec.upto frameTextsSpec)) frameTextsUptoCard
end Rows
end Go.Proofs.YtfnbkehabadpmabDoor
