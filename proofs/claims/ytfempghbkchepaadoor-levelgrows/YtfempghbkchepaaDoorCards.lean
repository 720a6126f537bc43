/-
  DERIVED. GIVEN WITH THE SEED: THE CARDS: each row of YtfempghbkchepaaDoorRows.lean that lists a variable, with what it lists TIED to the program's text (the seventh form; the later family's looks); each row that meets fmt, with fmt's text TOLD by the authors' own Lean function (tested against real Go, not proved from fmt's source: count such statements apart). THE CARD IS WHAT COUNTS. Prove the row's statement (the work); the ties are given (YtfempghbkchepaaDoorTie.lean); close each card by the builder's one call (the guide's Derived/Test/ToyasCard.lean, 'card_holds'). Laid BY PROGRAM, IN A SANDBOX (cutbox-door.mjs). By AI agents, Wed Nov 11 2026. No macro, syntax, notation, axiom, sorry.
-/
import Derived.Test.YtfempghbkchepaaDoorRows
import GoSem.ClaimSeven
namespace Go.Proofs.YtfempghbkchepaaDoor
namespace Rows

/-- THE TIED CARD OF 'ostinatolaw20.LevelTells'. -/
def levelTellsCard : Claim7 := { stood := { row := levelTellsRow, standIns := [], harness := (true, "178b69fc1e4231e2e0d8e2121d75af6293e7d09fff083e0844adfd2e5e740ef2"), looks := false }, kinds := [], alts := [], laidByText := true, laidKinds := [.data], laidTests := true, laidLooks := .later }
def LevelTellsCardSaid : Prop := Claim7.holds Tryd.pinned (.plain (OpenSpec.ofChange levelTellsSpec)) levelTellsCard

/-- THE TIED CARD OF 'ostinatolaw20.LevelGrows'. -/
def levelGrowsCard : Claim7 := { stood := { row := levelGrowsRow, standIns := [], harness := (true, "178b69fc1e4231e2e0d8e2121d75af6293e7d09fff083e0844adfd2e5e740ef2"), looks := false }, kinds := [], alts := [], laidByText := true, laidKinds := [.data], laidTests := true, laidLooks := .later }
def LevelGrowsCardSaid : Prop := Claim7.holds Tryd.pinned (.plain (OpenSpec.ofChange levelGrowsSpec)) levelGrowsCard

/-- THE TIED CARD OF 'ostinatolaw20.LevelSteps'. -/
def levelStepsCard : Claim7 := { stood := { row := levelStepsRow, standIns := [], harness := (true, "178b69fc1e4231e2e0d8e2121d75af6293e7d09fff083e0844adfd2e5e740ef2"), looks := false }, kinds := [], alts := [], laidByText := true, laidKinds := [.data], laidTests := true, laidLooks := .later }
def LevelStepsCardSaid : Prop := Claim7.holds Tryd.pinned (.plain (OpenSpec.ofChange levelStepsSpec)) levelStepsCard

/-- THE SECOND FORM's CARD OF 'ostinatolaw20.LevelTells'. -/
def levelTellsUptoCard : Claim7 := { stood := { row := levelTellsUptoRow, standIns := [], harness := (true, "178b69fc1e4231e2e0d8e2121d75af6293e7d09fff083e0844adfd2e5e740ef2"), looks := false }, kinds := [], alts := [], laidByText := true, laidKinds := [.data], laidTests := true, laidLooks := .later }
def LevelTellsUptoCardSaid : Prop := Claim7.holds Tryd.pinned (.plain (OpenSpec.upto levelTellsSpec)) levelTellsUptoCard

/-- THE SECOND FORM's CARD OF 'ostinatolaw20.LevelGrows'. -/
def levelGrowsUptoCard : Claim7 := { stood := { row := levelGrowsUptoRow, standIns := [], harness := (true, "178b69fc1e4231e2e0d8e2121d75af6293e7d09fff083e0844adfd2e5e740ef2"), looks := false }, kinds := [], alts := [], laidByText := true, laidKinds := [.data], laidTests := true, laidLooks := .later }
def LevelGrowsUptoCardSaid : Prop := Claim7.holds Tryd.pinned (.plain (OpenSpec.upto levelGrowsSpec)) levelGrowsUptoCard

/-- THE SECOND FORM's CARD OF 'ostinatolaw20.LevelSteps'. -/
def levelStepsUptoCard : Claim7 := { stood := { row := levelStepsUptoRow, standIns := [], harness := (true, "178b69fc1e4231e2e0d8e2121d75af6293e7d09fff083e0844adfd2e5e740ef2"), looks := false }, kinds := [], alts := [], laidByText := true, laidKinds := [.data], laidTests := true, laidLooks := .later }
def LevelStepsUptoCardSaid : Prop := Claim7.holds Tryd.pinned (.plain (OpenSpec.upto levelStepsSpec)) levelStepsUptoCard
end Rows
end Go.Proofs.YtfempghbkchepaaDoor
