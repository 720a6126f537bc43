/-
  DERIVED. GIVEN WITH THE SEED: THE CARDS: each row of YtdaiooelglablaaDoorRows.lean that lists a variable, with what it lists TIED to the program's text (the seventh form; the later family's looks); each row that meets fmt, with fmt's text TOLD by the authors' own Lean function (tested against real Go, not proved from fmt's source: count such statements apart). THE CARD IS WHAT COUNTS. Prove the row's statement (the work); the ties are given (YtdaiooelglablaaDoorTie.lean); close each card by the builder's one call (the guide's Derived/Test/ToyasCard.lean, 'card_holds'). Laid BY PROGRAM, IN A SANDBOX (cutbox-door.mjs). By AI agents, Wed Nov 11 2026. No macro, syntax, notation, axiom, sorry.
-/
import Derived.Test.YtdaiooelglablaaDoorRows
import GoSem.ClaimSeven
namespace Go.Proofs.YtdaiooelglablaaDoor
namespace Rows

/-- THE TIED CARD OF 'ostinatolaw14.CheckTells'. -/
def checkTellsCard : Claim7 := { stood := { row := checkTellsRow, standIns := [], harness := (true, "70a59080a4503036fcb88bb415f67636c16fd9d137b95f320b294d88ea58c58b"), looks := false }, kinds := [], alts := [], laidByText := true, laidKinds := [.data], laidTests := true, laidLooks := .later }
def CheckTellsCardSaid : Prop := Claim7.holds Tryd.pinned (.plain (OpenSpec.ofChange checkTellsSpec)) checkTellsCard

/-- THE TIED CARD OF 'ostinatolaw14.CheckPasses'. -/
def checkPassesCard : Claim7 := { stood := { row := checkPassesRow, standIns := [], harness := (true, "70a59080a4503036fcb88bb415f67636c16fd9d137b95f320b294d88ea58c58b"), looks := false }, kinds := [], alts := [], laidByText := true, laidKinds := [.data], laidTests := true, laidLooks := .later }
def CheckPassesCardSaid : Prop := Claim7.holds Tryd.pinned (.plain (OpenSpec.ofChange checkPassesSpec)) checkPassesCard

/-- THE TIED CARD OF 'ostinatolaw14.CheckOne'. -/
def checkOneCard : Claim7 := { stood := { row := checkOneRow, standIns := [], harness := (true, "70a59080a4503036fcb88bb415f67636c16fd9d137b95f320b294d88ea58c58b"), looks := false }, kinds := [], alts := [], laidByText := true, laidKinds := [.data], laidTests := true, laidLooks := .later }
def CheckOneCardSaid : Prop := Claim7.holds Tryd.pinned (.plain (OpenSpec.ofChange checkOneSpec)) checkOneCard

/-- THE TIED CARD OF 'ostinatolaw14.CheckUnits'. -/
def checkUnitsCard : Claim7 := { stood := { row := checkUnitsRow, standIns := [], harness := (true, "70a59080a4503036fcb88bb415f67636c16fd9d137b95f320b294d88ea58c58b"), looks := false }, kinds := [], alts := [], laidByText := true, laidKinds := [.data], laidTests := true, laidLooks := .later }
def CheckUnitsCardSaid : Prop := Claim7.holds Tryd.pinned (.plain (OpenSpec.ofChange checkUnitsSpec)) checkUnitsCard

/-- THE TIED CARD OF 'ostinatolaw14.CheckMeets'. -/
def checkMeetsCard : Claim7 := { stood := { row := checkMeetsRow, standIns := [], harness := (true, "70a59080a4503036fcb88bb415f67636c16fd9d137b95f320b294d88ea58c58b"), looks := false }, kinds := [], alts := [], laidByText := true, laidKinds := [.data], laidTests := true, laidLooks := .later }
def CheckMeetsCardSaid : Prop := Claim7.holds Tryd.pinned (.plain (OpenSpec.ofChange checkMeetsSpec)) checkMeetsCard

/-- THE TIED CARD OF 'ostinatolaw14.CheckRoom'. -/
def checkRoomCard : Claim7 := { stood := { row := checkRoomRow, standIns := [], harness := (true, "70a59080a4503036fcb88bb415f67636c16fd9d137b95f320b294d88ea58c58b"), looks := false }, kinds := [], alts := [], laidByText := true, laidKinds := [.data], laidTests := true, laidLooks := .later }
def CheckRoomCardSaid : Prop := Claim7.holds Tryd.pinned (.plain (OpenSpec.ofChange checkRoomSpec)) checkRoomCard

/-- THE SECOND FORM's CARD OF 'ostinatolaw14.CheckTells'. -/
def checkTellsUptoCard : Claim7 := { stood := { row := checkTellsUptoRow, standIns := [], harness := (true, "70a59080a4503036fcb88bb415f67636c16fd9d137b95f320b294d88ea58c58b"), looks := false }, kinds := [], alts := [], laidByText := true, laidKinds := [.data], laidTests := true, laidLooks := .later }
def CheckTellsUptoCardSaid : Prop := Claim7.holds Tryd.pinned (.plain (OpenSpec.upto checkTellsSpec)) checkTellsUptoCard

/-- THE SECOND FORM's CARD OF 'ostinatolaw14.CheckPasses'. -/
def checkPassesUptoCard : Claim7 := { stood := { row := checkPassesUptoRow, standIns := [], harness := (true, "70a59080a4503036fcb88bb415f67636c16fd9d137b95f320b294d88ea58c58b"), looks := false }, kinds := [], alts := [], laidByText := true, laidKinds := [.data], laidTests := true, laidLooks := .later }
def CheckPassesUptoCardSaid : Prop := Claim7.holds Tryd.pinned (.plain (OpenSpec.upto checkPassesSpec)) checkPassesUptoCard

/-- THE SECOND FORM's CARD OF 'ostinatolaw14.CheckOne'. -/
def checkOneUptoCard : Claim7 := { stood := { row := checkOneUptoRow, standIns := [], harness := (true, "70a59080a4503036fcb88bb415f67636c16fd9d137b95f320b294d88ea58c58b"), looks := false }, kinds := [], alts := [], laidByText := true, laidKinds := [.data], laidTests := true, laidLooks := .later }
def CheckOneUptoCardSaid : Prop := Claim7.holds Tryd.pinned (.plain (OpenSpec.upto checkOneSpec)) checkOneUptoCard

/-- THE SECOND FORM's CARD OF 'ostinatolaw14.CheckUnits'. -/
def checkUnitsUptoCard : Claim7 := { stood := { row := checkUnitsUptoRow, standIns := [], harness := (true, "70a59080a4503036fcb88bb415f67636c16fd9d137b95f320b294d88ea58c58b"), looks := false }, kinds := [], alts := [], laidByText := true, laidKinds := [.data], laidTests := true, laidLooks := .later }
def CheckUnitsUptoCardSaid : Prop := Claim7.holds Tryd.pinned (.plain (OpenSpec.upto checkUnitsSpec)) checkUnitsUptoCard

/-- THE SECOND FORM's CARD OF 'ostinatolaw14.CheckMeets'. -/
def checkMeetsUptoCard : Claim7 := { stood := { row := checkMeetsUptoRow, standIns := [], harness := (true, "70a59080a4503036fcb88bb415f67636c16fd9d137b95f320b294d88ea58c58b"), looks := false }, kinds := [], alts := [], laidByText := true, laidKinds := [.data], laidTests := true, laidLooks := .later }
def CheckMeetsUptoCardSaid : Prop := Claim7.holds Tryd.pinned (.plain (OpenSpec.upto checkMeetsSpec)) checkMeetsUptoCard

/-- THE SECOND FORM's CARD OF 'ostinatolaw14.CheckRoom'. -/
def checkRoomUptoCard : Claim7 := { stood := { row := checkRoomUptoRow, standIns := [], harness := (true, "70a59080a4503036fcb88bb415f67636c16fd9d137b95f320b294d88ea58c58b"), looks := false }, kinds := [], alts := [], laidByText := true, laidKinds := [.data], laidTests := true, laidLooks := .later }
def CheckRoomUptoCardSaid : Prop := Claim7.holds Tryd.pinned (.plain (OpenSpec.upto checkRoomSpec)) checkRoomUptoCard
end Rows
end Go.Proofs.YtdaiooelglablaaDoor
