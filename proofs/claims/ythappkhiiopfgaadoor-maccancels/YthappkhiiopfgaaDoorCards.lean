/-
  DERIVED. GIVEN WITH THE SEED: THE CARDS: each row of YthappkhiiopfgaaDoorRows.lean that lists a variable, with what it lists TIED to the program's text (the seventh form; the later family's looks); each row that meets fmt, with fmt's text TOLD by the authors' own Lean function (tested against real Go, not proved from fmt's source: count such statements apart). THE CARD IS WHAT COUNTS. Prove the row's statement (the work); the ties are given (YthappkhiiopfgaaDoorTie.lean); close each card by the builder's one call (the guide's Derived/Test/ToyasCard.lean, 'card_holds'). Laid BY PROGRAM, IN A SANDBOX (cutbox-door.mjs). By AI agents, Wed Nov 11 2026. No macro, syntax, notation, axiom, sorry.
-/
import Derived.Test.YthappkhiiopfgaaDoorRows
import GoSem.ClaimSeven
namespace Go.Proofs.YthappkhiiopfgaaDoor
namespace Rows

/-- THE TIED CARD OF 'ostinatolaw7.MacHears'. -/
def macHearsCard : Claim7 := { stood := { row := macHearsRow, standIns := [], harness := (true, "73dea4229fcbfb92b5250147840330a5602f41de228114bc5683048ef1e4a5ae"), looks := false }, kinds := [], alts := [], laidByText := true, laidKinds := [.data], laidTests := true, laidLooks := .later }
def MacHearsCardSaid : Prop := Claim7.holds Tryd.pinned (.plain (OpenSpec.ofChange macHearsSpec)) macHearsCard

/-- THE TIED CARD OF 'ostinatolaw7.MacLoses'. -/
def macLosesCard : Claim7 := { stood := { row := macLosesRow, standIns := [], harness := (true, "73dea4229fcbfb92b5250147840330a5602f41de228114bc5683048ef1e4a5ae"), looks := false }, kinds := [], alts := [], laidByText := true, laidKinds := [.data], laidTests := true, laidLooks := .later }
def MacLosesCardSaid : Prop := Claim7.holds Tryd.pinned (.plain (OpenSpec.ofChange macLosesSpec)) macLosesCard

/-- THE TIED CARD OF 'ostinatolaw7.MacAlone'. -/
def macAloneCard : Claim7 := { stood := { row := macAloneRow, standIns := [], harness := (true, "73dea4229fcbfb92b5250147840330a5602f41de228114bc5683048ef1e4a5ae"), looks := false }, kinds := [], alts := [], laidByText := true, laidKinds := [.data], laidTests := true, laidLooks := .later }
def MacAloneCardSaid : Prop := Claim7.holds Tryd.pinned (.plain (OpenSpec.ofChange macAloneSpec)) macAloneCard

/-- THE TIED CARD OF 'ostinatolaw7.MacCancels'. -/
def macCancelsCard : Claim7 := { stood := { row := macCancelsRow, standIns := [], harness := (true, "73dea4229fcbfb92b5250147840330a5602f41de228114bc5683048ef1e4a5ae"), looks := false }, kinds := [], alts := [], laidByText := true, laidKinds := [.data], laidTests := true, laidLooks := .later }
def MacCancelsCardSaid : Prop := Claim7.holds Tryd.pinned (.plain (OpenSpec.ofChange macCancelsSpec)) macCancelsCard

/-- THE TIED CARD OF 'ostinatolaw7.MacFlags'. -/
def macFlagsCard : Claim7 := { stood := { row := macFlagsRow, standIns := [], harness := (true, "73dea4229fcbfb92b5250147840330a5602f41de228114bc5683048ef1e4a5ae"), looks := false }, kinds := [], alts := [], laidByText := true, laidKinds := [.data], laidTests := true, laidLooks := .later }
def MacFlagsCardSaid : Prop := Claim7.holds Tryd.pinned (.plain (OpenSpec.ofChange macFlagsSpec)) macFlagsCard

/-- THE SECOND FORM's CARD OF 'ostinatolaw7.MacHears'. -/
def macHearsUptoCard : Claim7 := { stood := { row := macHearsUptoRow, standIns := [], harness := (true, "73dea4229fcbfb92b5250147840330a5602f41de228114bc5683048ef1e4a5ae"), looks := false }, kinds := [], alts := [], laidByText := true, laidKinds := [.data], laidTests := true, laidLooks := .later }
def MacHearsUptoCardSaid : Prop := Claim7.holds Tryd.pinned (.plain (OpenSpec.upto macHearsSpec)) macHearsUptoCard

/-- THE SECOND FORM's CARD OF 'ostinatolaw7.MacLoses'. -/
def macLosesUptoCard : Claim7 := { stood := { row := macLosesUptoRow, standIns := [], harness := (true, "73dea4229fcbfb92b5250147840330a5602f41de228114bc5683048ef1e4a5ae"), looks := false }, kinds := [], alts := [], laidByText := true, laidKinds := [.data], laidTests := true, laidLooks := .later }
def MacLosesUptoCardSaid : Prop := Claim7.holds Tryd.pinned (.plain (OpenSpec.upto macLosesSpec)) macLosesUptoCard

/-- THE SECOND FORM's CARD OF 'ostinatolaw7.MacAlone'. -/
def macAloneUptoCard : Claim7 := { stood := { row := macAloneUptoRow, standIns := [], harness := (true, "73dea4229fcbfb92b5250147840330a5602f41de228114bc5683048ef1e4a5ae"), looks := false }, kinds := [], alts := [], laidByText := true, laidKinds := [.data], laidTests := true, laidLooks := .later }
def MacAloneUptoCardSaid : Prop := Claim7.holds Tryd.pinned (.plain (OpenSpec.upto macAloneSpec)) macAloneUptoCard

/-- THE SECOND FORM's CARD OF 'ostinatolaw7.MacCancels'. -/
def macCancelsUptoCard : Claim7 := { stood := { row := macCancelsUptoRow, standIns := [], harness := (true, "73dea4229fcbfb92b5250147840330a5602f41de228114bc5683048ef1e4a5ae"), looks := false }, kinds := [], alts := [], laidByText := true, laidKinds := [.data], laidTests := true, laidLooks := .later }
def MacCancelsUptoCardSaid : Prop := Claim7.holds Tryd.pinned (.plain (OpenSpec.upto macCancelsSpec)) macCancelsUptoCard

/-- THE SECOND FORM's CARD OF 'ostinatolaw7.MacFlags'. -/
def macFlagsUptoCard : Claim7 := { stood := { row := macFlagsUptoRow, standIns := [], harness := (true, "73dea4229fcbfb92b5250147840330a5602f41de228114bc5683048ef1e4a5ae"), looks := false }, kinds := [], alts := [], laidByText := true, laidKinds := [.data], laidTests := true, laidLooks := .later }
def MacFlagsUptoCardSaid : Prop := Claim7.holds Tryd.pinned (.plain (OpenSpec.upto macFlagsSpec)) macFlagsUptoCard
end Rows
end Go.Proofs.YthappkhiiopfgaaDoor
