/-
  DERIVED. GIVEN WITH THE SEED: THE CARDS: each row of YthappkhiiopfgabDoorRows.lean that lists a variable, with what it lists TIED to the program's text (the seventh form; the later family's looks); each row that meets fmt, with fmt's text TOLD by the authors' own Lean function (tested against real Go, not proved from fmt's source: count such statements apart). THE CARD IS WHAT COUNTS. Prove the row's statement (the work); the ties are given (YthappkhiiopfgabDoorTie.lean); close each card by the builder's one call (the guide's Derived/Test/ToyasCard.lean, 'card_holds'). Laid BY PROGRAM, IN A SANDBOX (cutbox-door.mjs). By AI agents, Wed Nov 11 2026. No macro, syntax, notation, axiom, sorry.
-/
import Derived.Test.YthappkhiiopfgabDoorRows
import GoSem.ClaimSeven
namespace Go.Proofs.YthappkhiiopfgabDoor
namespace Rows

/-- THE TIED CARD OF 'ostinatolaw7.MacPassive'. -/
def macPassiveCard : Claim7 := { stood := { row := macPassiveRow, standIns := [], harness := (true, "c5bf0b9ddfbaf7e9a3639d6360a5ac9c1d6d4f7e887ea14981c5d53b082d3bda"), looks := false }, kinds := [], alts := [], laidByText := true, laidKinds := [.data], laidTests := true, laidLooks := .later }
def MacPassiveCardSaid : Prop := Claim7.holds Tryd.pinned (.plain (OpenSpec.ofChange macPassiveSpec)) macPassiveCard

/-- THE TIED CARD OF 'ostinatolaw7.MacBit'. -/
def macBitCard : Claim7 := { stood := { row := macBitRow, standIns := [], harness := (true, "c5bf0b9ddfbaf7e9a3639d6360a5ac9c1d6d4f7e887ea14981c5d53b082d3bda"), looks := false }, kinds := [], alts := [], laidByText := true, laidKinds := [.data], laidTests := true, laidLooks := .later }
def MacBitCardSaid : Prop := Claim7.holds Tryd.pinned (.plain (OpenSpec.ofChange macBitSpec)) macBitCard

/-- THE TIED CARD OF 'ostinatolaw7.MacWaits'. -/
def macWaitsCard : Claim7 := { stood := { row := macWaitsRow, standIns := [], harness := (true, "c5bf0b9ddfbaf7e9a3639d6360a5ac9c1d6d4f7e887ea14981c5d53b082d3bda"), looks := false }, kinds := [], alts := [], laidByText := true, laidKinds := [.data], laidTests := true, laidLooks := .later }
def MacWaitsCardSaid : Prop := Claim7.holds Tryd.pinned (.plain (OpenSpec.ofChange macWaitsSpec)) macWaitsCard

/-- THE TIED CARD OF 'ostinatolaw7.MacSums'. -/
def macSumsCard : Claim7 := { stood := { row := macSumsRow, standIns := [], harness := (true, "c5bf0b9ddfbaf7e9a3639d6360a5ac9c1d6d4f7e887ea14981c5d53b082d3bda"), looks := false }, kinds := [], alts := [], laidByText := true, laidKinds := [.data], laidTests := true, laidLooks := .later }
def MacSumsCardSaid : Prop := Claim7.holds Tryd.pinned (.plain (OpenSpec.ofChange macSumsSpec)) macSumsCard

/-- THE SECOND FORM's CARD OF 'ostinatolaw7.MacPassive'. -/
def macPassiveUptoCard : Claim7 := { stood := { row := macPassiveUptoRow, standIns := [], harness := (true, "c5bf0b9ddfbaf7e9a3639d6360a5ac9c1d6d4f7e887ea14981c5d53b082d3bda"), looks := false }, kinds := [], alts := [], laidByText := true, laidKinds := [.data], laidTests := true, laidLooks := .later }
def MacPassiveUptoCardSaid : Prop := Claim7.holds Tryd.pinned (.plain (OpenSpec.upto macPassiveSpec)) macPassiveUptoCard

/-- THE SECOND FORM's CARD OF 'ostinatolaw7.MacBit'. -/
def macBitUptoCard : Claim7 := { stood := { row := macBitUptoRow, standIns := [], harness := (true, "c5bf0b9ddfbaf7e9a3639d6360a5ac9c1d6d4f7e887ea14981c5d53b082d3bda"), looks := false }, kinds := [], alts := [], laidByText := true, laidKinds := [.data], laidTests := true, laidLooks := .later }
def MacBitUptoCardSaid : Prop := Claim7.holds Tryd.pinned (.plain (OpenSpec.upto macBitSpec)) macBitUptoCard

/-- THE SECOND FORM's CARD OF 'ostinatolaw7.MacWaits'. -/
def macWaitsUptoCard : Claim7 := { stood := { row := macWaitsUptoRow, standIns := [], harness := (true, "c5bf0b9ddfbaf7e9a3639d6360a5ac9c1d6d4f7e887ea14981c5d53b082d3bda"), looks := false }, kinds := [], alts := [], laidByText := true, laidKinds := [.data], laidTests := true, laidLooks := .later }
def MacWaitsUptoCardSaid : Prop := Claim7.holds Tryd.pinned (.plain (OpenSpec.upto macWaitsSpec)) macWaitsUptoCard

/-- THE SECOND FORM's CARD OF 'ostinatolaw7.MacSums'. -/
def macSumsUptoCard : Claim7 := { stood := { row := macSumsUptoRow, standIns := [], harness := (true, "c5bf0b9ddfbaf7e9a3639d6360a5ac9c1d6d4f7e887ea14981c5d53b082d3bda"), looks := false }, kinds := [], alts := [], laidByText := true, laidKinds := [.data], laidTests := true, laidLooks := .later }
def MacSumsUptoCardSaid : Prop := Claim7.holds Tryd.pinned (.plain (OpenSpec.upto macSumsSpec)) macSumsUptoCard
end Rows
end Go.Proofs.YthappkhiiopfgabDoor
