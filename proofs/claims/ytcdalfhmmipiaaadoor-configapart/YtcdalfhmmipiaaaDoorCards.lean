/-
  DERIVED. GIVEN WITH THE SEED: THE CARDS: each row of YtcdalfhmmipiaaaDoorRows.lean that lists a variable, with what it lists TIED to the program's text (the seventh form; the later family's looks); each row that meets fmt, with fmt's text TOLD by the authors' own Lean function (tested against real Go, not proved from fmt's source: count such statements apart). THE CARD IS WHAT COUNTS. Prove the row's statement (the work); the ties are given (YtcdalfhmmipiaaaDoorTie.lean); close each card by the builder's one call (the guide's Derived/Test/ToyasCard.lean, 'card_holds'). Laid BY PROGRAM, IN A SANDBOX (cutbox-door.mjs). By AI agents, Wed Nov 11 2026. No macro, syntax, notation, axiom, sorry.
-/
import Derived.Test.YtcdalfhmmipiaaaDoorRows
import GoSem.ClaimSeven
namespace Go.Proofs.YtcdalfhmmipiaaaDoor
namespace Rows

/-- THE TIED CARD OF 'ostinatolaw13.ConfigTells'. -/
def configTellsCard : Claim7 := { stood := { row := configTellsRow, standIns := [], harness := (true, "a3747ad26606a3a57e55ba40d993e04d2c91a0765a3fc29d0a75f0037a3b5d87"), looks := false }, kinds := [], alts := [], laidByText := true, laidKinds := [.data], laidTests := true, laidLooks := .later }
def ConfigTellsCardSaid : Prop := Claim7.holds Tryd.pinned (.plain (OpenSpec.ofChange configTellsSpec)) configTellsCard

/-- THE TIED CARD OF 'ostinatolaw13.ConfigReads'. -/
def configReadsCard : Claim7 := { stood := { row := configReadsRow, standIns := [], harness := (true, "a3747ad26606a3a57e55ba40d993e04d2c91a0765a3fc29d0a75f0037a3b5d87"), looks := false }, kinds := [], alts := [], laidByText := true, laidKinds := [.data], laidTests := true, laidLooks := .later }
def ConfigReadsCardSaid : Prop := Claim7.holds Tryd.pinned (.plain (OpenSpec.ofChange configReadsSpec)) configReadsCard

/-- THE TIED CARD OF 'ostinatolaw13.ConfigCuts'. -/
def configCutsCard : Claim7 := { stood := { row := configCutsRow, standIns := [], harness := (true, "a3747ad26606a3a57e55ba40d993e04d2c91a0765a3fc29d0a75f0037a3b5d87"), looks := false }, kinds := [], alts := [], laidByText := true, laidKinds := [.data], laidTests := true, laidLooks := .later }
def ConfigCutsCardSaid : Prop := Claim7.holds Tryd.pinned (.plain (OpenSpec.ofChange configCutsSpec)) configCutsCard

/-- THE TIED CARD OF 'ostinatolaw13.ConfigSizes'. -/
def configSizesCard : Claim7 := { stood := { row := configSizesRow, standIns := [], harness := (true, "a3747ad26606a3a57e55ba40d993e04d2c91a0765a3fc29d0a75f0037a3b5d87"), looks := false }, kinds := [], alts := [], laidByText := true, laidKinds := [.data], laidTests := true, laidLooks := .later }
def ConfigSizesCardSaid : Prop := Claim7.holds Tryd.pinned (.plain (OpenSpec.ofChange configSizesSpec)) configSizesCard

/-- THE TIED CARD OF 'ostinatolaw13.ConfigApart'. -/
def configApartCard : Claim7 := { stood := { row := configApartRow, standIns := [], harness := (true, "a3747ad26606a3a57e55ba40d993e04d2c91a0765a3fc29d0a75f0037a3b5d87"), looks := false }, kinds := [], alts := [], laidByText := true, laidKinds := [.data], laidTests := true, laidLooks := .later }
def ConfigApartCardSaid : Prop := Claim7.holds Tryd.pinned (.plain (OpenSpec.ofChange configApartSpec)) configApartCard

/-- THE TIED CARD OF 'ostinatolaw13.ConfigFields'. -/
def configFieldsCard : Claim7 := { stood := { row := configFieldsRow, standIns := [], harness := (true, "a3747ad26606a3a57e55ba40d993e04d2c91a0765a3fc29d0a75f0037a3b5d87"), looks := false }, kinds := [], alts := [], laidByText := true, laidKinds := [.data], laidTests := true, laidLooks := .later }
def ConfigFieldsCardSaid : Prop := Claim7.holds Tryd.pinned (.plain (OpenSpec.ofChange configFieldsSpec)) configFieldsCard

/-- THE SECOND FORM's CARD OF 'ostinatolaw13.ConfigTells'. -/
def configTellsUptoCard : Claim7 := { stood := { row := configTellsUptoRow, standIns := [], harness := (true, "a3747ad26606a3a57e55ba40d993e04d2c91a0765a3fc29d0a75f0037a3b5d87"), looks := false }, kinds := [], alts := [], laidByText := true, laidKinds := [.data], laidTests := true, laidLooks := .later }
def ConfigTellsUptoCardSaid : Prop := Claim7.holds Tryd.pinned (.plain (OpenSpec.upto configTellsSpec)) configTellsUptoCard

/-- THE SECOND FORM's CARD OF 'ostinatolaw13.ConfigReads'. -/
def configReadsUptoCard : Claim7 := { stood := { row := configReadsUptoRow, standIns := [], harness := (true, "a3747ad26606a3a57e55ba40d993e04d2c91a0765a3fc29d0a75f0037a3b5d87"), looks := false }, kinds := [], alts := [], laidByText := true, laidKinds := [.data], laidTests := true, laidLooks := .later }
def ConfigReadsUptoCardSaid : Prop := Claim7.holds Tryd.pinned (.plain (OpenSpec.upto configReadsSpec)) configReadsUptoCard

/-- THE SECOND FORM's CARD OF 'ostinatolaw13.ConfigCuts'. -/
def configCutsUptoCard : Claim7 := { stood := { row := configCutsUptoRow, standIns := [], harness := (true, "a3747ad26606a3a57e55ba40d993e04d2c91a0765a3fc29d0a75f0037a3b5d87"), looks := false }, kinds := [], alts := [], laidByText := true, laidKinds := [.data], laidTests := true, laidLooks := .later }
def ConfigCutsUptoCardSaid : Prop := Claim7.holds Tryd.pinned (.plain (OpenSpec.upto configCutsSpec)) configCutsUptoCard

/-- THE SECOND FORM's CARD OF 'ostinatolaw13.ConfigSizes'. -/
def configSizesUptoCard : Claim7 := { stood := { row := configSizesUptoRow, standIns := [], harness := (true, "a3747ad26606a3a57e55ba40d993e04d2c91a0765a3fc29d0a75f0037a3b5d87"), looks := false }, kinds := [], alts := [], laidByText := true, laidKinds := [.data], laidTests := true, laidLooks := .later }
def ConfigSizesUptoCardSaid : Prop := Claim7.holds Tryd.pinned (.plain (OpenSpec.upto configSizesSpec)) configSizesUptoCard

/-- THE SECOND FORM's CARD OF 'ostinatolaw13.ConfigApart'. -/
def configApartUptoCard : Claim7 := { stood := { row := configApartUptoRow, standIns := [], harness := (true, "a3747ad26606a3a57e55ba40d993e04d2c91a0765a3fc29d0a75f0037a3b5d87"), looks := false }, kinds := [], alts := [], laidByText := true, laidKinds := [.data], laidTests := true, laidLooks := .later }
def ConfigApartUptoCardSaid : Prop := Claim7.holds Tryd.pinned (.plain (OpenSpec.upto configApartSpec)) configApartUptoCard

/-- THE SECOND FORM's CARD OF 'ostinatolaw13.ConfigFields'. -/
def configFieldsUptoCard : Claim7 := { stood := { row := configFieldsUptoRow, standIns := [], harness := (true, "a3747ad26606a3a57e55ba40d993e04d2c91a0765a3fc29d0a75f0037a3b5d87"), looks := false }, kinds := [], alts := [], laidByText := true, laidKinds := [.data], laidTests := true, laidLooks := .later }
def ConfigFieldsUptoCardSaid : Prop := Claim7.holds Tryd.pinned (.plain (OpenSpec.upto configFieldsSpec)) configFieldsUptoCard
end Rows
end Go.Proofs.YtcdalfhmmipiaaaDoor
