/-
  DERIVED. GIVEN WITH THE SEED: THE CARDS: each row of YtoinkaakiohclaaDoorRows.lean that lists a variable, with what it lists TIED to the program's text (the seventh form; the later family's looks); each row that meets fmt, with fmt's text TOLD by the authors' own Lean function (tested against real Go, not proved from fmt's source: count such statements apart). THE CARD IS WHAT COUNTS. Prove the row's statement (the work); the ties are given (YtoinkaakiohclaaDoorTie.lean); close each card by the builder's one call (the guide's Derived/Test/ToyasCard.lean, 'card_holds'). Laid BY PROGRAM, IN A SANDBOX (cutbox-door.mjs). By AI agents, Wed Nov 11 2026. No macro, syntax, notation, axiom, sorry.
-/
import Derived.Test.YtoinkaakiohclaaDoorRows
import GoSem.ClaimSeven
namespace Go.Proofs.YtoinkaakiohclaaDoor
namespace Rows

/-- THE TIED CARD OF 'ostinatolaw21.RefmsgTells'. -/
def refmsgTellsCard : Claim7 := { stood := { row := refmsgTellsRow, standIns := [], harness := (true, "ebbd9ff3017fdc070c3a4ce73b583841b98aef1d7b4cf87bebdc67df5441af6b"), looks := false }, kinds := [], alts := [], laidByText := true, laidKinds := [.data], laidTests := true, laidLooks := .later }
def RefmsgTellsCardSaid : Prop := Claim7.holds Tryd.pinned (.plain (OpenSpec.ofChange refmsgTellsSpec)) refmsgTellsCard

/-- THE TIED CARD OF 'ostinatolaw21.RefmsgBack'. -/
def refmsgBackCard : Claim7 := { stood := { row := refmsgBackRow, standIns := [], harness := (true, "ebbd9ff3017fdc070c3a4ce73b583841b98aef1d7b4cf87bebdc67df5441af6b"), looks := false }, kinds := [], alts := [], laidByText := true, laidKinds := [.data], laidTests := true, laidLooks := .later }
def RefmsgBackCardSaid : Prop := Claim7.holds Tryd.pinned (.plain (OpenSpec.ofChange refmsgBackSpec)) refmsgBackCard

/-- THE TIED CARD OF 'ostinatolaw21.RefmsgRanks'. -/
def refmsgRanksCard : Claim7 := { stood := { row := refmsgRanksRow, standIns := [], harness := (true, "ebbd9ff3017fdc070c3a4ce73b583841b98aef1d7b4cf87bebdc67df5441af6b"), looks := false }, kinds := [], alts := [], laidByText := true, laidKinds := [.data], laidTests := true, laidLooks := .later }
def RefmsgRanksCardSaid : Prop := Claim7.holds Tryd.pinned (.plain (OpenSpec.ofChange refmsgRanksSpec)) refmsgRanksCard

/-- THE TIED CARD OF 'ostinatolaw21.RefmsgForms'. -/
def refmsgFormsCard : Claim7 := { stood := { row := refmsgFormsRow, standIns := [], harness := (true, "ebbd9ff3017fdc070c3a4ce73b583841b98aef1d7b4cf87bebdc67df5441af6b"), looks := false }, kinds := [], alts := [], laidByText := true, laidKinds := [.data], laidTests := true, laidLooks := .later }
def RefmsgFormsCardSaid : Prop := Claim7.holds Tryd.pinned (.plain (OpenSpec.ofChange refmsgFormsSpec)) refmsgFormsCard

/-- THE SECOND FORM's CARD OF 'ostinatolaw21.RefmsgTells'. -/
def refmsgTellsUptoCard : Claim7 := { stood := { row := refmsgTellsUptoRow, standIns := [], harness := (true, "ebbd9ff3017fdc070c3a4ce73b583841b98aef1d7b4cf87bebdc67df5441af6b"), looks := false }, kinds := [], alts := [], laidByText := true, laidKinds := [.data], laidTests := true, laidLooks := .later }
def RefmsgTellsUptoCardSaid : Prop := Claim7.holds Tryd.pinned (.plain (OpenSpec.upto refmsgTellsSpec)) refmsgTellsUptoCard

/-- THE SECOND FORM's CARD OF 'ostinatolaw21.RefmsgBack'. -/
def refmsgBackUptoCard : Claim7 := { stood := { row := refmsgBackUptoRow, standIns := [], harness := (true, "ebbd9ff3017fdc070c3a4ce73b583841b98aef1d7b4cf87bebdc67df5441af6b"), looks := false }, kinds := [], alts := [], laidByText := true, laidKinds := [.data], laidTests := true, laidLooks := .later }
def RefmsgBackUptoCardSaid : Prop := Claim7.holds Tryd.pinned (.plain (OpenSpec.upto refmsgBackSpec)) refmsgBackUptoCard

/-- THE SECOND FORM's CARD OF 'ostinatolaw21.RefmsgRanks'. -/
def refmsgRanksUptoCard : Claim7 := { stood := { row := refmsgRanksUptoRow, standIns := [], harness := (true, "ebbd9ff3017fdc070c3a4ce73b583841b98aef1d7b4cf87bebdc67df5441af6b"), looks := false }, kinds := [], alts := [], laidByText := true, laidKinds := [.data], laidTests := true, laidLooks := .later }
def RefmsgRanksUptoCardSaid : Prop := Claim7.holds Tryd.pinned (.plain (OpenSpec.upto refmsgRanksSpec)) refmsgRanksUptoCard

/-- THE SECOND FORM's CARD OF 'ostinatolaw21.RefmsgForms'. -/
def refmsgFormsUptoCard : Claim7 := { stood := { row := refmsgFormsUptoRow, standIns := [], harness := (true, "ebbd9ff3017fdc070c3a4ce73b583841b98aef1d7b4cf87bebdc67df5441af6b"), looks := false }, kinds := [], alts := [], laidByText := true, laidKinds := [.data], laidTests := true, laidLooks := .later }
def RefmsgFormsUptoCardSaid : Prop := Claim7.holds Tryd.pinned (.plain (OpenSpec.upto refmsgFormsSpec)) refmsgFormsUptoCard
end Rows
end Go.Proofs.YtoinkaakiohclaaDoor
