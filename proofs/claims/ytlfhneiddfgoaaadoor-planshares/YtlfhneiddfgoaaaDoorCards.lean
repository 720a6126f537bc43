/-
  DERIVED. GIVEN WITH THE SEED: THE CARDS: each row of YtlfhneiddfgoaaaDoorRows.lean that lists a variable, with what it lists TIED to the program's text (the seventh form; the later family's looks); each row that meets fmt, with fmt's text TOLD by the authors' own Lean function (tested against real Go, not proved from fmt's source: count such statements apart). THE CARD IS WHAT COUNTS. Prove the row's statement (the work); the ties are given (YtlfhneiddfgoaaaDoorTie.lean); close each card by the builder's one call (the guide's Derived/Test/ToyasCard.lean, 'card_holds'). Laid BY PROGRAM, IN A SANDBOX (cutbox-door.mjs). By AI agents, Wed Nov 11 2026. No macro, syntax, notation, axiom, sorry.
-/
import Derived.Test.YtlfhneiddfgoaaaDoorRows
import GoSem.ClaimSeven
namespace Go.Proofs.YtlfhneiddfgoaaaDoor
namespace Rows

/-- THE TIED CARD OF 'ostinatolaw15.PlanTells'. -/
def planTellsCard : Claim7 := { stood := { row := planTellsRow, standIns := [], harness := (true, "a3b661e314eaafe5cf5c39f32af9a613a953b308b327226488a63666898b002b"), looks := false }, kinds := [], alts := [], laidByText := true, laidKinds := [.data], laidTests := true, laidLooks := .later }
def PlanTellsCardSaid : Prop := Claim7.holds Tryd.pinned (.plain (OpenSpec.ofChange planTellsSpec)) planTellsCard

/-- THE TIED CARD OF 'ostinatolaw15.PlanDue'. -/
def planDueCard : Claim7 := { stood := { row := planDueRow, standIns := [], harness := (true, "a3b661e314eaafe5cf5c39f32af9a613a953b308b327226488a63666898b002b"), looks := false }, kinds := [], alts := [], laidByText := true, laidKinds := [.data], laidTests := true, laidLooks := .later }
def PlanDueCardSaid : Prop := Claim7.holds Tryd.pinned (.plain (OpenSpec.ofChange planDueSpec)) planDueCard

/-- THE TIED CARD OF 'ostinatolaw15.PlanShares'. -/
def planSharesCard : Claim7 := { stood := { row := planSharesRow, standIns := [], harness := (true, "a3b661e314eaafe5cf5c39f32af9a613a953b308b327226488a63666898b002b"), looks := false }, kinds := [], alts := [], laidByText := true, laidKinds := [.data], laidTests := true, laidLooks := .later }
def PlanSharesCardSaid : Prop := Claim7.holds Tryd.pinned (.plain (OpenSpec.ofChange planSharesSpec)) planSharesCard

/-- THE TIED CARD OF 'ostinatolaw15.PlanOrder'. -/
def planOrderCard : Claim7 := { stood := { row := planOrderRow, standIns := [], harness := (true, "a3b661e314eaafe5cf5c39f32af9a613a953b308b327226488a63666898b002b"), looks := false }, kinds := [], alts := [], laidByText := true, laidKinds := [.data], laidTests := true, laidLooks := .later }
def PlanOrderCardSaid : Prop := Claim7.holds Tryd.pinned (.plain (OpenSpec.ofChange planOrderSpec)) planOrderCard

/-- THE TIED CARD OF 'ostinatolaw15.PlanCycles'. -/
def planCyclesCard : Claim7 := { stood := { row := planCyclesRow, standIns := [], harness := (true, "a3b661e314eaafe5cf5c39f32af9a613a953b308b327226488a63666898b002b"), looks := false }, kinds := [], alts := [], laidByText := true, laidKinds := [.data], laidTests := true, laidLooks := .later }
def PlanCyclesCardSaid : Prop := Claim7.holds Tryd.pinned (.plain (OpenSpec.ofChange planCyclesSpec)) planCyclesCard

/-- THE TIED CARD OF 'ostinatolaw15.PlanEnds'. -/
def planEndsCard : Claim7 := { stood := { row := planEndsRow, standIns := [], harness := (true, "a3b661e314eaafe5cf5c39f32af9a613a953b308b327226488a63666898b002b"), looks := false }, kinds := [], alts := [], laidByText := true, laidKinds := [.data], laidTests := true, laidLooks := .later }
def PlanEndsCardSaid : Prop := Claim7.holds Tryd.pinned (.plain (OpenSpec.ofChange planEndsSpec)) planEndsCard

/-- THE SECOND FORM's CARD OF 'ostinatolaw15.PlanTells'. -/
def planTellsUptoCard : Claim7 := { stood := { row := planTellsUptoRow, standIns := [], harness := (true, "a3b661e314eaafe5cf5c39f32af9a613a953b308b327226488a63666898b002b"), looks := false }, kinds := [], alts := [], laidByText := true, laidKinds := [.data], laidTests := true, laidLooks := .later }
def PlanTellsUptoCardSaid : Prop := Claim7.holds Tryd.pinned (.plain (OpenSpec.upto planTellsSpec)) planTellsUptoCard

/-- THE SECOND FORM's CARD OF 'ostinatolaw15.PlanDue'. -/
def planDueUptoCard : Claim7 := { stood := { row := planDueUptoRow, standIns := [], harness := (true, "a3b661e314eaafe5cf5c39f32af9a613a953b308b327226488a63666898b002b"), looks := false }, kinds := [], alts := [], laidByText := true, laidKinds := [.data], laidTests := true, laidLooks := .later }
def PlanDueUptoCardSaid : Prop := Claim7.holds Tryd.pinned (.plain (OpenSpec.upto planDueSpec)) planDueUptoCard

/-- THE SECOND FORM's CARD OF 'ostinatolaw15.PlanShares'. -/
def planSharesUptoCard : Claim7 := { stood := { row := planSharesUptoRow, standIns := [], harness := (true, "a3b661e314eaafe5cf5c39f32af9a613a953b308b327226488a63666898b002b"), looks := false }, kinds := [], alts := [], laidByText := true, laidKinds := [.data], laidTests := true, laidLooks := .later }
def PlanSharesUptoCardSaid : Prop := Claim7.holds Tryd.pinned (.plain (OpenSpec.upto planSharesSpec)) planSharesUptoCard

/-- THE SECOND FORM's CARD OF 'ostinatolaw15.PlanOrder'. -/
def planOrderUptoCard : Claim7 := { stood := { row := planOrderUptoRow, standIns := [], harness := (true, "a3b661e314eaafe5cf5c39f32af9a613a953b308b327226488a63666898b002b"), looks := false }, kinds := [], alts := [], laidByText := true, laidKinds := [.data], laidTests := true, laidLooks := .later }
def PlanOrderUptoCardSaid : Prop := Claim7.holds Tryd.pinned (.plain (OpenSpec.upto planOrderSpec)) planOrderUptoCard

/-- THE SECOND FORM's CARD OF 'ostinatolaw15.PlanCycles'. -/
def planCyclesUptoCard : Claim7 := { stood := { row := planCyclesUptoRow, standIns := [], harness := (true, "a3b661e314eaafe5cf5c39f32af9a613a953b308b327226488a63666898b002b"), looks := false }, kinds := [], alts := [], laidByText := true, laidKinds := [.data], laidTests := true, laidLooks := .later }
def PlanCyclesUptoCardSaid : Prop := Claim7.holds Tryd.pinned (.plain (OpenSpec.upto planCyclesSpec)) planCyclesUptoCard

/-- THE SECOND FORM's CARD OF 'ostinatolaw15.PlanEnds'. -/
def planEndsUptoCard : Claim7 := { stood := { row := planEndsUptoRow, standIns := [], harness := (true, "a3b661e314eaafe5cf5c39f32af9a613a953b308b327226488a63666898b002b"), looks := false }, kinds := [], alts := [], laidByText := true, laidKinds := [.data], laidTests := true, laidLooks := .later }
def PlanEndsUptoCardSaid : Prop := Claim7.holds Tryd.pinned (.plain (OpenSpec.upto planEndsSpec)) planEndsUptoCard
end Rows
end Go.Proofs.YtlfhneiddfgoaaaDoor
