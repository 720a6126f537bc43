/-
  DERIVED. GIVEN WITH THE SEED: THE CARDS: each row of YtmfehobpbpkcaaaDoorRows.lean that lists a variable, with what it lists TIED to the program's text (the seventh form; the later family's looks); each row that meets fmt, with fmt's text TOLD by the authors' own Lean function (tested against real Go, not proved from fmt's source: count such statements apart). THE CARD IS WHAT COUNTS. Prove the row's statement (the work); the ties are given (YtmfehobpbpkcaaaDoorTie.lean); close each card by the builder's one call (the guide's Derived/Test/ToyasCard.lean, 'card_holds'). Laid BY PROGRAM, IN A SANDBOX (cutbox-door.mjs). By AI agents, Wed Nov 11 2026. No macro, syntax, notation, axiom, sorry.
-/
import Derived.Test.YtmfehobpbpkcaaaDoorRows
import GoSem.ClaimSeven
namespace Go.Proofs.YtmfehobpbpkcaaaDoor
namespace Rows

/-- THE TIED CARD OF 'ostinatolaw16.WindowTells'. -/
def windowTellsCard : Claim7 := { stood := { row := windowTellsRow, standIns := [], harness := (true, "0f8986bced12dcdaa53d42422eb1832e18791979823229e6fdd12a45206eac40"), looks := false }, kinds := [], alts := [], laidByText := true, laidKinds := [.data], laidTests := true, laidLooks := .later }
def WindowTellsCardSaid : Prop := Claim7.holds Tryd.pinned (.plain (OpenSpec.ofChange windowTellsSpec)) windowTellsCard

/-- THE TIED CARD OF 'ostinatolaw16.WindowSums'. -/
def windowSumsCard : Claim7 := { stood := { row := windowSumsRow, standIns := [], harness := (true, "0f8986bced12dcdaa53d42422eb1832e18791979823229e6fdd12a45206eac40"), looks := false }, kinds := [], alts := [], laidByText := true, laidKinds := [.data], laidTests := true, laidLooks := .later }
def WindowSumsCardSaid : Prop := Claim7.holds Tryd.pinned (.plain (OpenSpec.ofChange windowSumsSpec)) windowSumsCard

/-- THE TIED CARD OF 'ostinatolaw16.WindowEdges'. -/
def windowEdgesCard : Claim7 := { stood := { row := windowEdgesRow, standIns := [], harness := (true, "0f8986bced12dcdaa53d42422eb1832e18791979823229e6fdd12a45206eac40"), looks := false }, kinds := [], alts := [], laidByText := true, laidKinds := [.data], laidTests := true, laidLooks := .later }
def WindowEdgesCardSaid : Prop := Claim7.holds Tryd.pinned (.plain (OpenSpec.ofChange windowEdgesSpec)) windowEdgesCard

/-- THE SECOND FORM's CARD OF 'ostinatolaw16.WindowTells'. -/
def windowTellsUptoCard : Claim7 := { stood := { row := windowTellsUptoRow, standIns := [], harness := (true, "0f8986bced12dcdaa53d42422eb1832e18791979823229e6fdd12a45206eac40"), looks := false }, kinds := [], alts := [], laidByText := true, laidKinds := [.data], laidTests := true, laidLooks := .later }
def WindowTellsUptoCardSaid : Prop := Claim7.holds Tryd.pinned (.plain (OpenSpec.upto windowTellsSpec)) windowTellsUptoCard

/-- THE SECOND FORM's CARD OF 'ostinatolaw16.WindowSums'. -/
def windowSumsUptoCard : Claim7 := { stood := { row := windowSumsUptoRow, standIns := [], harness := (true, "0f8986bced12dcdaa53d42422eb1832e18791979823229e6fdd12a45206eac40"), looks := false }, kinds := [], alts := [], laidByText := true, laidKinds := [.data], laidTests := true, laidLooks := .later }
def WindowSumsUptoCardSaid : Prop := Claim7.holds Tryd.pinned (.plain (OpenSpec.upto windowSumsSpec)) windowSumsUptoCard

/-- THE SECOND FORM's CARD OF 'ostinatolaw16.WindowEdges'. -/
def windowEdgesUptoCard : Claim7 := { stood := { row := windowEdgesUptoRow, standIns := [], harness := (true, "0f8986bced12dcdaa53d42422eb1832e18791979823229e6fdd12a45206eac40"), looks := false }, kinds := [], alts := [], laidByText := true, laidKinds := [.data], laidTests := true, laidLooks := .later }
def WindowEdgesUptoCardSaid : Prop := Claim7.holds Tryd.pinned (.plain (OpenSpec.upto windowEdgesSpec)) windowEdgesUptoCard
end Rows
end Go.Proofs.YtmfehobpbpkcaaaDoor
