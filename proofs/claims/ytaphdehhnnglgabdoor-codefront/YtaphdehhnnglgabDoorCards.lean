/-
  DERIVED. GIVEN WITH THE SEED: THE CARDS: each row of YtaphdehhnnglgabDoorRows.lean that lists a variable, with what it lists TIED to the program's text (the seventh form; the later family's looks); each row that meets fmt, with fmt's text TOLD by the authors' own Lean function (tested against real Go, not proved from fmt's source: count such statements apart). THE CARD IS WHAT COUNTS. Prove the row's statement (the work); the ties are given (YtaphdehhnnglgabDoorTie.lean); close each card by the builder's one call (the guide's Derived/Test/ToyasCard.lean, 'card_holds'). Laid BY PROGRAM, IN A SANDBOX (cutbox-door.mjs). By AI agents, Wed Nov 11 2026. No macro, syntax, notation, axiom, sorry.
-/
import Derived.Test.YtaphdehhnnglgabDoorRows
import GoSem.ClaimSeven
namespace Go.Proofs.YtaphdehhnnglgabDoor
namespace Rows

/-- THE TIED CARD OF 'ostinatolaw4.CodeLong'. -/
def codeLongCard : Claim7 := { stood := { row := codeLongRow, standIns := [], harness := (true, "2fd330bb99e416d715407e4fb3efc5c0a0ec1fedc3e621d86decd59c3eddc28e"), looks := false }, kinds := [], alts := [], laidByText := true, laidKinds := [.data], laidTests := true, laidLooks := .later }
def CodeLongCardSaid : Prop := Claim7.holds Tryd.pinned (.plain (OpenSpec.ofChange codeLongSpec)) codeLongCard

/-- THE TIED CARD OF 'ostinatolaw4.CodeSix'. -/
def codeSixCard : Claim7 := { stood := { row := codeSixRow, standIns := [], harness := (true, "2fd330bb99e416d715407e4fb3efc5c0a0ec1fedc3e621d86decd59c3eddc28e"), looks := false }, kinds := [], alts := [], laidByText := true, laidKinds := [.data], laidTests := true, laidLooks := .later }
def CodeSixCardSaid : Prop := Claim7.holds Tryd.pinned (.plain (OpenSpec.ofChange codeSixSpec)) codeSixCard

/-- THE TIED CARD OF 'ostinatolaw4.CodeOne'. -/
def codeOneCard : Claim7 := { stood := { row := codeOneRow, standIns := [], harness := (true, "2fd330bb99e416d715407e4fb3efc5c0a0ec1fedc3e621d86decd59c3eddc28e"), looks := false }, kinds := [], alts := [], laidByText := true, laidKinds := [.data], laidTests := true, laidLooks := .later }
def CodeOneCardSaid : Prop := Claim7.holds Tryd.pinned (.plain (OpenSpec.ofChange codeOneSpec)) codeOneCard

/-- THE TIED CARD OF 'ostinatolaw4.CodeFront'. -/
def codeFrontCard : Claim7 := { stood := { row := codeFrontRow, standIns := [], harness := (true, "2fd330bb99e416d715407e4fb3efc5c0a0ec1fedc3e621d86decd59c3eddc28e"), looks := false }, kinds := [], alts := [], laidByText := true, laidKinds := [.data], laidTests := true, laidLooks := .later }
def CodeFrontCardSaid : Prop := Claim7.holds Tryd.pinned (.plain (OpenSpec.ofChange codeFrontSpec)) codeFrontCard

/-- THE SECOND FORM's CARD OF 'ostinatolaw4.CodeLong'. -/
def codeLongUptoCard : Claim7 := { stood := { row := codeLongUptoRow, standIns := [], harness := (true, "2fd330bb99e416d715407e4fb3efc5c0a0ec1fedc3e621d86decd59c3eddc28e"), looks := false }, kinds := [], alts := [], laidByText := true, laidKinds := [.data], laidTests := true, laidLooks := .later }
def CodeLongUptoCardSaid : Prop := Claim7.holds Tryd.pinned (.plain (OpenSpec.upto codeLongSpec)) codeLongUptoCard

/-- THE SECOND FORM's CARD OF 'ostinatolaw4.CodeSix'. -/
def codeSixUptoCard : Claim7 := { stood := { row := codeSixUptoRow, standIns := [], harness := (true, "2fd330bb99e416d715407e4fb3efc5c0a0ec1fedc3e621d86decd59c3eddc28e"), looks := false }, kinds := [], alts := [], laidByText := true, laidKinds := [.data], laidTests := true, laidLooks := .later }
def CodeSixUptoCardSaid : Prop := Claim7.holds Tryd.pinned (.plain (OpenSpec.upto codeSixSpec)) codeSixUptoCard

/-- THE SECOND FORM's CARD OF 'ostinatolaw4.CodeOne'. -/
def codeOneUptoCard : Claim7 := { stood := { row := codeOneUptoRow, standIns := [], harness := (true, "2fd330bb99e416d715407e4fb3efc5c0a0ec1fedc3e621d86decd59c3eddc28e"), looks := false }, kinds := [], alts := [], laidByText := true, laidKinds := [.data], laidTests := true, laidLooks := .later }
def CodeOneUptoCardSaid : Prop := Claim7.holds Tryd.pinned (.plain (OpenSpec.upto codeOneSpec)) codeOneUptoCard

/-- THE SECOND FORM's CARD OF 'ostinatolaw4.CodeFront'. -/
def codeFrontUptoCard : Claim7 := { stood := { row := codeFrontUptoRow, standIns := [], harness := (true, "2fd330bb99e416d715407e4fb3efc5c0a0ec1fedc3e621d86decd59c3eddc28e"), looks := false }, kinds := [], alts := [], laidByText := true, laidKinds := [.data], laidTests := true, laidLooks := .later }
def CodeFrontUptoCardSaid : Prop := Claim7.holds Tryd.pinned (.plain (OpenSpec.upto codeFrontSpec)) codeFrontUptoCard
end Rows
end Go.Proofs.YtaphdehhnnglgabDoor
