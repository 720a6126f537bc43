/-
  DERIVED. GIVEN WITH THE SEED: THE CARDS: each row of YtaphdehhnnglgaaDoorRows.lean that lists a variable, with what it lists TIED to the program's text (the seventh form; the later family's looks); each row that meets fmt, with fmt's text TOLD by the authors' own Lean function (tested against real Go, not proved from fmt's source: count such statements apart). THE CARD IS WHAT COUNTS. Prove the row's statement (the work); the ties are given (YtaphdehhnnglgaaDoorTie.lean); close each card by the builder's one call (the guide's Derived/Test/ToyasCard.lean, 'card_holds'). Laid BY PROGRAM, IN A SANDBOX (cutbox-door.mjs). By AI agents, Wed Nov 11 2026. No macro, syntax, notation, axiom, sorry.
-/
import Derived.Test.YtaphdehhnnglgaaDoorRows
import GoSem.ClaimSeven
namespace Go.Proofs.YtaphdehhnnglgaaDoor
namespace Rows

/-- THE TIED CARD OF 'ostinatolaw4.CodeWrites'. -/
def codeWritesCard : Claim7 := { stood := { row := codeWritesRow, standIns := [], harness := (true, "bfed486d8d596f0c48adba87841f5413ed7482e1ed1b358d5909d525644199d0"), looks := false }, kinds := [], alts := [], laidByText := true, laidKinds := [.data], laidTests := true, laidLooks := .later }
def CodeWritesCardSaid : Prop := Claim7.holds Tryd.pinned (.plain (OpenSpec.ofChange codeWritesSpec)) codeWritesCard

/-- THE TIED CARD OF 'ostinatolaw4.CodeReads'. -/
def codeReadsCard : Claim7 := { stood := { row := codeReadsRow, standIns := [], harness := (true, "bfed486d8d596f0c48adba87841f5413ed7482e1ed1b358d5909d525644199d0"), looks := false }, kinds := [], alts := [], laidByText := true, laidKinds := [.data], laidTests := true, laidLooks := .later }
def CodeReadsCardSaid : Prop := Claim7.holds Tryd.pinned (.plain (OpenSpec.ofChange codeReadsSpec)) codeReadsCard

/-- THE TIED CARD OF 'ostinatolaw4.CodeTurned'. -/
def codeTurnedCard : Claim7 := { stood := { row := codeTurnedRow, standIns := [], harness := (true, "bfed486d8d596f0c48adba87841f5413ed7482e1ed1b358d5909d525644199d0"), looks := false }, kinds := [], alts := [], laidByText := true, laidKinds := [.data], laidTests := true, laidLooks := .later }
def CodeTurnedCardSaid : Prop := Claim7.holds Tryd.pinned (.plain (OpenSpec.ofChange codeTurnedSpec)) codeTurnedCard

/-- THE TIED CARD OF 'ostinatolaw4.CodeBack'. -/
def codeBackCard : Claim7 := { stood := { row := codeBackRow, standIns := [], harness := (true, "bfed486d8d596f0c48adba87841f5413ed7482e1ed1b358d5909d525644199d0"), looks := false }, kinds := [], alts := [], laidByText := true, laidKinds := [.data], laidTests := true, laidLooks := .later }
def CodeBackCardSaid : Prop := Claim7.holds Tryd.pinned (.plain (OpenSpec.ofChange codeBackSpec)) codeBackCard

/-- THE TIED CARD OF 'ostinatolaw4.CodeTail'. -/
def codeTailCard : Claim7 := { stood := { row := codeTailRow, standIns := [], harness := (true, "bfed486d8d596f0c48adba87841f5413ed7482e1ed1b358d5909d525644199d0"), looks := false }, kinds := [], alts := [], laidByText := true, laidKinds := [.data], laidTests := true, laidLooks := .later }
def CodeTailCardSaid : Prop := Claim7.holds Tryd.pinned (.plain (OpenSpec.ofChange codeTailSpec)) codeTailCard

/-- THE TIED CARD OF 'ostinatolaw4.CodeSums'. -/
def codeSumsCard : Claim7 := { stood := { row := codeSumsRow, standIns := [], harness := (true, "bfed486d8d596f0c48adba87841f5413ed7482e1ed1b358d5909d525644199d0"), looks := false }, kinds := [], alts := [], laidByText := true, laidKinds := [.data], laidTests := true, laidLooks := .later }
def CodeSumsCardSaid : Prop := Claim7.holds Tryd.pinned (.plain (OpenSpec.ofChange codeSumsSpec)) codeSumsCard

/-- THE SECOND FORM's CARD OF 'ostinatolaw4.CodeWrites'. -/
def codeWritesUptoCard : Claim7 := { stood := { row := codeWritesUptoRow, standIns := [], harness := (true, "bfed486d8d596f0c48adba87841f5413ed7482e1ed1b358d5909d525644199d0"), looks := false }, kinds := [], alts := [], laidByText := true, laidKinds := [.data], laidTests := true, laidLooks := .later }
def CodeWritesUptoCardSaid : Prop := Claim7.holds Tryd.pinned (.plain (OpenSpec.upto codeWritesSpec)) codeWritesUptoCard

/-- THE SECOND FORM's CARD OF 'ostinatolaw4.CodeReads'. -/
def codeReadsUptoCard : Claim7 := { stood := { row := codeReadsUptoRow, standIns := [], harness := (true, "bfed486d8d596f0c48adba87841f5413ed7482e1ed1b358d5909d525644199d0"), looks := false }, kinds := [], alts := [], laidByText := true, laidKinds := [.data], laidTests := true, laidLooks := .later }
def CodeReadsUptoCardSaid : Prop := Claim7.holds Tryd.pinned (.plain (OpenSpec.upto codeReadsSpec)) codeReadsUptoCard

/-- THE SECOND FORM's CARD OF 'ostinatolaw4.CodeTurned'. -/
def codeTurnedUptoCard : Claim7 := { stood := { row := codeTurnedUptoRow, standIns := [], harness := (true, "bfed486d8d596f0c48adba87841f5413ed7482e1ed1b358d5909d525644199d0"), looks := false }, kinds := [], alts := [], laidByText := true, laidKinds := [.data], laidTests := true, laidLooks := .later }
def CodeTurnedUptoCardSaid : Prop := Claim7.holds Tryd.pinned (.plain (OpenSpec.upto codeTurnedSpec)) codeTurnedUptoCard

/-- THE SECOND FORM's CARD OF 'ostinatolaw4.CodeBack'. -/
def codeBackUptoCard : Claim7 := { stood := { row := codeBackUptoRow, standIns := [], harness := (true, "bfed486d8d596f0c48adba87841f5413ed7482e1ed1b358d5909d525644199d0"), looks := false }, kinds := [], alts := [], laidByText := true, laidKinds := [.data], laidTests := true, laidLooks := .later }
def CodeBackUptoCardSaid : Prop := Claim7.holds Tryd.pinned (.plain (OpenSpec.upto codeBackSpec)) codeBackUptoCard

/-- THE SECOND FORM's CARD OF 'ostinatolaw4.CodeTail'. -/
def codeTailUptoCard : Claim7 := { stood := { row := codeTailUptoRow, standIns := [], harness := (true, "bfed486d8d596f0c48adba87841f5413ed7482e1ed1b358d5909d525644199d0"), looks := false }, kinds := [], alts := [], laidByText := true, laidKinds := [.data], laidTests := true, laidLooks := .later }
def CodeTailUptoCardSaid : Prop := Claim7.holds Tryd.pinned (.plain (OpenSpec.upto codeTailSpec)) codeTailUptoCard

/-- THE SECOND FORM's CARD OF 'ostinatolaw4.CodeSums'. -/
def codeSumsUptoCard : Claim7 := { stood := { row := codeSumsUptoRow, standIns := [], harness := (true, "bfed486d8d596f0c48adba87841f5413ed7482e1ed1b358d5909d525644199d0"), looks := false }, kinds := [], alts := [], laidByText := true, laidKinds := [.data], laidTests := true, laidLooks := .later }
def CodeSumsUptoCardSaid : Prop := Claim7.holds Tryd.pinned (.plain (OpenSpec.upto codeSumsSpec)) codeSumsUptoCard
end Rows
end Go.Proofs.YtaphdehhnnglgaaDoor
