/-
  DERIVED. GIVEN WITH THE SEED: THE CARDS: each row of YtnbfnipdiffphaaDoorRows.lean that lists a variable, with what it lists TIED to the program's text (the seventh form; the later family's looks); each row that meets fmt, with fmt's text TOLD by the authors' own Lean function (tested against real Go, not proved from fmt's source: count such statements apart). THE CARD IS WHAT COUNTS. Prove the row's statement (the work); the ties are given (YtnbfnipdiffphaaDoorTie.lean); close each card by the builder's one call (the guide's Derived/Test/ToyasCard.lean, 'card_holds'). Laid BY PROGRAM, IN A SANDBOX (cutbox-door.mjs). By AI agents, Wed Nov 11 2026. No macro, syntax, notation, axiom, sorry.
-/
import Derived.Test.YtnbfnipdiffphaaDoorRows
import GoSem.ClaimSeven
namespace Go.Proofs.YtnbfnipdiffphaaDoor
namespace Rows

/-- THE TIED CARD OF 'ostinatolaw23.SchedPlays'. -/
def schedPlaysCard : Claim7 := { stood := { row := schedPlaysRow, standIns := [], harness := (true, "bcf6de5935a8aa24ee3955149e784c37eb224ea130eda17b30e39496fd14e180"), looks := false }, kinds := [], alts := [], laidByText := true, laidKinds := [.data], laidTests := true, laidLooks := .later }
def SchedPlaysCardSaid : Prop := Claim7.holds Tryd.pinned (.plain (OpenSpec.ofChange schedPlaysSpec)) schedPlaysCard

/-- THE TIED CARD OF 'ostinatolaw23.SchedOnce'. -/
def schedOnceCard : Claim7 := { stood := { row := schedOnceRow, standIns := [], harness := (true, "bcf6de5935a8aa24ee3955149e784c37eb224ea130eda17b30e39496fd14e180"), looks := false }, kinds := [], alts := [], laidByText := true, laidKinds := [.data], laidTests := true, laidLooks := .later }
def SchedOnceCardSaid : Prop := Claim7.holds Tryd.pinned (.plain (OpenSpec.ofChange schedOnceSpec)) schedOnceCard

/-- THE TIED CARD OF 'ostinatolaw23.SchedLast'. -/
def schedLastCard : Claim7 := { stood := { row := schedLastRow, standIns := [], harness := (true, "bcf6de5935a8aa24ee3955149e784c37eb224ea130eda17b30e39496fd14e180"), looks := false }, kinds := [], alts := [], laidByText := true, laidKinds := [.data], laidTests := true, laidLooks := .later }
def SchedLastCardSaid : Prop := Claim7.holds Tryd.pinned (.plain (OpenSpec.ofChange schedLastSpec)) schedLastCard

/-- THE TIED CARD OF 'ostinatolaw23.SchedBack'. -/
def schedBackCard : Claim7 := { stood := { row := schedBackRow, standIns := [], harness := (true, "bcf6de5935a8aa24ee3955149e784c37eb224ea130eda17b30e39496fd14e180"), looks := false }, kinds := [], alts := [], laidByText := true, laidKinds := [.data], laidTests := true, laidLooks := .later }
def SchedBackCardSaid : Prop := Claim7.holds Tryd.pinned (.plain (OpenSpec.ofChange schedBackSpec)) schedBackCard

/-- THE SECOND FORM's CARD OF 'ostinatolaw23.SchedPlays'. -/
def schedPlaysUptoCard : Claim7 := { stood := { row := schedPlaysUptoRow, standIns := [], harness := (true, "bcf6de5935a8aa24ee3955149e784c37eb224ea130eda17b30e39496fd14e180"), looks := false }, kinds := [], alts := [], laidByText := true, laidKinds := [.data], laidTests := true, laidLooks := .later }
def SchedPlaysUptoCardSaid : Prop := Claim7.holds Tryd.pinned (.plain (OpenSpec.upto schedPlaysSpec)) schedPlaysUptoCard

/-- THE SECOND FORM's CARD OF 'ostinatolaw23.SchedOnce'. -/
def schedOnceUptoCard : Claim7 := { stood := { row := schedOnceUptoRow, standIns := [], harness := (true, "bcf6de5935a8aa24ee3955149e784c37eb224ea130eda17b30e39496fd14e180"), looks := false }, kinds := [], alts := [], laidByText := true, laidKinds := [.data], laidTests := true, laidLooks := .later }
def SchedOnceUptoCardSaid : Prop := Claim7.holds Tryd.pinned (.plain (OpenSpec.upto schedOnceSpec)) schedOnceUptoCard

/-- THE SECOND FORM's CARD OF 'ostinatolaw23.SchedLast'. -/
def schedLastUptoCard : Claim7 := { stood := { row := schedLastUptoRow, standIns := [], harness := (true, "bcf6de5935a8aa24ee3955149e784c37eb224ea130eda17b30e39496fd14e180"), looks := false }, kinds := [], alts := [], laidByText := true, laidKinds := [.data], laidTests := true, laidLooks := .later }
def SchedLastUptoCardSaid : Prop := Claim7.holds Tryd.pinned (.plain (OpenSpec.upto schedLastSpec)) schedLastUptoCard

/-- THE SECOND FORM's CARD OF 'ostinatolaw23.SchedBack'. -/
def schedBackUptoCard : Claim7 := { stood := { row := schedBackUptoRow, standIns := [], harness := (true, "bcf6de5935a8aa24ee3955149e784c37eb224ea130eda17b30e39496fd14e180"), looks := false }, kinds := [], alts := [], laidByText := true, laidKinds := [.data], laidTests := true, laidLooks := .later }
def SchedBackUptoCardSaid : Prop := Claim7.holds Tryd.pinned (.plain (OpenSpec.upto schedBackSpec)) schedBackUptoCard
end Rows
end Go.Proofs.YtnbfnipdiffphaaDoor
