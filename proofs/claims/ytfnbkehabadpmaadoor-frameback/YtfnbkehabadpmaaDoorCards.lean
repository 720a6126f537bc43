/-
  DERIVED. GIVEN WITH THE SEED: THE CARDS: each row of YtfnbkehabadpmaaDoorRows.lean that lists a variable, with what it lists TIED to the program's text (the seventh form; the later family's looks); each row that meets fmt, with fmt's text TOLD by the authors' own Lean function (tested against real Go, not proved from fmt's source: count such statements apart). THE CARD IS WHAT COUNTS. Prove the row's statement (the work); the ties are given (YtfnbkehabadpmaaDoorTie.lean); close each card by the builder's one call (the guide's Derived/Test/ToyasCard.lean, 'card_holds'). Laid BY PROGRAM, IN A SANDBOX (cutbox-door.mjs). By AI agents, Wed Nov 11 2026. No macro, syntax, notation, axiom, sorry.
-/
import Derived.Test.YtfnbkehabadpmaaDoorRows
import GoSem.ClaimSeven
namespace Go.Proofs.YtfnbkehabadpmaaDoor
namespace Rows

/-- THE TIED CARD OF 'ostinatolaw3.FrameTells'. -/
def frameTellsCard : Claim7 := { stood := { row := frameTellsRow, standIns := [], harness := (true, "a2a846b93b406abcd3dc797d29ee97e5053925a7a73ae579c018b9945bd55357"), looks := false }, kinds := [], alts := [], laidByText := true, laidKinds := [.data], laidTests := true, laidLooks := .later }
def FrameTellsCardSaid : Prop := Claim7.holds Tryd.pinned (.plain (OpenSpec.ofChange frameTellsSpec)) frameTellsCard

/-- THE TIED CARD OF 'ostinatolaw3.FrameReads'. -/
def frameReadsCard : Claim7 := { stood := { row := frameReadsRow, standIns := [], harness := (true, "a2a846b93b406abcd3dc797d29ee97e5053925a7a73ae579c018b9945bd55357"), looks := false }, kinds := [], alts := [], laidByText := true, laidKinds := [.data], laidTests := true, laidLooks := .later }
def FrameReadsCardSaid : Prop := Claim7.holds Tryd.pinned (.plain (OpenSpec.ofChange frameReadsSpec)) frameReadsCard

/-- THE TIED CARD OF 'ostinatolaw3.FrameBack'. -/
def frameBackCard : Claim7 := { stood := { row := frameBackRow, standIns := [], harness := (true, "a2a846b93b406abcd3dc797d29ee97e5053925a7a73ae579c018b9945bd55357"), looks := false }, kinds := [], alts := [], laidByText := true, laidKinds := [.data], laidTests := true, laidLooks := .later }
def FrameBackCardSaid : Prop := Claim7.holds Tryd.pinned (.plain (OpenSpec.ofChange frameBackSpec)) frameBackCard

/-- THE TIED CARD OF 'ostinatolaw3.FrameOrder'. -/
def frameOrderCard : Claim7 := { stood := { row := frameOrderRow, standIns := [], harness := (true, "a2a846b93b406abcd3dc797d29ee97e5053925a7a73ae579c018b9945bd55357"), looks := false }, kinds := [], alts := [], laidByText := true, laidKinds := [.data], laidTests := true, laidLooks := .later }
def FrameOrderCardSaid : Prop := Claim7.holds Tryd.pinned (.plain (OpenSpec.ofChange frameOrderSpec)) frameOrderCard

/-- THE TIED CARD OF 'ostinatolaw3.FrameWins'. -/
def frameWinsCard : Claim7 := { stood := { row := frameWinsRow, standIns := [], harness := (true, "a2a846b93b406abcd3dc797d29ee97e5053925a7a73ae579c018b9945bd55357"), looks := false }, kinds := [], alts := [], laidByText := true, laidKinds := [.data], laidTests := true, laidLooks := .later }
def FrameWinsCardSaid : Prop := Claim7.holds Tryd.pinned (.plain (OpenSpec.ofChange frameWinsSpec)) frameWinsCard

/-- THE TIED CARD OF 'ostinatolaw3.FrameFields'. -/
def frameFieldsCard : Claim7 := { stood := { row := frameFieldsRow, standIns := [], harness := (true, "a2a846b93b406abcd3dc797d29ee97e5053925a7a73ae579c018b9945bd55357"), looks := false }, kinds := [], alts := [], laidByText := true, laidKinds := [.data], laidTests := true, laidLooks := .later }
def FrameFieldsCardSaid : Prop := Claim7.holds Tryd.pinned (.plain (OpenSpec.ofChange frameFieldsSpec)) frameFieldsCard

/-- THE SECOND FORM's CARD OF 'ostinatolaw3.FrameTells'. -/
def frameTellsUptoCard : Claim7 := { stood := { row := frameTellsUptoRow, standIns := [], harness := (true, "a2a846b93b406abcd3dc797d29ee97e5053925a7a73ae579c018b9945bd55357"), looks := false }, kinds := [], alts := [], laidByText := true, laidKinds := [.data], laidTests := true, laidLooks := .later }
def FrameTellsUptoCardSaid : Prop := Claim7.holds Tryd.pinned (.plain (OpenSpec.upto frameTellsSpec)) frameTellsUptoCard

/-- THE SECOND FORM's CARD OF 'ostinatolaw3.FrameReads'. -/
def frameReadsUptoCard : Claim7 := { stood := { row := frameReadsUptoRow, standIns := [], harness := (true, "a2a846b93b406abcd3dc797d29ee97e5053925a7a73ae579c018b9945bd55357"), looks := false }, kinds := [], alts := [], laidByText := true, laidKinds := [.data], laidTests := true, laidLooks := .later }
def FrameReadsUptoCardSaid : Prop := Claim7.holds Tryd.pinned (.plain (OpenSpec.upto frameReadsSpec)) frameReadsUptoCard

/-- THE SECOND FORM's CARD OF 'ostinatolaw3.FrameBack'. -/
def frameBackUptoCard : Claim7 := { stood := { row := frameBackUptoRow, standIns := [], harness := (true, "a2a846b93b406abcd3dc797d29ee97e5053925a7a73ae579c018b9945bd55357"), looks := false }, kinds := [], alts := [], laidByText := true, laidKinds := [.data], laidTests := true, laidLooks := .later }
def FrameBackUptoCardSaid : Prop := Claim7.holds Tryd.pinned (.plain (OpenSpec.upto frameBackSpec)) frameBackUptoCard

/-- THE SECOND FORM's CARD OF 'ostinatolaw3.FrameOrder'. -/
def frameOrderUptoCard : Claim7 := { stood := { row := frameOrderUptoRow, standIns := [], harness := (true, "a2a846b93b406abcd3dc797d29ee97e5053925a7a73ae579c018b9945bd55357"), looks := false }, kinds := [], alts := [], laidByText := true, laidKinds := [.data], laidTests := true, laidLooks := .later }
def FrameOrderUptoCardSaid : Prop := Claim7.holds Tryd.pinned (.plain (OpenSpec.upto frameOrderSpec)) frameOrderUptoCard

/-- THE SECOND FORM's CARD OF 'ostinatolaw3.FrameWins'. -/
def frameWinsUptoCard : Claim7 := { stood := { row := frameWinsUptoRow, standIns := [], harness := (true, "a2a846b93b406abcd3dc797d29ee97e5053925a7a73ae579c018b9945bd55357"), looks := false }, kinds := [], alts := [], laidByText := true, laidKinds := [.data], laidTests := true, laidLooks := .later }
def FrameWinsUptoCardSaid : Prop := Claim7.holds Tryd.pinned (.plain (OpenSpec.upto frameWinsSpec)) frameWinsUptoCard

/-- THE SECOND FORM's CARD OF 'ostinatolaw3.FrameFields'. -/
def frameFieldsUptoCard : Claim7 := { stood := { row := frameFieldsUptoRow, standIns := [], harness := (true, "a2a846b93b406abcd3dc797d29ee97e5053925a7a73ae579c018b9945bd55357"), looks := false }, kinds := [], alts := [], laidByText := true, laidKinds := [.data], laidTests := true, laidLooks := .later }
def FrameFieldsUptoCardSaid : Prop := Claim7.holds Tryd.pinned (.plain (OpenSpec.upto frameFieldsSpec)) frameFieldsUptoCard
end Rows
end Go.Proofs.YtfnbkehabadpmaaDoor
