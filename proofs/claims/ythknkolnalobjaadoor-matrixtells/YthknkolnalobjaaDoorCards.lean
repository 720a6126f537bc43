/-
  DERIVED. GIVEN WITH THE SEED: THE CARDS: each row of YthknkolnalobjaaDoorRows.lean that lists a variable, with what it lists TIED to the program's text (the seventh form; the later family's looks); each row that meets fmt, with fmt's text TOLD by the authors' own Lean function (tested against real Go, not proved from fmt's source: count such statements apart). THE CARD IS WHAT COUNTS. Prove the row's statement (the work); the ties are given (YthknkolnalobjaaDoorTie.lean); close each card by the builder's one call (the guide's Derived/Test/ToyasCard.lean, 'card_holds'). Laid BY PROGRAM, IN A SANDBOX (cutbox-door.mjs). By AI agents, Wed Nov 11 2026. No macro, syntax, notation, axiom, sorry.
-/
import Derived.Test.YthknkolnalobjaaDoorRows
import GoSem.ClaimSeven
namespace Go.Proofs.YthknkolnalobjaaDoor
namespace Rows

/-- THE TIED CARD OF 'ostinatolaw12.MatrixTells'. -/
def matrixTellsCard : Claim7 := { stood := { row := matrixTellsRow, standIns := [], harness := (true, "15051fdd8dcdbd9ae32a8d6a18795cf56808b2ea8a463ff7df25aa5395f41cab"), looks := false }, kinds := [], alts := [], laidByText := true, laidKinds := [.data], laidTests := true, laidLooks := .later }
def MatrixTellsCardSaid : Prop := Claim7.holds Tryd.pinned (.plain (OpenSpec.ofChange matrixTellsSpec)) matrixTellsCard

/-- THE TIED CARD OF 'ostinatolaw12.MatrixComes'. -/
def matrixComesCard : Claim7 := { stood := { row := matrixComesRow, standIns := [], harness := (true, "15051fdd8dcdbd9ae32a8d6a18795cf56808b2ea8a463ff7df25aa5395f41cab"), looks := false }, kinds := [], alts := [], laidByText := true, laidKinds := [.data], laidTests := true, laidLooks := .later }
def MatrixComesCardSaid : Prop := Claim7.holds Tryd.pinned (.plain (OpenSpec.ofChange matrixComesSpec)) matrixComesCard

/-- THE TIED CARD OF 'ostinatolaw12.MatrixFrames'. -/
def matrixFramesCard : Claim7 := { stood := { row := matrixFramesRow, standIns := [], harness := (true, "15051fdd8dcdbd9ae32a8d6a18795cf56808b2ea8a463ff7df25aa5395f41cab"), looks := false }, kinds := [], alts := [], laidByText := true, laidKinds := [.data], laidTests := true, laidLooks := .later }
def MatrixFramesCardSaid : Prop := Claim7.holds Tryd.pinned (.plain (OpenSpec.ofChange matrixFramesSpec)) matrixFramesCard

/-- THE TIED CARD OF 'ostinatolaw12.MatrixBounds'. -/
def matrixBoundsCard : Claim7 := { stood := { row := matrixBoundsRow, standIns := [], harness := (true, "15051fdd8dcdbd9ae32a8d6a18795cf56808b2ea8a463ff7df25aa5395f41cab"), looks := false }, kinds := [], alts := [], laidByText := true, laidKinds := [.data], laidTests := true, laidLooks := .later }
def MatrixBoundsCardSaid : Prop := Claim7.holds Tryd.pinned (.plain (OpenSpec.ofChange matrixBoundsSpec)) matrixBoundsCard

/-- THE TIED CARD OF 'ostinatolaw12.MatrixApart'. -/
def matrixApartCard : Claim7 := { stood := { row := matrixApartRow, standIns := [], harness := (true, "15051fdd8dcdbd9ae32a8d6a18795cf56808b2ea8a463ff7df25aa5395f41cab"), looks := false }, kinds := [], alts := [], laidByText := true, laidKinds := [.data], laidTests := true, laidLooks := .later }
def MatrixApartCardSaid : Prop := Claim7.holds Tryd.pinned (.plain (OpenSpec.ofChange matrixApartSpec)) matrixApartCard

/-- THE SECOND FORM's CARD OF 'ostinatolaw12.MatrixTells'. -/
def matrixTellsUptoCard : Claim7 := { stood := { row := matrixTellsUptoRow, standIns := [], harness := (true, "15051fdd8dcdbd9ae32a8d6a18795cf56808b2ea8a463ff7df25aa5395f41cab"), looks := false }, kinds := [], alts := [], laidByText := true, laidKinds := [.data], laidTests := true, laidLooks := .later }
def MatrixTellsUptoCardSaid : Prop := Claim7.holds Tryd.pinned (.plain (OpenSpec.upto matrixTellsSpec)) matrixTellsUptoCard

/-- THE SECOND FORM's CARD OF 'ostinatolaw12.MatrixComes'. -/
def matrixComesUptoCard : Claim7 := { stood := { row := matrixComesUptoRow, standIns := [], harness := (true, "15051fdd8dcdbd9ae32a8d6a18795cf56808b2ea8a463ff7df25aa5395f41cab"), looks := false }, kinds := [], alts := [], laidByText := true, laidKinds := [.data], laidTests := true, laidLooks := .later }
def MatrixComesUptoCardSaid : Prop := Claim7.holds Tryd.pinned (.plain (OpenSpec.upto matrixComesSpec)) matrixComesUptoCard

/-- THE SECOND FORM's CARD OF 'ostinatolaw12.MatrixFrames'. -/
def matrixFramesUptoCard : Claim7 := { stood := { row := matrixFramesUptoRow, standIns := [], harness := (true, "15051fdd8dcdbd9ae32a8d6a18795cf56808b2ea8a463ff7df25aa5395f41cab"), looks := false }, kinds := [], alts := [], laidByText := true, laidKinds := [.data], laidTests := true, laidLooks := .later }
def MatrixFramesUptoCardSaid : Prop := Claim7.holds Tryd.pinned (.plain (OpenSpec.upto matrixFramesSpec)) matrixFramesUptoCard

/-- THE SECOND FORM's CARD OF 'ostinatolaw12.MatrixBounds'. -/
def matrixBoundsUptoCard : Claim7 := { stood := { row := matrixBoundsUptoRow, standIns := [], harness := (true, "15051fdd8dcdbd9ae32a8d6a18795cf56808b2ea8a463ff7df25aa5395f41cab"), looks := false }, kinds := [], alts := [], laidByText := true, laidKinds := [.data], laidTests := true, laidLooks := .later }
def MatrixBoundsUptoCardSaid : Prop := Claim7.holds Tryd.pinned (.plain (OpenSpec.upto matrixBoundsSpec)) matrixBoundsUptoCard

/-- THE SECOND FORM's CARD OF 'ostinatolaw12.MatrixApart'. -/
def matrixApartUptoCard : Claim7 := { stood := { row := matrixApartUptoRow, standIns := [], harness := (true, "15051fdd8dcdbd9ae32a8d6a18795cf56808b2ea8a463ff7df25aa5395f41cab"), looks := false }, kinds := [], alts := [], laidByText := true, laidKinds := [.data], laidTests := true, laidLooks := .later }
def MatrixApartUptoCardSaid : Prop := Claim7.holds Tryd.pinned (.plain (OpenSpec.upto matrixApartSpec)) matrixApartUptoCard
end Rows
end Go.Proofs.YthknkolnalobjaaDoor
