/-
  NARROWER THAN 'FOR EVERY INPUT', by the rows' own cells (each row's printed sentence says how): MatrixTells: laid · MatrixComes: laid · MatrixFrames: laid · MatrixBounds: laid · MatrixApart: laid.
  DERIVED. THE GIVEN ROWS OF THIS SEAT. 5 by the template 'for every input the law returns true; each argument reads behind the call as it read before'; 0 by the template 'total and deterministic' (their statements: YthknkolnalobjaaDoorTotals.lean).
  GIVEN WITH THE SEED: the statements are not yours to turn. If you find one false, say at which input.
  Laid BY PROGRAM, IN A SANDBOX (cutbox-rows.mjs): the forced cells as the released guide's own fill.sh prints them over the translation 089115bad4debe09… (all of the seat's roots in one cut). By AI agents, Wed Nov 11 2026. No macro, syntax, notation, axiom, sorry.
-/
import Derived.Test.YthknkolnalobjaaDoorChecked
import GoSem.Claim
import GoSem.ClaimJoined
import GoSem.ClaimMapViews
import Derived.JoinedTies
import Derived.KernelRfl
namespace Go.Proofs.YthknkolnalobjaaDoor
/- THE CELL 'sum', in the pinned program and in every row, IS THE sha256 OF THE DUMP (.gsa) THAT YthknkolnalobjaaDoorProg.lean LOADS. Nothing in Lean hashes anything: it is a label: what it is worth is what the hold of that sum in a sandbox is worth. -/
noncomputable def Tryd.pinned : Pinned := { name := "ythknkolnalobjaadoor", sum := "089115bad4debe09ec43476e2583ed5923895a6fd583c98fb9ceb2b9bc8f1a2a", checked := Tryd.checked }
namespace Rows
def none {H : Type} : Left H := { results := [], args := [] }

/- WHAT THE LISTED PACKAGE-LEVEL VARIABLES READ AS WHEN THE CALL BEGINS. Each datum BY PROGRAM (the guide's laid-datum.mjs) off the statement by which the dump's own 'gosem.cut.vars' lays the variable. In a bare row this is a premise. The card (YthknkolnalobjaaDoorCards.lean) ties it to the program's text. -/
def laid_ostinato_frame_widths {H : Type} : DataW H := .agg [.agg [.lit (.int .i64 1), .lit (.int .i64 1)], .agg [.lit (.int .i64 11), .lit (.int .i64 11)], .agg [.lit (.int .i64 1), .lit (.int .i64 1)], .agg [.lit (.int .i64 1), .lit (.int .i64 1)], .agg [.lit (.int .i64 0), .lit (.int .i64 18)], .agg [.lit (.int .i64 0), .lit (.int .i64 1)], .agg [.lit (.int .i64 1), .lit (.int .i64 2)], .agg [.lit (.int .i64 4), .lit (.int .i64 4)]]

/-- 'ostinatolaw12.MatrixTells': WHATEVER THE INPUT: true; the input reads as it did. -/
def matrixTellsSpec : ChangeSpec := { name := "matrixTells", fn := fun _ => fun
  | [d1, d2, d3, d4, d5, d6] => { results := [.lit (.bool true)], args := [d1, d2, d3, d4, d5, d6] }
  | _ => none }
def matrixTellsRow : OpenClaim := { program := "ythknkolnalobjaadoor", sum := "089115bad4debe09ec43476e2583ed5923895a6fd583c98fb9ceb2b9bc8f1a2a", func := "ostinato/ostinatolaw12.MatrixTells", spec := "matrixTells", unfollowed := true, recurses := true, named := ["ostinato/frame.widths"], apart := false, laid := [("ostinato/frame.widths", laid_ostinato_frame_widths)] }
def MatrixTellsSaid : Prop := matrixTellsRow.holds Tryd.pinned (OpenSpec.ofChange matrixTellsSpec)

/-- ITS FALSE NEIGHBOUR: 'it returns false'. Refute it at one input. -/
def matrixTellsWrong : ChangeSpec := { name := "matrixTells", fn := fun _ => fun
  | [d1, d2, d3, d4, d5, d6] => { results := [.lit (.bool false)], args := [d1, d2, d3, d4, d5, d6] }
  | _ => none }
def MatrixTellsWrongFalsely : Prop := matrixTellsRow.holds Tryd.pinned (OpenSpec.ofChange matrixTellsWrong)

/-- 'ostinatolaw12.MatrixComes': WHATEVER THE INPUT: true; the input reads as it did. -/
def matrixComesSpec : ChangeSpec := { name := "matrixComes", fn := fun _ => fun
  | [d1, d2, d3] => { results := [.lit (.bool true)], args := [d1, d2, d3] }
  | _ => none }
def matrixComesRow : OpenClaim := { program := "ythknkolnalobjaadoor", sum := "089115bad4debe09ec43476e2583ed5923895a6fd583c98fb9ceb2b9bc8f1a2a", func := "ostinato/ostinatolaw12.MatrixComes", spec := "matrixComes", unfollowed := true, recurses := true, named := ["ostinato/frame.widths"], apart := false, laid := [("ostinato/frame.widths", laid_ostinato_frame_widths)] }
def MatrixComesSaid : Prop := matrixComesRow.holds Tryd.pinned (OpenSpec.ofChange matrixComesSpec)

/-- ITS FALSE NEIGHBOUR: 'it returns false'. Refute it at one input. -/
def matrixComesWrong : ChangeSpec := { name := "matrixComes", fn := fun _ => fun
  | [d1, d2, d3] => { results := [.lit (.bool false)], args := [d1, d2, d3] }
  | _ => none }
def MatrixComesWrongFalsely : Prop := matrixComesRow.holds Tryd.pinned (OpenSpec.ofChange matrixComesWrong)

/-- 'ostinatolaw12.MatrixFrames': WHATEVER THE INPUT: true; the input reads as it did. -/
def matrixFramesSpec : ChangeSpec := { name := "matrixFrames", fn := fun _ => fun
  | [d1, d2] => { results := [.lit (.bool true)], args := [d1, d2] }
  | _ => none }
def matrixFramesRow : OpenClaim := { program := "ythknkolnalobjaadoor", sum := "089115bad4debe09ec43476e2583ed5923895a6fd583c98fb9ceb2b9bc8f1a2a", func := "ostinato/ostinatolaw12.MatrixFrames", spec := "matrixFrames", unfollowed := true, recurses := true, named := ["ostinato/frame.widths"], apart := false, laid := [("ostinato/frame.widths", laid_ostinato_frame_widths)] }
def MatrixFramesSaid : Prop := matrixFramesRow.holds Tryd.pinned (OpenSpec.ofChange matrixFramesSpec)

/-- ITS FALSE NEIGHBOUR: 'it returns false'. Refute it at one input. -/
def matrixFramesWrong : ChangeSpec := { name := "matrixFrames", fn := fun _ => fun
  | [d1, d2] => { results := [.lit (.bool false)], args := [d1, d2] }
  | _ => none }
def MatrixFramesWrongFalsely : Prop := matrixFramesRow.holds Tryd.pinned (OpenSpec.ofChange matrixFramesWrong)

/-- 'ostinatolaw12.MatrixBounds': WHATEVER THE INPUT: true; the input reads as it did. -/
def matrixBoundsSpec : ChangeSpec := { name := "matrixBounds", fn := fun _ => fun
  | [d1, d2] => { results := [.lit (.bool true)], args := [d1, d2] }
  | _ => none }
def matrixBoundsRow : OpenClaim := { program := "ythknkolnalobjaadoor", sum := "089115bad4debe09ec43476e2583ed5923895a6fd583c98fb9ceb2b9bc8f1a2a", func := "ostinato/ostinatolaw12.MatrixBounds", spec := "matrixBounds", unfollowed := true, recurses := true, named := ["ostinato/frame.widths"], apart := false, laid := [("ostinato/frame.widths", laid_ostinato_frame_widths)] }
def MatrixBoundsSaid : Prop := matrixBoundsRow.holds Tryd.pinned (OpenSpec.ofChange matrixBoundsSpec)

/-- ITS FALSE NEIGHBOUR: 'it returns false'. Refute it at one input. -/
def matrixBoundsWrong : ChangeSpec := { name := "matrixBounds", fn := fun _ => fun
  | [d1, d2] => { results := [.lit (.bool false)], args := [d1, d2] }
  | _ => none }
def MatrixBoundsWrongFalsely : Prop := matrixBoundsRow.holds Tryd.pinned (OpenSpec.ofChange matrixBoundsWrong)

/-- 'ostinatolaw12.MatrixApart': WHATEVER THE INPUT: true; the input reads as it did. -/
def matrixApartSpec : ChangeSpec := { name := "matrixApart", fn := fun _ => fun
  | [d1, d2, d3] => { results := [.lit (.bool true)], args := [d1, d2, d3] }
  | _ => none }
def matrixApartRow : OpenClaim := { program := "ythknkolnalobjaadoor", sum := "089115bad4debe09ec43476e2583ed5923895a6fd583c98fb9ceb2b9bc8f1a2a", func := "ostinato/ostinatolaw12.MatrixApart", spec := "matrixApart", unfollowed := true, recurses := true, named := ["ostinato/frame.widths"], apart := false, laid := [("ostinato/frame.widths", laid_ostinato_frame_widths)] }
def MatrixApartSaid : Prop := matrixApartRow.holds Tryd.pinned (OpenSpec.ofChange matrixApartSpec)

/-- ITS FALSE NEIGHBOUR: 'it returns false'. Refute it at one input. -/
def matrixApartWrong : ChangeSpec := { name := "matrixApart", fn := fun _ => fun
  | [d1, d2, d3] => { results := [.lit (.bool false)], args := [d1, d2, d3] }
  | _ => none }
def MatrixApartWrongFalsely : Prop := matrixApartRow.holds Tryd.pinned (OpenSpec.ofChange matrixApartWrong)

/- THE SECOND FORM. 'bulk': how many values and letters a reading holds, each counted each time it is reached (what is shared counts as often as it is met; a slice's spare places count too). A statement '..UptoSaid' is the law's where the arguments, and the package variables that the reading takes, are together of bulk at most 1048576: NARROWER than '..Said'. Prove '..Said' where nothing that the law and all that it calls make is longer than what came in: it says more and counts as full. Else prove '..UptoSaid'. A law counts once. -/
mutual
def uptoBulk {H : Type} : DataW H → Nat
  | .lit (.string bytes) => bytes.length + 1
  | .lit _ => 1
  | .nil => 1
  | .ptr d => uptoBulk d + 1
  | .slice elems spare => uptoBulkAll elems + uptoBulkAll spare + 1
  | .agg parts => uptoBulkAll parts + 1
  | .iface _ d => uptoBulk d + 1
  | .map entries => uptoBulkEntries entries + 1
  | .held _ => 1
def uptoBulkAll {H : Type} : List (DataW H) → Nat
  | [] => 0
  | d :: r => uptoBulk d + uptoBulkAll r
def uptoBulkEntries {H : Type} : List (Lit × DataW H) → Nat
  | [] => 0
  | x :: r => uptoBulkEntry x + uptoBulkEntries r
def uptoBulkEntry {H : Type} : Lit × DataW H → Nat
  | (.string bytes, d) => bytes.length + uptoBulk d + 1
  | (_, d) => uptoBulk d + 1
 end
def uptoSmall : (H : Type) → List (DataW H) → Bool := fun _ ds => decide (uptoBulkAll ds ≤ 1048576)
def OpenSpec.upto (s : _root_.Go.ChangeSpec) : _root_.Go.OpenSpec := { _root_.Go.OpenSpec.ofChange s with cond := some uptoSmall }

/-- 'ostinatolaw12.MatrixTells', WHERE WHAT IT READS IS OF BULK AT MOST 1048576: true; the input reads as it did. -/
def matrixTellsUptoRow : OpenClaim := { program := "ythknkolnalobjaadoor", sum := "089115bad4debe09ec43476e2583ed5923895a6fd583c98fb9ceb2b9bc8f1a2a", func := "ostinato/ostinatolaw12.MatrixTells", spec := "matrixTells", unfollowed := true, recurses := true, named := ["ostinato/frame.widths"], apart := false, laid := [("ostinato/frame.widths", laid_ostinato_frame_widths)], narrowed := true }
def MatrixTellsUptoSaid : Prop := matrixTellsUptoRow.holds Tryd.pinned (OpenSpec.upto matrixTellsSpec)

/-- 'ostinatolaw12.MatrixComes', WHERE WHAT IT READS IS OF BULK AT MOST 1048576: true; the input reads as it did. -/
def matrixComesUptoRow : OpenClaim := { program := "ythknkolnalobjaadoor", sum := "089115bad4debe09ec43476e2583ed5923895a6fd583c98fb9ceb2b9bc8f1a2a", func := "ostinato/ostinatolaw12.MatrixComes", spec := "matrixComes", unfollowed := true, recurses := true, named := ["ostinato/frame.widths"], apart := false, laid := [("ostinato/frame.widths", laid_ostinato_frame_widths)], narrowed := true }
def MatrixComesUptoSaid : Prop := matrixComesUptoRow.holds Tryd.pinned (OpenSpec.upto matrixComesSpec)

/-- 'ostinatolaw12.MatrixFrames', WHERE WHAT IT READS IS OF BULK AT MOST 1048576: true; the input reads as it did. -/
def matrixFramesUptoRow : OpenClaim := { program := "ythknkolnalobjaadoor", sum := "089115bad4debe09ec43476e2583ed5923895a6fd583c98fb9ceb2b9bc8f1a2a", func := "ostinato/ostinatolaw12.MatrixFrames", spec := "matrixFrames", unfollowed := true, recurses := true, named := ["ostinato/frame.widths"], apart := false, laid := [("ostinato/frame.widths", laid_ostinato_frame_widths)], narrowed := true }
def MatrixFramesUptoSaid : Prop := matrixFramesUptoRow.holds Tryd.pinned (OpenSpec.upto matrixFramesSpec)

/-- 'ostinatolaw12.MatrixBounds', WHERE WHAT IT READS IS OF BULK AT MOST 1048576: true; the input reads as it did. -/
def matrixBoundsUptoRow : OpenClaim := { program := "ythknkolnalobjaadoor", sum := "089115bad4debe09ec43476e2583ed5923895a6fd583c98fb9ceb2b9bc8f1a2a", func := "ostinato/ostinatolaw12.MatrixBounds", spec := "matrixBounds", unfollowed := true, recurses := true, named := ["ostinato/frame.widths"], apart := false, laid := [("ostinato/frame.widths", laid_ostinato_frame_widths)], narrowed := true }
def MatrixBoundsUptoSaid : Prop := matrixBoundsUptoRow.holds Tryd.pinned (OpenSpec.upto matrixBoundsSpec)

/-- 'ostinatolaw12.MatrixApart', WHERE WHAT IT READS IS OF BULK AT MOST 1048576: true; the input reads as it did. -/
def matrixApartUptoRow : OpenClaim := { program := "ythknkolnalobjaadoor", sum := "089115bad4debe09ec43476e2583ed5923895a6fd583c98fb9ceb2b9bc8f1a2a", func := "ostinato/ostinatolaw12.MatrixApart", spec := "matrixApart", unfollowed := true, recurses := true, named := ["ostinato/frame.widths"], apart := false, laid := [("ostinato/frame.widths", laid_ostinato_frame_widths)], narrowed := true }
def MatrixApartUptoSaid : Prop := matrixApartUptoRow.holds Tryd.pinned (OpenSpec.upto matrixApartSpec)

end Rows
end Go.Proofs.YthknkolnalobjaaDoor
