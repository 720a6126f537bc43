/-
  NARROWER THAN 'FOR EVERY INPUT', by the rows' own cells (each row's printed sentence says how): WindowTells: laid · WindowSums: laid · WindowEdges: laid.
  DERIVED. THE GIVEN ROWS OF THIS SEAT. 3 by the template 'for every input the law returns true; each argument reads behind the call as it read before'; 0 by the template 'total and deterministic' (their statements: YtmfehobpbpkcaaaDoorTotals.lean).
  GIVEN WITH THE SEED: the statements are not yours to turn. If you find one false, say at which input.
  Laid BY PROGRAM, IN A SANDBOX (cutbox-rows.mjs): the forced cells as the released guide's own fill.sh prints them over the translation 01bf3c6d3a48d3f5… (all of the seat's roots in one cut). By AI agents, Wed Nov 11 2026. No macro, syntax, notation, axiom, sorry.
-/
import Derived.Test.YtmfehobpbpkcaaaDoorChecked
import GoSem.Claim
import GoSem.ClaimJoined
import GoSem.ClaimMapViews
import Derived.JoinedTies
import Derived.KernelRfl
namespace Go.Proofs.YtmfehobpbpkcaaaDoor
/- THE CELL 'sum', in the pinned program and in every row, IS THE sha256 OF THE DUMP (.gsa) THAT YtmfehobpbpkcaaaDoorProg.lean LOADS. Nothing in Lean hashes anything: it is a label: what it is worth is what the hold of that sum in a sandbox is worth. -/
noncomputable def Tryd.pinned : Pinned := { name := "ytmfehobpbpkcaaadoor", sum := "01bf3c6d3a48d3f57f253bebd841998da8604328055d25300e55b97fbbcdf4c2", checked := Tryd.checked }
namespace Rows
def none {H : Type} : Left H := { results := [], args := [] }

/- WHAT THE LISTED PACKAGE-LEVEL VARIABLES READ AS WHEN THE CALL BEGINS. Each datum BY PROGRAM (the guide's laid-datum.mjs) off the statement by which the dump's own 'gosem.cut.vars' lays the variable. In a bare row this is a premise. The card (YtmfehobpbpkcaaaDoorCards.lean) ties it to the program's text. -/
def laid_ostinato_frame_widths {H : Type} : DataW H := .agg [.agg [.lit (.int .i64 1), .lit (.int .i64 1)], .agg [.lit (.int .i64 11), .lit (.int .i64 11)], .agg [.lit (.int .i64 1), .lit (.int .i64 1)], .agg [.lit (.int .i64 1), .lit (.int .i64 1)], .agg [.lit (.int .i64 0), .lit (.int .i64 18)], .agg [.lit (.int .i64 0), .lit (.int .i64 1)], .agg [.lit (.int .i64 1), .lit (.int .i64 2)], .agg [.lit (.int .i64 4), .lit (.int .i64 4)]]

/-- 'ostinatolaw16.WindowTells': WHATEVER THE INPUT: true; the input reads as it did. -/
def windowTellsSpec : ChangeSpec := { name := "windowTells", fn := fun _ => fun
  | [d1, d2, d3] => { results := [.lit (.bool true)], args := [d1, d2, d3] }
  | _ => none }
def windowTellsRow : OpenClaim := { program := "ytmfehobpbpkcaaadoor", sum := "01bf3c6d3a48d3f57f253bebd841998da8604328055d25300e55b97fbbcdf4c2", func := "ostinato/ostinatolaw16.WindowTells", spec := "windowTells", unfollowed := true, recurses := true, named := ["ostinato/frame.widths"], apart := false, laid := [("ostinato/frame.widths", laid_ostinato_frame_widths)] }
def WindowTellsSaid : Prop := windowTellsRow.holds Tryd.pinned (OpenSpec.ofChange windowTellsSpec)

/-- ITS FALSE NEIGHBOUR: 'it returns false'. Refute it at one input. -/
def windowTellsWrong : ChangeSpec := { name := "windowTells", fn := fun _ => fun
  | [d1, d2, d3] => { results := [.lit (.bool false)], args := [d1, d2, d3] }
  | _ => none }
def WindowTellsWrongFalsely : Prop := windowTellsRow.holds Tryd.pinned (OpenSpec.ofChange windowTellsWrong)

/-- 'ostinatolaw16.WindowSums': WHATEVER THE INPUT: true; the input reads as it did. -/
def windowSumsSpec : ChangeSpec := { name := "windowSums", fn := fun _ => fun
  | [d1, d2] => { results := [.lit (.bool true)], args := [d1, d2] }
  | _ => none }
def windowSumsRow : OpenClaim := { program := "ytmfehobpbpkcaaadoor", sum := "01bf3c6d3a48d3f57f253bebd841998da8604328055d25300e55b97fbbcdf4c2", func := "ostinato/ostinatolaw16.WindowSums", spec := "windowSums", unfollowed := true, recurses := true, named := ["ostinato/frame.widths"], apart := false, laid := [("ostinato/frame.widths", laid_ostinato_frame_widths)] }
def WindowSumsSaid : Prop := windowSumsRow.holds Tryd.pinned (OpenSpec.ofChange windowSumsSpec)

/-- ITS FALSE NEIGHBOUR: 'it returns false'. Refute it at one input. -/
def windowSumsWrong : ChangeSpec := { name := "windowSums", fn := fun _ => fun
  | [d1, d2] => { results := [.lit (.bool false)], args := [d1, d2] }
  | _ => none }
def WindowSumsWrongFalsely : Prop := windowSumsRow.holds Tryd.pinned (OpenSpec.ofChange windowSumsWrong)

/-- 'ostinatolaw16.WindowEdges': WHATEVER THE INPUT: true; the input reads as it did. -/
def windowEdgesSpec : ChangeSpec := { name := "windowEdges", fn := fun _ => fun
  | [d1, d2, d3, d4, d5] => { results := [.lit (.bool true)], args := [d1, d2, d3, d4, d5] }
  | _ => none }
def windowEdgesRow : OpenClaim := { program := "ytmfehobpbpkcaaadoor", sum := "01bf3c6d3a48d3f57f253bebd841998da8604328055d25300e55b97fbbcdf4c2", func := "ostinato/ostinatolaw16.WindowEdges", spec := "windowEdges", unfollowed := true, recurses := true, named := ["ostinato/frame.widths"], apart := false, laid := [("ostinato/frame.widths", laid_ostinato_frame_widths)] }
def WindowEdgesSaid : Prop := windowEdgesRow.holds Tryd.pinned (OpenSpec.ofChange windowEdgesSpec)

/-- ITS FALSE NEIGHBOUR: 'it returns false'. Refute it at one input. -/
def windowEdgesWrong : ChangeSpec := { name := "windowEdges", fn := fun _ => fun
  | [d1, d2, d3, d4, d5] => { results := [.lit (.bool false)], args := [d1, d2, d3, d4, d5] }
  | _ => none }
def WindowEdgesWrongFalsely : Prop := windowEdgesRow.holds Tryd.pinned (OpenSpec.ofChange windowEdgesWrong)

/- THE SECOND FORM. 'bulk': how many values and letters a reading holds, each counted each time it is reached (what is shared counts as often as it is met; a slice's spare places count too). A statement '..UptoSaid' is the law's where the arguments, and the package variables that the reading takes, are together of bulk at most 1048576: NARROWER than '..Said'. Prove '..Said' where nothing that the law and all that it calls make is longer than what came in: it says more and counts as full. Else prove '..UptoSaid'. A law counts once. -/
mutual
def uptoBulk {H : Type} : DataW H → Nat
  | .lit (.string bytes) => bytes.length + 1
  | .lit _ => 1
  | .nil => 1
  | .ptr d => uptoBulk d + 1
  | .slice elems spare => uptoBulkAll elems + uptoBulkAll spare + 1
  | .agg parts => uptoBulkAll parts + 1
  | .iface _ d => uptoBulk d + 1
  | .map entries => uptoBulkEntries entries + 1
  | .held _ => 1
def uptoBulkAll {H : Type} : List (DataW H) → Nat
  | [] => 0
  | d :: r => uptoBulk d + uptoBulkAll r
def uptoBulkEntries {H : Type} : List (Lit × DataW H) → Nat
  | [] => 0
  | x :: r => uptoBulkEntry x + uptoBulkEntries r
def uptoBulkEntry {H : Type} : Lit × DataW H → Nat
  | (.string bytes, d) => bytes.length + uptoBulk d + 1
  | (_, d) => uptoBulk d + 1
 end
def uptoSmall : (H : Type) → List (DataW H) → Bool := fun _ ds => decide (uptoBulkAll ds ≤ 1048576)
def OpenSpec.upto (s : _root_.Go.ChangeSpec) : _root_.Go.OpenSpec := { _root_.Go.OpenSpec.ofChange s with cond := some uptoSmall }

/-- 'ostinatolaw16.WindowTells', WHERE WHAT IT READS IS OF BULK AT MOST 1048576: true; the input reads as it did. -/
def windowTellsUptoRow : OpenClaim := { program := "ytmfehobpbpkcaaadoor", sum := "01bf3c6d3a48d3f57f253bebd841998da8604328055d25300e55b97fbbcdf4c2", func := "ostinato/ostinatolaw16.WindowTells", spec := "windowTells", unfollowed := true, recurses := true, named := ["ostinato/frame.widths"], apart := false, laid := [("ostinato/frame.widths", laid_ostinato_frame_widths)], narrowed := true }
def WindowTellsUptoSaid : Prop := windowTellsUptoRow.holds Tryd.pinned (OpenSpec.upto windowTellsSpec)

/-- 'ostinatolaw16.WindowSums', WHERE WHAT IT READS IS OF BULK AT MOST 1048576: true; the input reads as it did. -/
def windowSumsUptoRow : OpenClaim := { program := "ytmfehobpbpkcaaadoor", sum := "01bf3c6d3a48d3f57f253bebd841998da8604328055d25300e55b97fbbcdf4c2", func := "ostinato/ostinatolaw16.WindowSums", spec := "windowSums", unfollowed := true, recurses := true, named := ["ostinato/frame.widths"], apart := false, laid := [("ostinato/frame.widths", laid_ostinato_frame_widths)], narrowed := true }
def WindowSumsUptoSaid : Prop := windowSumsUptoRow.holds Tryd.pinned (OpenSpec.upto windowSumsSpec)

/-- 'ostinatolaw16.WindowEdges', WHERE WHAT IT READS IS OF BULK AT MOST 1048576: true; the input reads as it did. -/
def windowEdgesUptoRow : OpenClaim := { program := "ytmfehobpbpkcaaadoor", sum := "01bf3c6d3a48d3f57f253bebd841998da8604328055d25300e55b97fbbcdf4c2", func := "ostinato/ostinatolaw16.WindowEdges", spec := "windowEdges", unfollowed := true, recurses := true, named := ["ostinato/frame.widths"], apart := false, laid := [("ostinato/frame.widths", laid_ostinato_frame_widths)], narrowed := true }
def WindowEdgesUptoSaid : Prop := windowEdgesUptoRow.holds Tryd.pinned (OpenSpec.upto windowEdgesSpec)

end Rows
end Go.Proofs.YtmfehobpbpkcaaaDoor
