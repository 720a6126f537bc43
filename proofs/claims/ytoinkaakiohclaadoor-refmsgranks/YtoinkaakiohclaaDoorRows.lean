/-
  NARROWER THAN 'FOR EVERY INPUT', by the rows' own cells (each row's printed sentence says how): RefmsgTells: laid · RefmsgBack: laid · RefmsgRanks: laid · RefmsgForms: laid.
  DERIVED. THE GIVEN ROWS OF THIS SEAT. 4 by the template 'for every input the law returns true; each argument reads behind the call as it read before'; 0 by the template 'total and deterministic' (their statements: YtoinkaakiohclaaDoorTotals.lean).
  GIVEN WITH THE SEED: the statements are not yours to turn. If you find one false, say at which input.
  Laid BY PROGRAM, IN A SANDBOX (cutbox-rows.mjs): the forced cells as the released guide's own fill.sh prints them over the translation c8948fb5619fcb26… (all of the seat's roots in one cut). By AI agents, Wed Nov 11 2026. No macro, syntax, notation, axiom, sorry.
-/
import Derived.Test.YtoinkaakiohclaaDoorChecked
import GoSem.Claim
import GoSem.ClaimJoined
import GoSem.ClaimMapViews
import Derived.JoinedTies
import Derived.KernelRfl
namespace Go.Proofs.YtoinkaakiohclaaDoor
/- THE CELL 'sum', in the pinned program and in every row, IS THE sha256 OF THE DUMP (.gsa) THAT YtoinkaakiohclaaDoorProg.lean LOADS. Nothing in Lean hashes anything: it is a label: what it is worth is what the hold of that sum in a sandbox is worth. -/
noncomputable def Tryd.pinned : Pinned := { name := "ytoinkaakiohclaadoor", sum := "c8948fb5619fcb264dab893df28da708b251f40138336b709ad3c6b9a3b93b98", checked := Tryd.checked }
namespace Rows
def none {H : Type} : Left H := { results := [], args := [] }

/- WHAT THE LISTED PACKAGE-LEVEL VARIABLES READ AS WHEN THE CALL BEGINS. Each datum BY PROGRAM (the guide's laid-datum.mjs) off the statement by which the dump's own 'gosem.cut.vars' lays the variable. In a bare row this is a premise. The card (YtoinkaakiohclaaDoorCards.lean) ties it to the program's text. -/
def laid_ostinato_frame_widths {H : Type} : DataW H := .agg [.agg [.lit (.int .i64 1), .lit (.int .i64 1)], .agg [.lit (.int .i64 11), .lit (.int .i64 11)], .agg [.lit (.int .i64 1), .lit (.int .i64 1)], .agg [.lit (.int .i64 1), .lit (.int .i64 1)], .agg [.lit (.int .i64 0), .lit (.int .i64 18)], .agg [.lit (.int .i64 0), .lit (.int .i64 1)], .agg [.lit (.int .i64 1), .lit (.int .i64 2)], .agg [.lit (.int .i64 4), .lit (.int .i64 4)]]

/-- 'ostinatolaw21.RefmsgTells': WHATEVER THE INPUT: true; the input reads as it did. -/
def refmsgTellsSpec : ChangeSpec := { name := "refmsgTells", fn := fun _ => fun
  | [d1, d2, d3, d4, d5, d6] => { results := [.lit (.bool true)], args := [d1, d2, d3, d4, d5, d6] }
  | _ => none }
def refmsgTellsRow : OpenClaim := { program := "ytoinkaakiohclaadoor", sum := "c8948fb5619fcb264dab893df28da708b251f40138336b709ad3c6b9a3b93b98", func := "ostinato/ostinatolaw21.RefmsgTells", spec := "refmsgTells", unfollowed := true, recurses := true, named := ["ostinato/frame.widths"], apart := false, laid := [("ostinato/frame.widths", laid_ostinato_frame_widths)] }
def RefmsgTellsSaid : Prop := refmsgTellsRow.holds Tryd.pinned (OpenSpec.ofChange refmsgTellsSpec)

/-- ITS FALSE NEIGHBOUR: 'it returns false'. Refute it at one input. -/
def refmsgTellsWrong : ChangeSpec := { name := "refmsgTells", fn := fun _ => fun
  | [d1, d2, d3, d4, d5, d6] => { results := [.lit (.bool false)], args := [d1, d2, d3, d4, d5, d6] }
  | _ => none }
def RefmsgTellsWrongFalsely : Prop := refmsgTellsRow.holds Tryd.pinned (OpenSpec.ofChange refmsgTellsWrong)

/-- 'ostinatolaw21.RefmsgBack': WHATEVER THE INPUT: true; the input reads as it did. -/
def refmsgBackSpec : ChangeSpec := { name := "refmsgBack", fn := fun _ => fun
  | [d1, d2, d3, d4, d5, d6, d7] => { results := [.lit (.bool true)], args := [d1, d2, d3, d4, d5, d6, d7] }
  | _ => none }
def refmsgBackRow : OpenClaim := { program := "ytoinkaakiohclaadoor", sum := "c8948fb5619fcb264dab893df28da708b251f40138336b709ad3c6b9a3b93b98", func := "ostinato/ostinatolaw21.RefmsgBack", spec := "refmsgBack", unfollowed := true, recurses := true, named := ["ostinato/frame.widths"], apart := false, laid := [("ostinato/frame.widths", laid_ostinato_frame_widths)] }
def RefmsgBackSaid : Prop := refmsgBackRow.holds Tryd.pinned (OpenSpec.ofChange refmsgBackSpec)

/-- ITS FALSE NEIGHBOUR: 'it returns false'. Refute it at one input. -/
def refmsgBackWrong : ChangeSpec := { name := "refmsgBack", fn := fun _ => fun
  | [d1, d2, d3, d4, d5, d6, d7] => { results := [.lit (.bool false)], args := [d1, d2, d3, d4, d5, d6, d7] }
  | _ => none }
def RefmsgBackWrongFalsely : Prop := refmsgBackRow.holds Tryd.pinned (OpenSpec.ofChange refmsgBackWrong)

/-- 'ostinatolaw21.RefmsgRanks': WHATEVER THE INPUT: true; the input reads as it did. -/
def refmsgRanksSpec : ChangeSpec := { name := "refmsgRanks", fn := fun _ => fun
  | [d1, d2, d3, d4] => { results := [.lit (.bool true)], args := [d1, d2, d3, d4] }
  | _ => none }
def refmsgRanksRow : OpenClaim := { program := "ytoinkaakiohclaadoor", sum := "c8948fb5619fcb264dab893df28da708b251f40138336b709ad3c6b9a3b93b98", func := "ostinato/ostinatolaw21.RefmsgRanks", spec := "refmsgRanks", unfollowed := true, recurses := true, named := ["ostinato/frame.widths"], apart := false, laid := [("ostinato/frame.widths", laid_ostinato_frame_widths)] }
def RefmsgRanksSaid : Prop := refmsgRanksRow.holds Tryd.pinned (OpenSpec.ofChange refmsgRanksSpec)

/-- ITS FALSE NEIGHBOUR: 'it returns false'. Refute it at one input. -/
def refmsgRanksWrong : ChangeSpec := { name := "refmsgRanks", fn := fun _ => fun
  | [d1, d2, d3, d4] => { results := [.lit (.bool false)], args := [d1, d2, d3, d4] }
  | _ => none }
def RefmsgRanksWrongFalsely : Prop := refmsgRanksRow.holds Tryd.pinned (OpenSpec.ofChange refmsgRanksWrong)

/-- 'ostinatolaw21.RefmsgForms': WHATEVER THE INPUT: true; the input reads as it did. -/
def refmsgFormsSpec : ChangeSpec := { name := "refmsgForms", fn := fun _ => fun
  | [d1, d2, d3] => { results := [.lit (.bool true)], args := [d1, d2, d3] }
  | _ => none }
def refmsgFormsRow : OpenClaim := { program := "ytoinkaakiohclaadoor", sum := "c8948fb5619fcb264dab893df28da708b251f40138336b709ad3c6b9a3b93b98", func := "ostinato/ostinatolaw21.RefmsgForms", spec := "refmsgForms", unfollowed := true, recurses := true, named := ["ostinato/frame.widths"], apart := false, laid := [("ostinato/frame.widths", laid_ostinato_frame_widths)] }
def RefmsgFormsSaid : Prop := refmsgFormsRow.holds Tryd.pinned (OpenSpec.ofChange refmsgFormsSpec)

/-- ITS FALSE NEIGHBOUR: 'it returns false'. Refute it at one input. -/
def refmsgFormsWrong : ChangeSpec := { name := "refmsgForms", fn := fun _ => fun
  | [d1, d2, d3] => { results := [.lit (.bool false)], args := [d1, d2, d3] }
  | _ => none }
def RefmsgFormsWrongFalsely : Prop := refmsgFormsRow.holds Tryd.pinned (OpenSpec.ofChange refmsgFormsWrong)

/- THE SECOND FORM. 'bulk': how many values and letters a reading holds, each counted each time it is reached (what is shared counts as often as it is met; a slice's spare places count too). A statement '..UptoSaid' is the law's where the arguments, and the package variables that the reading takes, are together of bulk at most 1048576: NARROWER than '..Said'. Prove '..Said' where nothing that the law and all that it calls make is longer than what came in: it says more and counts as full. Else prove '..UptoSaid'. A law counts once. -/
mutual
def uptoBulk {H : Type} : DataW H → Nat
  | .lit (.string bytes) => bytes.length + 1
  | .lit _ => 1
  | .nil => 1
  | .ptr d => uptoBulk d + 1
  | .slice elems spare => uptoBulkAll elems + uptoBulkAll spare + 1
  | .agg parts => uptoBulkAll parts + 1
  | .iface _ d => uptoBulk d + 1
  | .map entries => uptoBulkEntries entries + 1
  | .held _ => 1
def uptoBulkAll {H : Type} : List (DataW H) → Nat
  | [] => 0
  | d :: r => uptoBulk d + uptoBulkAll r
def uptoBulkEntries {H : Type} : List (Lit × DataW H) → Nat
  | [] => 0
  | x :: r => uptoBulkEntry x + uptoBulkEntries r
def uptoBulkEntry {H : Type} : Lit × DataW H → Nat
  | (.string bytes, d) => bytes.length + uptoBulk d + 1
  | (_, d) => uptoBulk d + 1
 end
def uptoSmall : (H : Type) → List (DataW H) → Bool := fun _ ds => decide (uptoBulkAll ds ≤ 1048576)
def OpenSpec.upto (s : _root_.Go.ChangeSpec) : _root_.Go.OpenSpec := { _root_.Go.OpenSpec.ofChange s with cond := some uptoSmall }

/-- 'ostinatolaw21.RefmsgTells', WHERE WHAT IT READS IS OF BULK AT MOST 1048576: true; the input reads as it did. -/
def refmsgTellsUptoRow : OpenClaim := { program := "ytoinkaakiohclaadoor", sum := "c8948fb5619fcb264dab893df28da708b251f40138336b709ad3c6b9a3b93b98", func := "ostinato/ostinatolaw21.RefmsgTells", spec := "refmsgTells", unfollowed := true, recurses := true, named := ["ostinato/frame.widths"], apart := false, laid := [("ostinato/frame.widths", laid_ostinato_frame_widths)], narrowed := true }
def RefmsgTellsUptoSaid : Prop := refmsgTellsUptoRow.holds Tryd.pinned (OpenSpec.upto refmsgTellsSpec)

/-- 'ostinatolaw21.RefmsgBack', WHERE WHAT IT READS IS OF BULK AT MOST 1048576: true; the input reads as it did. -/
def refmsgBackUptoRow : OpenClaim := { program := "ytoinkaakiohclaadoor", sum := "c8948fb5619fcb264dab893df28da708b251f40138336b709ad3c6b9a3b93b98", func := "ostinato/ostinatolaw21.RefmsgBack", spec := "refmsgBack", unfollowed := true, recurses := true, named := ["ostinato/frame.widths"], apart := false, laid := [("ostinato/frame.widths", laid_ostinato_frame_widths)], narrowed := true }
def RefmsgBackUptoSaid : Prop := refmsgBackUptoRow.holds Tryd.pinned (OpenSpec.upto refmsgBackSpec)

/-- 'ostinatolaw21.RefmsgRanks', WHERE WHAT IT READS IS OF BULK AT MOST 1048576: true; the input reads as it did. -/
def refmsgRanksUptoRow : OpenClaim := { program := "ytoinkaakiohclaadoor", sum := "c8948fb5619fcb264dab893df28da708b251f40138336b709ad3c6b9a3b93b98", func := "ostinato/ostinatolaw21.RefmsgRanks", spec := "refmsgRanks", unfollowed := true, recurses := true, named := ["ostinato/frame.widths"], apart := false, laid := [("ostinato/frame.widths", laid_ostinato_frame_widths)], narrowed := true }
def RefmsgRanksUptoSaid : Prop := refmsgRanksUptoRow.holds Tryd.pinned (OpenSpec.upto refmsgRanksSpec)

/-- 'ostinatolaw21.RefmsgForms', WHERE WHAT IT READS IS OF BULK AT MOST 1048576: true; the input reads as it did. -/
def refmsgFormsUptoRow : OpenClaim := { program := "ytoinkaakiohclaadoor", sum := "c8948fb5619fcb264dab893df28da708b251f40138336b709ad3c6b9a3b93b98", func := "ostinato/ostinatolaw21.RefmsgForms", spec := "refmsgForms", unfollowed := true, recurses := true, named := ["ostinato/frame.widths"], apart := false, laid := [("ostinato/frame.widths", laid_ostinato_frame_widths)], narrowed := true }
def RefmsgFormsUptoSaid : Prop := refmsgFormsUptoRow.holds Tryd.pinned (OpenSpec.upto refmsgFormsSpec)

end Rows
end Go.Proofs.YtoinkaakiohclaaDoor
