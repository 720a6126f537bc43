/-
  NARROWER THAN 'FOR EVERY INPUT', by the rows' own cells (each row's printed sentence says how): PlanTells: laid · PlanDue: laid · PlanShares: laid · PlanOrder: laid · PlanCycles: laid · PlanEnds: laid.
  DERIVED. THE GIVEN ROWS OF THIS SEAT. 6 by the template 'for every input the law returns true; each argument reads behind the call as it read before'; 0 by the template 'total and deterministic' (their statements: YtlfhneiddfgoaaaDoorTotals.lean).
  GIVEN WITH THE SEED: the statements are not yours to turn. If you find one false, say at which input.
  Laid BY PROGRAM, IN A SANDBOX (cutbox-rows.mjs): the forced cells as the released guide's own fill.sh prints them over the translation 0f33081edb37b74c… (all of the seat's roots in one cut). By AI agents, Wed Nov 11 2026. No macro, syntax, notation, axiom, sorry.
-/
import Derived.Test.YtlfhneiddfgoaaaDoorChecked
import GoSem.Claim
import GoSem.ClaimJoined
import GoSem.ClaimMapViews
import Derived.JoinedTies
import Derived.KernelRfl
namespace Go.Proofs.YtlfhneiddfgoaaaDoor
/- THE CELL 'sum', in the pinned program and in every row, IS THE sha256 OF THE DUMP (.gsa) THAT YtlfhneiddfgoaaaDoorProg.lean LOADS. Nothing in Lean hashes anything: it is a label: what it is worth is what the hold of that sum in a sandbox is worth. -/
noncomputable def Tryd.pinned : Pinned := { name := "ytlfhneiddfgoaaadoor", sum := "0f33081edb37b74c5a9f8392e7c3f1413a4e5b6fd0545245752fcc4632972624", checked := Tryd.checked }
namespace Rows
def none {H : Type} : Left H := { results := [], args := [] }

/- WHAT THE LISTED PACKAGE-LEVEL VARIABLES READ AS WHEN THE CALL BEGINS. Each datum BY PROGRAM (the guide's laid-datum.mjs) off the statement by which the dump's own 'gosem.cut.vars' lays the variable. In a bare row this is a premise. The card (YtlfhneiddfgoaaaDoorCards.lean) ties it to the program's text. -/
def laid_ostinato_frame_widths {H : Type} : DataW H := .agg [.agg [.lit (.int .i64 1), .lit (.int .i64 1)], .agg [.lit (.int .i64 11), .lit (.int .i64 11)], .agg [.lit (.int .i64 1), .lit (.int .i64 1)], .agg [.lit (.int .i64 1), .lit (.int .i64 1)], .agg [.lit (.int .i64 0), .lit (.int .i64 18)], .agg [.lit (.int .i64 0), .lit (.int .i64 1)], .agg [.lit (.int .i64 1), .lit (.int .i64 2)], .agg [.lit (.int .i64 4), .lit (.int .i64 4)]]

/-- 'ostinatolaw15.PlanTells': WHATEVER THE INPUT: true; the input reads as it did. -/
def planTellsSpec : ChangeSpec := { name := "planTells", fn := fun _ => fun
  | [d1, d2, d3] => { results := [.lit (.bool true)], args := [d1, d2, d3] }
  | _ => none }
def planTellsRow : OpenClaim := { program := "ytlfhneiddfgoaaadoor", sum := "0f33081edb37b74c5a9f8392e7c3f1413a4e5b6fd0545245752fcc4632972624", func := "ostinato/ostinatolaw15.PlanTells", spec := "planTells", unfollowed := true, recurses := true, named := ["ostinato/frame.widths"], apart := false, laid := [("ostinato/frame.widths", laid_ostinato_frame_widths)] }
def PlanTellsSaid : Prop := planTellsRow.holds Tryd.pinned (OpenSpec.ofChange planTellsSpec)

/-- ITS FALSE NEIGHBOUR: 'it returns false'. Refute it at one input. -/
def planTellsWrong : ChangeSpec := { name := "planTells", fn := fun _ => fun
  | [d1, d2, d3] => { results := [.lit (.bool false)], args := [d1, d2, d3] }
  | _ => none }
def PlanTellsWrongFalsely : Prop := planTellsRow.holds Tryd.pinned (OpenSpec.ofChange planTellsWrong)

/-- 'ostinatolaw15.PlanDue': WHATEVER THE INPUT: true; the input reads as it did. -/
def planDueSpec : ChangeSpec := { name := "planDue", fn := fun _ => fun
  | [d1, d2, d3, d4, d5] => { results := [.lit (.bool true)], args := [d1, d2, d3, d4, d5] }
  | _ => none }
def planDueRow : OpenClaim := { program := "ytlfhneiddfgoaaadoor", sum := "0f33081edb37b74c5a9f8392e7c3f1413a4e5b6fd0545245752fcc4632972624", func := "ostinato/ostinatolaw15.PlanDue", spec := "planDue", unfollowed := true, recurses := true, named := ["ostinato/frame.widths"], apart := false, laid := [("ostinato/frame.widths", laid_ostinato_frame_widths)] }
def PlanDueSaid : Prop := planDueRow.holds Tryd.pinned (OpenSpec.ofChange planDueSpec)

/-- ITS FALSE NEIGHBOUR: 'it returns false'. Refute it at one input. -/
def planDueWrong : ChangeSpec := { name := "planDue", fn := fun _ => fun
  | [d1, d2, d3, d4, d5] => { results := [.lit (.bool false)], args := [d1, d2, d3, d4, d5] }
  | _ => none }
def PlanDueWrongFalsely : Prop := planDueRow.holds Tryd.pinned (OpenSpec.ofChange planDueWrong)

/-- 'ostinatolaw15.PlanShares': WHATEVER THE INPUT: true; the input reads as it did. -/
def planSharesSpec : ChangeSpec := { name := "planShares", fn := fun _ => fun
  | [d] => { results := [.lit (.bool true)], args := [d] }
  | _ => none }
def planSharesRow : OpenClaim := { program := "ytlfhneiddfgoaaadoor", sum := "0f33081edb37b74c5a9f8392e7c3f1413a4e5b6fd0545245752fcc4632972624", func := "ostinato/ostinatolaw15.PlanShares", spec := "planShares", unfollowed := true, recurses := true, named := ["ostinato/frame.widths"], apart := false, laid := [("ostinato/frame.widths", laid_ostinato_frame_widths)] }
def PlanSharesSaid : Prop := planSharesRow.holds Tryd.pinned (OpenSpec.ofChange planSharesSpec)

/-- ITS FALSE NEIGHBOUR: 'it returns false'. Refute it at one input. -/
def planSharesWrong : ChangeSpec := { name := "planShares", fn := fun _ => fun
  | [d] => { results := [.lit (.bool false)], args := [d] }
  | _ => none }
def PlanSharesWrongFalsely : Prop := planSharesRow.holds Tryd.pinned (OpenSpec.ofChange planSharesWrong)

/-- 'ostinatolaw15.PlanOrder': WHATEVER THE INPUT: true; the input reads as it did. -/
def planOrderSpec : ChangeSpec := { name := "planOrder", fn := fun _ => fun
  | [d1, d2, d3] => { results := [.lit (.bool true)], args := [d1, d2, d3] }
  | _ => none }
def planOrderRow : OpenClaim := { program := "ytlfhneiddfgoaaadoor", sum := "0f33081edb37b74c5a9f8392e7c3f1413a4e5b6fd0545245752fcc4632972624", func := "ostinato/ostinatolaw15.PlanOrder", spec := "planOrder", unfollowed := true, recurses := true, named := ["ostinato/frame.widths"], apart := false, laid := [("ostinato/frame.widths", laid_ostinato_frame_widths)] }
def PlanOrderSaid : Prop := planOrderRow.holds Tryd.pinned (OpenSpec.ofChange planOrderSpec)

/-- ITS FALSE NEIGHBOUR: 'it returns false'. Refute it at one input. -/
def planOrderWrong : ChangeSpec := { name := "planOrder", fn := fun _ => fun
  | [d1, d2, d3] => { results := [.lit (.bool false)], args := [d1, d2, d3] }
  | _ => none }
def PlanOrderWrongFalsely : Prop := planOrderRow.holds Tryd.pinned (OpenSpec.ofChange planOrderWrong)

/-- 'ostinatolaw15.PlanCycles': WHATEVER THE INPUT: true; the input reads as it did. -/
def planCyclesSpec : ChangeSpec := { name := "planCycles", fn := fun _ => fun
  | [d1, d2, d3] => { results := [.lit (.bool true)], args := [d1, d2, d3] }
  | _ => none }
def planCyclesRow : OpenClaim := { program := "ytlfhneiddfgoaaadoor", sum := "0f33081edb37b74c5a9f8392e7c3f1413a4e5b6fd0545245752fcc4632972624", func := "ostinato/ostinatolaw15.PlanCycles", spec := "planCycles", unfollowed := true, recurses := true, named := ["ostinato/frame.widths"], apart := false, laid := [("ostinato/frame.widths", laid_ostinato_frame_widths)] }
def PlanCyclesSaid : Prop := planCyclesRow.holds Tryd.pinned (OpenSpec.ofChange planCyclesSpec)

/-- ITS FALSE NEIGHBOUR: 'it returns false'. Refute it at one input. -/
def planCyclesWrong : ChangeSpec := { name := "planCycles", fn := fun _ => fun
  | [d1, d2, d3] => { results := [.lit (.bool false)], args := [d1, d2, d3] }
  | _ => none }
def PlanCyclesWrongFalsely : Prop := planCyclesRow.holds Tryd.pinned (OpenSpec.ofChange planCyclesWrong)

/-- 'ostinatolaw15.PlanEnds': WHATEVER THE INPUT: true; the input reads as it did. -/
def planEndsSpec : ChangeSpec := { name := "planEnds", fn := fun _ => fun
  | [d1, d2] => { results := [.lit (.bool true)], args := [d1, d2] }
  | _ => none }
def planEndsRow : OpenClaim := { program := "ytlfhneiddfgoaaadoor", sum := "0f33081edb37b74c5a9f8392e7c3f1413a4e5b6fd0545245752fcc4632972624", func := "ostinato/ostinatolaw15.PlanEnds", spec := "planEnds", unfollowed := true, recurses := true, named := ["ostinato/frame.widths"], apart := false, laid := [("ostinato/frame.widths", laid_ostinato_frame_widths)] }
def PlanEndsSaid : Prop := planEndsRow.holds Tryd.pinned (OpenSpec.ofChange planEndsSpec)

/-- ITS FALSE NEIGHBOUR: 'it returns false'. Refute it at one input. -/
def planEndsWrong : ChangeSpec := { name := "planEnds", fn := fun _ => fun
  | [d1, d2] => { results := [.lit (.bool false)], args := [d1, d2] }
  | _ => none }
def PlanEndsWrongFalsely : Prop := planEndsRow.holds Tryd.pinned (OpenSpec.ofChange planEndsWrong)

/- THE SECOND FORM. 'bulk': how many values and letters a reading holds, each counted each time it is reached (what is shared counts as often as it is met; a slice's spare places count too). A statement '..UptoSaid' is the law's where the arguments, and the package variables that the reading takes, are together of bulk at most 1048576: NARROWER than '..Said'. Prove '..Said' where nothing that the law and all that it calls make is longer than what came in: it says more and counts as full. Else prove '..UptoSaid'. A law counts once. -/
mutual
def uptoBulk {H : Type} : DataW H → Nat
  | .lit (.string bytes) => bytes.length + 1
  | .lit _ => 1
  | .nil => 1
  | .ptr d => uptoBulk d + 1
  | .slice elems spare => uptoBulkAll elems + uptoBulkAll spare + 1
  | .agg parts => uptoBulkAll parts + 1
  | .iface _ d => uptoBulk d + 1
  | .map entries => uptoBulkEntries entries + 1
  | .held _ => 1
def uptoBulkAll {H : Type} : List (DataW H) → Nat
  | [] => 0
  | d :: r => uptoBulk d + uptoBulkAll r
def uptoBulkEntries {H : Type} : List (Lit × DataW H) → Nat
  | [] => 0
  | x :: r => uptoBulkEntry x + uptoBulkEntries r
def uptoBulkEntry {H : Type} : Lit × DataW H → Nat
  | (.string bytes, d) => bytes.length + uptoBulk d + 1
  | (_, d) => uptoBulk d + 1
 end
def uptoSmall : (H : Type) → List (DataW H) → Bool := fun _ ds => decide (uptoBulkAll ds ≤ 1048576)
def OpenSpec.upto (s : _root_.Go.ChangeSpec) : _root_.Go.OpenSpec := { _root_.Go.OpenSpec.ofChange s with cond := some uptoSmall }

/-- 'ostinatolaw15.PlanTells', WHERE WHAT IT READS IS OF BULK AT MOST 1048576: true; the input reads as it did. -/
def planTellsUptoRow : OpenClaim := { program := "ytlfhneiddfgoaaadoor", sum := "0f33081edb37b74c5a9f8392e7c3f1413a4e5b6fd0545245752fcc4632972624", func := "ostinato/ostinatolaw15.PlanTells", spec := "planTells", unfollowed := true, recurses := true, named := ["ostinato/frame.widths"], apart := false, laid := [("ostinato/frame.widths", laid_ostinato_frame_widths)], narrowed := true }
def PlanTellsUptoSaid : Prop := planTellsUptoRow.holds Tryd.pinned (OpenSpec.upto planTellsSpec)

/-- 'ostinatolaw15.PlanDue', WHERE WHAT IT READS IS OF BULK AT MOST 1048576: true; the input reads as it did. -/
def planDueUptoRow : OpenClaim := { program := "ytlfhneiddfgoaaadoor", sum := "0f33081edb37b74c5a9f8392e7c3f1413a4e5b6fd0545245752fcc4632972624", func := "ostinato/ostinatolaw15.PlanDue", spec := "planDue", unfollowed := true, recurses := true, named := ["ostinato/frame.widths"], apart := false, laid := [("ostinato/frame.widths", laid_ostinato_frame_widths)], narrowed := true }
def PlanDueUptoSaid : Prop := planDueUptoRow.holds Tryd.pinned (OpenSpec.upto planDueSpec)

/-- 'ostinatolaw15.PlanShares', WHERE WHAT IT READS IS OF BULK AT MOST 1048576: true; the input reads as it did. -/
def planSharesUptoRow : OpenClaim := { program := "ytlfhneiddfgoaaadoor", sum := "0f33081edb37b74c5a9f8392e7c3f1413a4e5b6fd0545245752fcc4632972624", func := "ostinato/ostinatolaw15.PlanShares", spec := "planShares", unfollowed := true, recurses := true, named := ["ostinato/frame.widths"], apart := false, laid := [("ostinato/frame.widths", laid_ostinato_frame_widths)], narrowed := true }
def PlanSharesUptoSaid : Prop := planSharesUptoRow.holds Tryd.pinned (OpenSpec.upto planSharesSpec)

/-- 'ostinatolaw15.PlanOrder', WHERE WHAT IT READS IS OF BULK AT MOST 1048576: true; the input reads as it did. -/
def planOrderUptoRow : OpenClaim := { program := "ytlfhneiddfgoaaadoor", sum := "0f33081edb37b74c5a9f8392e7c3f1413a4e5b6fd0545245752fcc4632972624", func := "ostinato/ostinatolaw15.PlanOrder", spec := "planOrder", unfollowed := true, recurses := true, named := ["ostinato/frame.widths"], apart := false, laid := [("ostinato/frame.widths", laid_ostinato_frame_widths)], narrowed := true }
def PlanOrderUptoSaid : Prop := planOrderUptoRow.holds Tryd.pinned (OpenSpec.upto planOrderSpec)

/-- 'ostinatolaw15.PlanCycles', WHERE WHAT IT READS IS OF BULK AT MOST 1048576: true; the input reads as it did. -/
def planCyclesUptoRow : OpenClaim := { program := "ytlfhneiddfgoaaadoor", sum := "0f33081edb37b74c5a9f8392e7c3f1413a4e5b6fd0545245752fcc4632972624", func := "ostinato/ostinatolaw15.PlanCycles", spec := "planCycles", unfollowed := true, recurses := true, named := ["ostinato/frame.widths"], apart := false, laid := [("ostinato/frame.widths", laid_ostinato_frame_widths)], narrowed := true }
def PlanCyclesUptoSaid : Prop := planCyclesUptoRow.holds Tryd.pinned (OpenSpec.upto planCyclesSpec)

/-- 'ostinatolaw15.PlanEnds', WHERE WHAT IT READS IS OF BULK AT MOST 1048576: true; the input reads as it did. -/
def planEndsUptoRow : OpenClaim := { program := "ytlfhneiddfgoaaadoor", sum := "0f33081edb37b74c5a9f8392e7c3f1413a4e5b6fd0545245752fcc4632972624", func := "ostinato/ostinatolaw15.PlanEnds", spec := "planEnds", unfollowed := true, recurses := true, named := ["ostinato/frame.widths"], apart := false, laid := [("ostinato/frame.widths", laid_ostinato_frame_widths)], narrowed := true }
def PlanEndsUptoSaid : Prop := planEndsUptoRow.holds Tryd.pinned (OpenSpec.upto planEndsSpec)

end Rows
end Go.Proofs.YtlfhneiddfgoaaaDoor
