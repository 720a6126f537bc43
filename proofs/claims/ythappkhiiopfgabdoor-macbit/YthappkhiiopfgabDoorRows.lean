/-
  NARROWER THAN 'FOR EVERY INPUT', by the rows' own cells (each row's printed sentence says how): MacPassive: laid · MacBit: laid · MacWaits: laid · MacSums: laid.
  DERIVED. THE GIVEN ROWS OF THIS SEAT. 4 by the template 'for every input the law returns true; each argument reads behind the call as it read before'; 0 by the template 'total and deterministic' (their statements: YthappkhiiopfgabDoorTotals.lean).
  GIVEN WITH THE SEED: the statements are not yours to turn. If you find one false, say at which input.
  Laid BY PROGRAM, IN A SANDBOX (cutbox-rows.mjs): the forced cells as the released guide's own fill.sh prints them over the translation 7b7efb52a0b08b59… (all of the seat's roots in one cut). By AI agents, Wed Nov 11 2026. No macro, syntax, notation, axiom, sorry.
-/
import Derived.Test.YthappkhiiopfgabDoorChecked
import GoSem.Claim
import GoSem.ClaimJoined
import GoSem.ClaimMapViews
import Derived.JoinedTies
import Derived.KernelRfl
namespace Go.Proofs.YthappkhiiopfgabDoor
/- THE CELL 'sum', in the pinned program and in every row, IS THE sha256 OF THE DUMP (.gsa) THAT YthappkhiiopfgabDoorProg.lean LOADS. Nothing in Lean hashes anything: it is a label: what it is worth is what the hold of that sum in a sandbox is worth. -/
noncomputable def Tryd.pinned : Pinned := { name := "ythappkhiiopfgabdoor", sum := "7b7efb52a0b08b59bdc5a67cb8d16216134bf8c96ac2a837f15729dbb4e02343", checked := Tryd.checked }
namespace Rows
def none {H : Type} : Left H := { results := [], args := [] }

/- WHAT THE LISTED PACKAGE-LEVEL VARIABLES READ AS WHEN THE CALL BEGINS. Each datum BY PROGRAM (the guide's laid-datum.mjs) off the statement by which the dump's own 'gosem.cut.vars' lays the variable. In a bare row this is a premise. The card (YthappkhiiopfgabDoorCards.lean) ties it to the program's text. -/
def laid_ostinato_frame_widths {H : Type} : DataW H := .agg [.agg [.lit (.int .i64 1), .lit (.int .i64 1)], .agg [.lit (.int .i64 11), .lit (.int .i64 11)], .agg [.lit (.int .i64 1), .lit (.int .i64 1)], .agg [.lit (.int .i64 1), .lit (.int .i64 1)], .agg [.lit (.int .i64 0), .lit (.int .i64 18)], .agg [.lit (.int .i64 0), .lit (.int .i64 1)], .agg [.lit (.int .i64 1), .lit (.int .i64 2)], .agg [.lit (.int .i64 4), .lit (.int .i64 4)]]

/-- 'ostinatolaw7.MacPassive': WHATEVER THE INPUT: true; the input reads as it did. -/
def macPassiveSpec : ChangeSpec := { name := "macPassive", fn := fun _ => fun
  | [d] => { results := [.lit (.bool true)], args := [d] }
  | _ => none }
def macPassiveRow : OpenClaim := { program := "ythappkhiiopfgabdoor", sum := "7b7efb52a0b08b59bdc5a67cb8d16216134bf8c96ac2a837f15729dbb4e02343", func := "ostinato/ostinatolaw7.MacPassive", spec := "macPassive", named := ["ostinato/frame.widths"], apart := false, laid := [("ostinato/frame.widths", laid_ostinato_frame_widths)] }
def MacPassiveSaid : Prop := macPassiveRow.holds Tryd.pinned (OpenSpec.ofChange macPassiveSpec)

/-- ITS FALSE NEIGHBOUR: 'it returns false'. Refute it at one input. -/
def macPassiveWrong : ChangeSpec := { name := "macPassive", fn := fun _ => fun
  | [d] => { results := [.lit (.bool false)], args := [d] }
  | _ => none }
def MacPassiveWrongFalsely : Prop := macPassiveRow.holds Tryd.pinned (OpenSpec.ofChange macPassiveWrong)

/-- 'ostinatolaw7.MacBit': WHATEVER THE INPUT: true; the input reads as it did. -/
def macBitSpec : ChangeSpec := { name := "macBit", fn := fun _ => fun
  | [d1, d2] => { results := [.lit (.bool true)], args := [d1, d2] }
  | _ => none }
def macBitRow : OpenClaim := { program := "ythappkhiiopfgabdoor", sum := "7b7efb52a0b08b59bdc5a67cb8d16216134bf8c96ac2a837f15729dbb4e02343", func := "ostinato/ostinatolaw7.MacBit", spec := "macBit", named := ["ostinato/frame.widths"], apart := false, laid := [("ostinato/frame.widths", laid_ostinato_frame_widths)] }
def MacBitSaid : Prop := macBitRow.holds Tryd.pinned (OpenSpec.ofChange macBitSpec)

/-- ITS FALSE NEIGHBOUR: 'it returns false'. Refute it at one input. -/
def macBitWrong : ChangeSpec := { name := "macBit", fn := fun _ => fun
  | [d1, d2] => { results := [.lit (.bool false)], args := [d1, d2] }
  | _ => none }
def MacBitWrongFalsely : Prop := macBitRow.holds Tryd.pinned (OpenSpec.ofChange macBitWrong)

/-- 'ostinatolaw7.MacWaits': WHATEVER THE INPUT: true; the input reads as it did. -/
def macWaitsSpec : ChangeSpec := { name := "macWaits", fn := fun _ => fun
  | [d1, d2, d3] => { results := [.lit (.bool true)], args := [d1, d2, d3] }
  | _ => none }
def macWaitsRow : OpenClaim := { program := "ythappkhiiopfgabdoor", sum := "7b7efb52a0b08b59bdc5a67cb8d16216134bf8c96ac2a837f15729dbb4e02343", func := "ostinato/ostinatolaw7.MacWaits", spec := "macWaits", named := ["ostinato/frame.widths"], apart := false, laid := [("ostinato/frame.widths", laid_ostinato_frame_widths)] }
def MacWaitsSaid : Prop := macWaitsRow.holds Tryd.pinned (OpenSpec.ofChange macWaitsSpec)

/-- ITS FALSE NEIGHBOUR: 'it returns false'. Refute it at one input. -/
def macWaitsWrong : ChangeSpec := { name := "macWaits", fn := fun _ => fun
  | [d1, d2, d3] => { results := [.lit (.bool false)], args := [d1, d2, d3] }
  | _ => none }
def MacWaitsWrongFalsely : Prop := macWaitsRow.holds Tryd.pinned (OpenSpec.ofChange macWaitsWrong)

/-- 'ostinatolaw7.MacSums': WHATEVER THE INPUT: true; the input reads as it did. -/
def macSumsSpec : ChangeSpec := { name := "macSums", fn := fun _ => fun
  | [d1, d2] => { results := [.lit (.bool true)], args := [d1, d2] }
  | _ => none }
def macSumsRow : OpenClaim := { program := "ythappkhiiopfgabdoor", sum := "7b7efb52a0b08b59bdc5a67cb8d16216134bf8c96ac2a837f15729dbb4e02343", func := "ostinato/ostinatolaw7.MacSums", spec := "macSums", named := ["ostinato/frame.widths"], apart := false, laid := [("ostinato/frame.widths", laid_ostinato_frame_widths)] }
def MacSumsSaid : Prop := macSumsRow.holds Tryd.pinned (OpenSpec.ofChange macSumsSpec)

/-- ITS FALSE NEIGHBOUR: 'it returns false'. Refute it at one input. -/
def macSumsWrong : ChangeSpec := { name := "macSums", fn := fun _ => fun
  | [d1, d2] => { results := [.lit (.bool false)], args := [d1, d2] }
  | _ => none }
def MacSumsWrongFalsely : Prop := macSumsRow.holds Tryd.pinned (OpenSpec.ofChange macSumsWrong)

/- THE SECOND FORM. 'bulk': how many values and letters a reading holds, each counted each time it is reached (what is shared counts as often as it is met; a slice's spare places count too). A statement '..UptoSaid' is the law's where the arguments, and the package variables that the reading takes, are together of bulk at most 1048576: NARROWER than '..Said'. Prove '..Said' where nothing that the law and all that it calls make is longer than what came in: it says more and counts as full. Else prove '..UptoSaid'. A law counts once. -/
mutual
def uptoBulk {H : Type} : DataW H → Nat
  | .lit (.string bytes) => bytes.length + 1
  | .lit _ => 1
  | .nil => 1
  | .ptr d => uptoBulk d + 1
  | .slice elems spare => uptoBulkAll elems + uptoBulkAll spare + 1
  | .agg parts => uptoBulkAll parts + 1
  | .iface _ d => uptoBulk d + 1
  | .map entries => uptoBulkEntries entries + 1
  | .held _ => 1
def uptoBulkAll {H : Type} : List (DataW H) → Nat
  | [] => 0
  | d :: r => uptoBulk d + uptoBulkAll r
def uptoBulkEntries {H : Type} : List (Lit × DataW H) → Nat
  | [] => 0
  | x :: r => uptoBulkEntry x + uptoBulkEntries r
def uptoBulkEntry {H : Type} : Lit × DataW H → Nat
  | (.string bytes, d) => bytes.length + uptoBulk d + 1
  | (_, d) => uptoBulk d + 1
 end
def uptoSmall : (H : Type) → List (DataW H) → Bool := fun _ ds => decide (uptoBulkAll ds ≤ 1048576)
def OpenSpec.upto (s : _root_.Go.ChangeSpec) : _root_.Go.OpenSpec := { _root_.Go.OpenSpec.ofChange s with cond := some uptoSmall }

/-- 'ostinatolaw7.MacPassive', WHERE WHAT IT READS IS OF BULK AT MOST 1048576: true; the input reads as it did. -/
def macPassiveUptoRow : OpenClaim := { program := "ythappkhiiopfgabdoor", sum := "7b7efb52a0b08b59bdc5a67cb8d16216134bf8c96ac2a837f15729dbb4e02343", func := "ostinato/ostinatolaw7.MacPassive", spec := "macPassive", named := ["ostinato/frame.widths"], apart := false, laid := [("ostinato/frame.widths", laid_ostinato_frame_widths)], narrowed := true }
def MacPassiveUptoSaid : Prop := macPassiveUptoRow.holds Tryd.pinned (OpenSpec.upto macPassiveSpec)

/-- 'ostinatolaw7.MacBit', WHERE WHAT IT READS IS OF BULK AT MOST 1048576: true; the input reads as it did. -/
def macBitUptoRow : OpenClaim := { program := "ythappkhiiopfgabdoor", sum := "7b7efb52a0b08b59bdc5a67cb8d16216134bf8c96ac2a837f15729dbb4e02343", func := "ostinato/ostinatolaw7.MacBit", spec := "macBit", named := ["ostinato/frame.widths"], apart := false, laid := [("ostinato/frame.widths", laid_ostinato_frame_widths)], narrowed := true }
def MacBitUptoSaid : Prop := macBitUptoRow.holds Tryd.pinned (OpenSpec.upto macBitSpec)

/-- 'ostinatolaw7.MacWaits', WHERE WHAT IT READS IS OF BULK AT MOST 1048576: true; the input reads as it did. -/
def macWaitsUptoRow : OpenClaim := { program := "ythappkhiiopfgabdoor", sum := "7b7efb52a0b08b59bdc5a67cb8d16216134bf8c96ac2a837f15729dbb4e02343", func := "ostinato/ostinatolaw7.MacWaits", spec := "macWaits", named := ["ostinato/frame.widths"], apart := false, laid := [("ostinato/frame.widths", laid_ostinato_frame_widths)], narrowed := true }
def MacWaitsUptoSaid : Prop := macWaitsUptoRow.holds Tryd.pinned (OpenSpec.upto macWaitsSpec)

/-- 'ostinatolaw7.MacSums', WHERE WHAT IT READS IS OF BULK AT MOST 1048576: true; the input reads as it did. -/
def macSumsUptoRow : OpenClaim := { program := "ythappkhiiopfgabdoor", sum := "7b7efb52a0b08b59bdc5a67cb8d16216134bf8c96ac2a837f15729dbb4e02343", func := "ostinato/ostinatolaw7.MacSums", spec := "macSums", named := ["ostinato/frame.widths"], apart := false, laid := [("ostinato/frame.widths", laid_ostinato_frame_widths)], narrowed := true }
def MacSumsUptoSaid : Prop := macSumsUptoRow.holds Tryd.pinned (OpenSpec.upto macSumsSpec)

end Rows
end Go.Proofs.YthappkhiiopfgabDoor
