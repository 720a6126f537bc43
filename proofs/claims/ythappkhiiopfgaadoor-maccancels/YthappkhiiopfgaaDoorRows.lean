/-
  NARROWER THAN 'FOR EVERY INPUT', by the rows' own cells (each row's printed sentence says how): MacHears: laid · MacLoses: laid · MacAlone: laid · MacCancels: laid · MacFlags: laid.
  DERIVED. THE GIVEN ROWS OF THIS SEAT. 5 by the template 'for every input the law returns true; each argument reads behind the call as it read before'; 0 by the template 'total and deterministic' (their statements: YthappkhiiopfgaaDoorTotals.lean).
  GIVEN WITH THE SEED: the statements are not yours to turn. If you find one false, say at which input.
  Laid BY PROGRAM, IN A SANDBOX (cutbox-rows.mjs): the forced cells as the released guide's own fill.sh prints them over the translation d18a7f3f8dfd2149… (all of the seat's roots in one cut). By AI agents, Wed Nov 11 2026. No macro, syntax, notation, axiom, sorry.
-/
import Derived.Test.YthappkhiiopfgaaDoorChecked
import GoSem.Claim
import GoSem.ClaimJoined
import GoSem.ClaimMapViews
import Derived.JoinedTies
import Derived.KernelRfl
namespace Go.Proofs.YthappkhiiopfgaaDoor
/- THE CELL 'sum', in the pinned program and in every row, IS THE sha256 OF THE DUMP (.gsa) THAT YthappkhiiopfgaaDoorProg.lean LOADS. Nothing in Lean hashes anything: it is a label: what it is worth is what the hold of that sum in a sandbox is worth. -/
noncomputable def Tryd.pinned : Pinned := { name := "ythappkhiiopfgaadoor", sum := "d18a7f3f8dfd2149236986dd42667ee65492c5a20badf3919503068c63ccf4b4", checked := Tryd.checked }
namespace Rows
def none {H : Type} : Left H := { results := [], args := [] }

/- WHAT THE LISTED PACKAGE-LEVEL VARIABLES READ AS WHEN THE CALL BEGINS. Each datum BY PROGRAM (the guide's laid-datum.mjs) off the statement by which the dump's own 'gosem.cut.vars' lays the variable. In a bare row this is a premise. The card (YthappkhiiopfgaaDoorCards.lean) ties it to the program's text. -/
def laid_ostinato_frame_widths {H : Type} : DataW H := .agg [.agg [.lit (.int .i64 1), .lit (.int .i64 1)], .agg [.lit (.int .i64 11), .lit (.int .i64 11)], .agg [.lit (.int .i64 1), .lit (.int .i64 1)], .agg [.lit (.int .i64 1), .lit (.int .i64 1)], .agg [.lit (.int .i64 0), .lit (.int .i64 18)], .agg [.lit (.int .i64 0), .lit (.int .i64 1)], .agg [.lit (.int .i64 1), .lit (.int .i64 2)], .agg [.lit (.int .i64 4), .lit (.int .i64 4)]]

/-- 'ostinatolaw7.MacHears': WHATEVER THE INPUT: true; the input reads as it did. -/
def macHearsSpec : ChangeSpec := { name := "macHears", fn := fun _ => fun
  | [d1, d2] => { results := [.lit (.bool true)], args := [d1, d2] }
  | _ => none }
def macHearsRow : OpenClaim := { program := "ythappkhiiopfgaadoor", sum := "d18a7f3f8dfd2149236986dd42667ee65492c5a20badf3919503068c63ccf4b4", func := "ostinato/ostinatolaw7.MacHears", spec := "macHears", named := ["ostinato/frame.widths"], apart := false, laid := [("ostinato/frame.widths", laid_ostinato_frame_widths)] }
def MacHearsSaid : Prop := macHearsRow.holds Tryd.pinned (OpenSpec.ofChange macHearsSpec)

/-- ITS FALSE NEIGHBOUR: 'it returns false'. Refute it at one input. -/
def macHearsWrong : ChangeSpec := { name := "macHears", fn := fun _ => fun
  | [d1, d2] => { results := [.lit (.bool false)], args := [d1, d2] }
  | _ => none }
def MacHearsWrongFalsely : Prop := macHearsRow.holds Tryd.pinned (OpenSpec.ofChange macHearsWrong)

/-- 'ostinatolaw7.MacLoses': WHATEVER THE INPUT: true; the input reads as it did. -/
def macLosesSpec : ChangeSpec := { name := "macLoses", fn := fun _ => fun
  | [d1, d2] => { results := [.lit (.bool true)], args := [d1, d2] }
  | _ => none }
def macLosesRow : OpenClaim := { program := "ythappkhiiopfgaadoor", sum := "d18a7f3f8dfd2149236986dd42667ee65492c5a20badf3919503068c63ccf4b4", func := "ostinato/ostinatolaw7.MacLoses", spec := "macLoses", named := ["ostinato/frame.widths"], apart := false, laid := [("ostinato/frame.widths", laid_ostinato_frame_widths)] }
def MacLosesSaid : Prop := macLosesRow.holds Tryd.pinned (OpenSpec.ofChange macLosesSpec)

/-- ITS FALSE NEIGHBOUR: 'it returns false'. Refute it at one input. -/
def macLosesWrong : ChangeSpec := { name := "macLoses", fn := fun _ => fun
  | [d1, d2] => { results := [.lit (.bool false)], args := [d1, d2] }
  | _ => none }
def MacLosesWrongFalsely : Prop := macLosesRow.holds Tryd.pinned (OpenSpec.ofChange macLosesWrong)

/-- 'ostinatolaw7.MacAlone': WHATEVER THE INPUT: true; the input reads as it did. -/
def macAloneSpec : ChangeSpec := { name := "macAlone", fn := fun _ => fun
  | [d] => { results := [.lit (.bool true)], args := [d] }
  | _ => none }
def macAloneRow : OpenClaim := { program := "ythappkhiiopfgaadoor", sum := "d18a7f3f8dfd2149236986dd42667ee65492c5a20badf3919503068c63ccf4b4", func := "ostinato/ostinatolaw7.MacAlone", spec := "macAlone", named := ["ostinato/frame.widths"], apart := false, laid := [("ostinato/frame.widths", laid_ostinato_frame_widths)] }
def MacAloneSaid : Prop := macAloneRow.holds Tryd.pinned (OpenSpec.ofChange macAloneSpec)

/-- ITS FALSE NEIGHBOUR: 'it returns false'. Refute it at one input. -/
def macAloneWrong : ChangeSpec := { name := "macAlone", fn := fun _ => fun
  | [d] => { results := [.lit (.bool false)], args := [d] }
  | _ => none }
def MacAloneWrongFalsely : Prop := macAloneRow.holds Tryd.pinned (OpenSpec.ofChange macAloneWrong)

/-- 'ostinatolaw7.MacCancels': WHATEVER THE INPUT: true; the input reads as it did. -/
def macCancelsSpec : ChangeSpec := { name := "macCancels", fn := fun _ => fun
  | [d1, d2] => { results := [.lit (.bool true)], args := [d1, d2] }
  | _ => none }
def macCancelsRow : OpenClaim := { program := "ythappkhiiopfgaadoor", sum := "d18a7f3f8dfd2149236986dd42667ee65492c5a20badf3919503068c63ccf4b4", func := "ostinato/ostinatolaw7.MacCancels", spec := "macCancels", named := ["ostinato/frame.widths"], apart := false, laid := [("ostinato/frame.widths", laid_ostinato_frame_widths)] }
def MacCancelsSaid : Prop := macCancelsRow.holds Tryd.pinned (OpenSpec.ofChange macCancelsSpec)

/-- ITS FALSE NEIGHBOUR: 'it returns false'. Refute it at one input. -/
def macCancelsWrong : ChangeSpec := { name := "macCancels", fn := fun _ => fun
  | [d1, d2] => { results := [.lit (.bool false)], args := [d1, d2] }
  | _ => none }
def MacCancelsWrongFalsely : Prop := macCancelsRow.holds Tryd.pinned (OpenSpec.ofChange macCancelsWrong)

/-- 'ostinatolaw7.MacFlags': WHATEVER THE INPUT: true; the input reads as it did. -/
def macFlagsSpec : ChangeSpec := { name := "macFlags", fn := fun _ => fun
  | [d] => { results := [.lit (.bool true)], args := [d] }
  | _ => none }
def macFlagsRow : OpenClaim := { program := "ythappkhiiopfgaadoor", sum := "d18a7f3f8dfd2149236986dd42667ee65492c5a20badf3919503068c63ccf4b4", func := "ostinato/ostinatolaw7.MacFlags", spec := "macFlags", named := ["ostinato/frame.widths"], apart := false, laid := [("ostinato/frame.widths", laid_ostinato_frame_widths)] }
def MacFlagsSaid : Prop := macFlagsRow.holds Tryd.pinned (OpenSpec.ofChange macFlagsSpec)

/-- ITS FALSE NEIGHBOUR: 'it returns false'. Refute it at one input. -/
def macFlagsWrong : ChangeSpec := { name := "macFlags", fn := fun _ => fun
  | [d] => { results := [.lit (.bool false)], args := [d] }
  | _ => none }
def MacFlagsWrongFalsely : Prop := macFlagsRow.holds Tryd.pinned (OpenSpec.ofChange macFlagsWrong)

/- THE SECOND FORM. 'bulk': how many values and letters a reading holds, each counted each time it is reached (what is shared counts as often as it is met; a slice's spare places count too). A statement '..UptoSaid' is the law's where the arguments, and the package variables that the reading takes, are together of bulk at most 1048576: NARROWER than '..Said'. Prove '..Said' where nothing that the law and all that it calls make is longer than what came in: it says more and counts as full. Else prove '..UptoSaid'. A law counts once. -/
mutual
def uptoBulk {H : Type} : DataW H → Nat
  | .lit (.string bytes) => bytes.length + 1
  | .lit _ => 1
  | .nil => 1
  | .ptr d => uptoBulk d + 1
  | .slice elems spare => uptoBulkAll elems + uptoBulkAll spare + 1
  | .agg parts => uptoBulkAll parts + 1
  | .iface _ d => uptoBulk d + 1
  | .map entries => uptoBulkEntries entries + 1
  | .held _ => 1
def uptoBulkAll {H : Type} : List (DataW H) → Nat
  | [] => 0
  | d :: r => uptoBulk d + uptoBulkAll r
def uptoBulkEntries {H : Type} : List (Lit × DataW H) → Nat
  | [] => 0
  | x :: r => uptoBulkEntry x + uptoBulkEntries r
def uptoBulkEntry {H : Type} : Lit × DataW H → Nat
  | (.string bytes, d) => bytes.length + uptoBulk d + 1
  | (_, d) => uptoBulk d + 1
 end
def uptoSmall : (H : Type) → List (DataW H) → Bool := fun _ ds => decide (uptoBulkAll ds ≤ 1048576)
def OpenSpec.upto (s : _root_.Go.ChangeSpec) : _root_.Go.OpenSpec := { _root_.Go.OpenSpec.ofChange s with cond := some uptoSmall }

/-- 'ostinatolaw7.MacHears', WHERE WHAT IT READS IS OF BULK AT MOST 1048576: true; the input reads as it did. -/
def macHearsUptoRow : OpenClaim := { program := "ythappkhiiopfgaadoor", sum := "d18a7f3f8dfd2149236986dd42667ee65492c5a20badf3919503068c63ccf4b4", func := "ostinato/ostinatolaw7.MacHears", spec := "macHears", named := ["ostinato/frame.widths"], apart := false, laid := [("ostinato/frame.widths", laid_ostinato_frame_widths)], narrowed := true }
def MacHearsUptoSaid : Prop := macHearsUptoRow.holds Tryd.pinned (OpenSpec.upto macHearsSpec)

/-- 'ostinatolaw7.MacLoses', WHERE WHAT IT READS IS OF BULK AT MOST 1048576: true; the input reads as it did. -/
def macLosesUptoRow : OpenClaim := { program := "ythappkhiiopfgaadoor", sum := "d18a7f3f8dfd2149236986dd42667ee65492c5a20badf3919503068c63ccf4b4", func := "ostinato/ostinatolaw7.MacLoses", spec := "macLoses", named := ["ostinato/frame.widths"], apart := false, laid := [("ostinato/frame.widths", laid_ostinato_frame_widths)], narrowed := true }
def MacLosesUptoSaid : Prop := macLosesUptoRow.holds Tryd.pinned (OpenSpec.upto macLosesSpec)

/-- 'ostinatolaw7.MacAlone', WHERE WHAT IT READS IS OF BULK AT MOST 1048576: true; the input reads as it did. -/
def macAloneUptoRow : OpenClaim := { program := "ythappkhiiopfgaadoor", sum := "d18a7f3f8dfd2149236986dd42667ee65492c5a20badf3919503068c63ccf4b4", func := "ostinato/ostinatolaw7.MacAlone", spec := "macAlone", named := ["ostinato/frame.widths"], apart := false, laid := [("ostinato/frame.widths", laid_ostinato_frame_widths)], narrowed := true }
def MacAloneUptoSaid : Prop := macAloneUptoRow.holds Tryd.pinned (OpenSpec.upto macAloneSpec)

/-- 'ostinatolaw7.MacCancels', WHERE WHAT IT READS IS OF BULK AT MOST 1048576: true; the input reads as it did. -/
def macCancelsUptoRow : OpenClaim := { program := "ythappkhiiopfgaadoor", sum := "d18a7f3f8dfd2149236986dd42667ee65492c5a20badf3919503068c63ccf4b4", func := "ostinato/ostinatolaw7.MacCancels", spec := "macCancels", named := ["ostinato/frame.widths"], apart := false, laid := [("ostinato/frame.widths", laid_ostinato_frame_widths)], narrowed := true }
def MacCancelsUptoSaid : Prop := macCancelsUptoRow.holds Tryd.pinned (OpenSpec.upto macCancelsSpec)

/-- 'ostinatolaw7.MacFlags', WHERE WHAT IT READS IS OF BULK AT MOST 1048576: true; the input reads as it did. -/
def macFlagsUptoRow : OpenClaim := { program := "ythappkhiiopfgaadoor", sum := "d18a7f3f8dfd2149236986dd42667ee65492c5a20badf3919503068c63ccf4b4", func := "ostinato/ostinatolaw7.MacFlags", spec := "macFlags", named := ["ostinato/frame.widths"], apart := false, laid := [("ostinato/frame.widths", laid_ostinato_frame_widths)], narrowed := true }
def MacFlagsUptoSaid : Prop := macFlagsUptoRow.holds Tryd.pinned (OpenSpec.upto macFlagsSpec)

end Rows
end Go.Proofs.YthappkhiiopfgaaDoor
