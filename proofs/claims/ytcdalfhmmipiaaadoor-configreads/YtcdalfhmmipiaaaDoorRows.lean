/-
  NARROWER THAN 'FOR EVERY INPUT', by the rows' own cells (each row's printed sentence says how): ConfigTells: laid · ConfigReads: laid · ConfigCuts: laid · ConfigSizes: laid · ConfigApart: laid · ConfigFields: laid.
  DERIVED. THE GIVEN ROWS OF THIS SEAT. 6 by the template 'for every input the law returns true; each argument reads behind the call as it read before'; 0 by the template 'total and deterministic' (their statements: YtcdalfhmmipiaaaDoorTotals.lean).
  GIVEN WITH THE SEED: the statements are not yours to turn. If you find one false, say at which input.
  Laid BY PROGRAM, IN A SANDBOX (cutbox-rows.mjs): the forced cells as the released guide's own fill.sh prints them over the translation 674823134f7e19e7… (all of the seat's roots in one cut). By AI agents, Wed Nov 11 2026. No macro, syntax, notation, axiom, sorry.
-/
import Derived.Test.YtcdalfhmmipiaaaDoorChecked
import GoSem.Claim
import GoSem.ClaimJoined
import GoSem.ClaimMapViews
import Derived.JoinedTies
import Derived.KernelRfl
namespace Go.Proofs.YtcdalfhmmipiaaaDoor
/- THE CELL 'sum', in the pinned program and in every row, IS THE sha256 OF THE DUMP (.gsa) THAT YtcdalfhmmipiaaaDoorProg.lean LOADS. Nothing in Lean hashes anything: it is a label: what it is worth is what the hold of that sum in a sandbox is worth. -/
noncomputable def Tryd.pinned : Pinned := { name := "ytcdalfhmmipiaaadoor", sum := "674823134f7e19e728edff153028aa8fb422991211f74c893b9ea50d9787794b", checked := Tryd.checked }
namespace Rows
def none {H : Type} : Left H := { results := [], args := [] }

/- WHAT THE LISTED PACKAGE-LEVEL VARIABLES READ AS WHEN THE CALL BEGINS. Each datum BY PROGRAM (the guide's laid-datum.mjs) off the statement by which the dump's own 'gosem.cut.vars' lays the variable. In a bare row this is a premise. The card (YtcdalfhmmipiaaaDoorCards.lean) ties it to the program's text. -/
def laid_ostinato_frame_widths {H : Type} : DataW H := .agg [.agg [.lit (.int .i64 1), .lit (.int .i64 1)], .agg [.lit (.int .i64 11), .lit (.int .i64 11)], .agg [.lit (.int .i64 1), .lit (.int .i64 1)], .agg [.lit (.int .i64 1), .lit (.int .i64 1)], .agg [.lit (.int .i64 0), .lit (.int .i64 18)], .agg [.lit (.int .i64 0), .lit (.int .i64 1)], .agg [.lit (.int .i64 1), .lit (.int .i64 2)], .agg [.lit (.int .i64 4), .lit (.int .i64 4)]]

/-- 'ostinatolaw13.ConfigTells': WHATEVER THE INPUT: true; the input reads as it did. -/
def configTellsSpec : ChangeSpec := { name := "configTells", fn := fun _ => fun
  | [d] => { results := [.lit (.bool true)], args := [d] }
  | _ => none }
def configTellsRow : OpenClaim := { program := "ytcdalfhmmipiaaadoor", sum := "674823134f7e19e728edff153028aa8fb422991211f74c893b9ea50d9787794b", func := "ostinato/ostinatolaw13.ConfigTells", spec := "configTells", unfollowed := true, recurses := true, named := ["ostinato/frame.widths"], apart := false, laid := [("ostinato/frame.widths", laid_ostinato_frame_widths)] }
def ConfigTellsSaid : Prop := configTellsRow.holds Tryd.pinned (OpenSpec.ofChange configTellsSpec)

/-- ITS FALSE NEIGHBOUR: 'it returns false'. Refute it at one input. -/
def configTellsWrong : ChangeSpec := { name := "configTells", fn := fun _ => fun
  | [d] => { results := [.lit (.bool false)], args := [d] }
  | _ => none }
def ConfigTellsWrongFalsely : Prop := configTellsRow.holds Tryd.pinned (OpenSpec.ofChange configTellsWrong)

/-- 'ostinatolaw13.ConfigReads': WHATEVER THE INPUT: true; the input reads as it did. -/
def configReadsSpec : ChangeSpec := { name := "configReads", fn := fun _ => fun
  | [d] => { results := [.lit (.bool true)], args := [d] }
  | _ => none }
def configReadsRow : OpenClaim := { program := "ytcdalfhmmipiaaadoor", sum := "674823134f7e19e728edff153028aa8fb422991211f74c893b9ea50d9787794b", func := "ostinato/ostinatolaw13.ConfigReads", spec := "configReads", unfollowed := true, recurses := true, named := ["ostinato/frame.widths"], apart := false, laid := [("ostinato/frame.widths", laid_ostinato_frame_widths)] }
def ConfigReadsSaid : Prop := configReadsRow.holds Tryd.pinned (OpenSpec.ofChange configReadsSpec)

/-- ITS FALSE NEIGHBOUR: 'it returns false'. Refute it at one input. -/
def configReadsWrong : ChangeSpec := { name := "configReads", fn := fun _ => fun
  | [d] => { results := [.lit (.bool false)], args := [d] }
  | _ => none }
def ConfigReadsWrongFalsely : Prop := configReadsRow.holds Tryd.pinned (OpenSpec.ofChange configReadsWrong)

/-- 'ostinatolaw13.ConfigCuts': WHATEVER THE INPUT: true; the input reads as it did. -/
def configCutsSpec : ChangeSpec := { name := "configCuts", fn := fun _ => fun
  | [d1, d2, d3] => { results := [.lit (.bool true)], args := [d1, d2, d3] }
  | _ => none }
def configCutsRow : OpenClaim := { program := "ytcdalfhmmipiaaadoor", sum := "674823134f7e19e728edff153028aa8fb422991211f74c893b9ea50d9787794b", func := "ostinato/ostinatolaw13.ConfigCuts", spec := "configCuts", unfollowed := true, recurses := true, named := ["ostinato/frame.widths"], apart := false, laid := [("ostinato/frame.widths", laid_ostinato_frame_widths)] }
def ConfigCutsSaid : Prop := configCutsRow.holds Tryd.pinned (OpenSpec.ofChange configCutsSpec)

/-- ITS FALSE NEIGHBOUR: 'it returns false'. Refute it at one input. -/
def configCutsWrong : ChangeSpec := { name := "configCuts", fn := fun _ => fun
  | [d1, d2, d3] => { results := [.lit (.bool false)], args := [d1, d2, d3] }
  | _ => none }
def ConfigCutsWrongFalsely : Prop := configCutsRow.holds Tryd.pinned (OpenSpec.ofChange configCutsWrong)

/-- 'ostinatolaw13.ConfigSizes': WHATEVER THE INPUT: true; the input reads as it did. -/
def configSizesSpec : ChangeSpec := { name := "configSizes", fn := fun _ => fun
  | [d] => { results := [.lit (.bool true)], args := [d] }
  | _ => none }
def configSizesRow : OpenClaim := { program := "ytcdalfhmmipiaaadoor", sum := "674823134f7e19e728edff153028aa8fb422991211f74c893b9ea50d9787794b", func := "ostinato/ostinatolaw13.ConfigSizes", spec := "configSizes", unfollowed := true, recurses := true, named := ["ostinato/frame.widths"], apart := false, laid := [("ostinato/frame.widths", laid_ostinato_frame_widths)] }
def ConfigSizesSaid : Prop := configSizesRow.holds Tryd.pinned (OpenSpec.ofChange configSizesSpec)

/-- ITS FALSE NEIGHBOUR: 'it returns false'. Refute it at one input. -/
def configSizesWrong : ChangeSpec := { name := "configSizes", fn := fun _ => fun
  | [d] => { results := [.lit (.bool false)], args := [d] }
  | _ => none }
def ConfigSizesWrongFalsely : Prop := configSizesRow.holds Tryd.pinned (OpenSpec.ofChange configSizesWrong)

/-- 'ostinatolaw13.ConfigApart': WHATEVER THE INPUT: true; the input reads as it did. -/
def configApartSpec : ChangeSpec := { name := "configApart", fn := fun _ => fun
  | [d1, d2] => { results := [.lit (.bool true)], args := [d1, d2] }
  | _ => none }
def configApartRow : OpenClaim := { program := "ytcdalfhmmipiaaadoor", sum := "674823134f7e19e728edff153028aa8fb422991211f74c893b9ea50d9787794b", func := "ostinato/ostinatolaw13.ConfigApart", spec := "configApart", unfollowed := true, recurses := true, named := ["ostinato/frame.widths"], apart := false, laid := [("ostinato/frame.widths", laid_ostinato_frame_widths)] }
def ConfigApartSaid : Prop := configApartRow.holds Tryd.pinned (OpenSpec.ofChange configApartSpec)

/-- ITS FALSE NEIGHBOUR: 'it returns false'. Refute it at one input. -/
def configApartWrong : ChangeSpec := { name := "configApart", fn := fun _ => fun
  | [d1, d2] => { results := [.lit (.bool false)], args := [d1, d2] }
  | _ => none }
def ConfigApartWrongFalsely : Prop := configApartRow.holds Tryd.pinned (OpenSpec.ofChange configApartWrong)

/-- 'ostinatolaw13.ConfigFields': WHATEVER THE INPUT: true; the input reads as it did. -/
def configFieldsSpec : ChangeSpec := { name := "configFields", fn := fun _ => fun
  | [d1, d2, d3, d4, d5, d6] => { results := [.lit (.bool true)], args := [d1, d2, d3, d4, d5, d6] }
  | _ => none }
def configFieldsRow : OpenClaim := { program := "ytcdalfhmmipiaaadoor", sum := "674823134f7e19e728edff153028aa8fb422991211f74c893b9ea50d9787794b", func := "ostinato/ostinatolaw13.ConfigFields", spec := "configFields", unfollowed := true, recurses := true, named := ["ostinato/frame.widths"], apart := false, laid := [("ostinato/frame.widths", laid_ostinato_frame_widths)] }
def ConfigFieldsSaid : Prop := configFieldsRow.holds Tryd.pinned (OpenSpec.ofChange configFieldsSpec)

/-- ITS FALSE NEIGHBOUR: 'it returns false'. Refute it at one input. -/
def configFieldsWrong : ChangeSpec := { name := "configFields", fn := fun _ => fun
  | [d1, d2, d3, d4, d5, d6] => { results := [.lit (.bool false)], args := [d1, d2, d3, d4, d5, d6] }
  | _ => none }
def ConfigFieldsWrongFalsely : Prop := configFieldsRow.holds Tryd.pinned (OpenSpec.ofChange configFieldsWrong)

/- THE SECOND FORM. 'bulk': how many values and letters a reading holds, each counted each time it is reached (what is shared counts as often as it is met; a slice's spare places count too). A statement '..UptoSaid' is the law's where the arguments, and the package variables that the reading takes, are together of bulk at most 1048576: NARROWER than '..Said'. Prove '..Said' where nothing that the law and all that it calls make is longer than what came in: it says more and counts as full. Else prove '..UptoSaid'. A law counts once. -/
mutual
def uptoBulk {H : Type} : DataW H → Nat
  | .lit (.string bytes) => bytes.length + 1
  | .lit _ => 1
  | .nil => 1
  | .ptr d => uptoBulk d + 1
  | .slice elems spare => uptoBulkAll elems + uptoBulkAll spare + 1
  | .agg parts => uptoBulkAll parts + 1
  | .iface _ d => uptoBulk d + 1
  | .map entries => uptoBulkEntries entries + 1
  | .held _ => 1
def uptoBulkAll {H : Type} : List (DataW H) → Nat
  | [] => 0
  | d :: r => uptoBulk d + uptoBulkAll r
def uptoBulkEntries {H : Type} : List (Lit × DataW H) → Nat
  | [] => 0
  | x :: r => uptoBulkEntry x + uptoBulkEntries r
def uptoBulkEntry {H : Type} : Lit × DataW H → Nat
  | (.string bytes, d) => bytes.length + uptoBulk d + 1
  | (_, d) => uptoBulk d + 1
 end
def uptoSmall : (H : Type) → List (DataW H) → Bool := fun _ ds => decide (uptoBulkAll ds ≤ 1048576)
def OpenSpec.upto (s : _root_.Go.ChangeSpec) : _root_.Go.OpenSpec := { _root_.Go.OpenSpec.ofChange s with cond := some uptoSmall }

/-- 'ostinatolaw13.ConfigTells', WHERE WHAT IT READS IS OF BULK AT MOST 1048576: true; the input reads as it did. -/
def configTellsUptoRow : OpenClaim := { program := "ytcdalfhmmipiaaadoor", sum := "674823134f7e19e728edff153028aa8fb422991211f74c893b9ea50d9787794b", func := "ostinato/ostinatolaw13.ConfigTells", spec := "configTells", unfollowed := true, recurses := true, named := ["ostinato/frame.widths"], apart := false, laid := [("ostinato/frame.widths", laid_ostinato_frame_widths)], narrowed := true }
def ConfigTellsUptoSaid : Prop := configTellsUptoRow.holds Tryd.pinned (OpenSpec.upto configTellsSpec)

/-- 'ostinatolaw13.ConfigReads', WHERE WHAT IT READS IS OF BULK AT MOST 1048576: true; the input reads as it did. -/
def configReadsUptoRow : OpenClaim := { program := "ytcdalfhmmipiaaadoor", sum := "674823134f7e19e728edff153028aa8fb422991211f74c893b9ea50d9787794b", func := "ostinato/ostinatolaw13.ConfigReads", spec := "configReads", unfollowed := true, recurses := true, named := ["ostinato/frame.widths"], apart := false, laid := [("ostinato/frame.widths", laid_ostinato_frame_widths)], narrowed := true }
def ConfigReadsUptoSaid : Prop := configReadsUptoRow.holds Tryd.pinned (OpenSpec.upto configReadsSpec)

/-- 'ostinatolaw13.ConfigCuts', WHERE WHAT IT READS IS OF BULK AT MOST 1048576: true; the input reads as it did. -/
def configCutsUptoRow : OpenClaim := { program := "ytcdalfhmmipiaaadoor", sum := "674823134f7e19e728edff153028aa8fb422991211f74c893b9ea50d9787794b", func := "ostinato/ostinatolaw13.ConfigCuts", spec := "configCuts", unfollowed := true, recurses := true, named := ["ostinato/frame.widths"], apart := false, laid := [("ostinato/frame.widths", laid_ostinato_frame_widths)], narrowed := true }
def ConfigCutsUptoSaid : Prop := configCutsUptoRow.holds Tryd.pinned (OpenSpec.upto configCutsSpec)

/-- 'ostinatolaw13.ConfigSizes', WHERE WHAT IT READS IS OF BULK AT MOST 1048576: true; the input reads as it did. -/
def configSizesUptoRow : OpenClaim := { program := "ytcdalfhmmipiaaadoor", sum := "674823134f7e19e728edff153028aa8fb422991211f74c893b9ea50d9787794b", func := "ostinato/ostinatolaw13.ConfigSizes", spec := "configSizes", unfollowed := true, recurses := true, named := ["ostinato/frame.widths"], apart := false, laid := [("ostinato/frame.widths", laid_ostinato_frame_widths)], narrowed := true }
def ConfigSizesUptoSaid : Prop := configSizesUptoRow.holds Tryd.pinned (OpenSpec.upto configSizesSpec)

/-- 'ostinatolaw13.ConfigApart', WHERE WHAT IT READS IS OF BULK AT MOST 1048576: true; the input reads as it did. -/
def configApartUptoRow : OpenClaim := { program := "ytcdalfhmmipiaaadoor", sum := "674823134f7e19e728edff153028aa8fb422991211f74c893b9ea50d9787794b", func := "ostinato/ostinatolaw13.ConfigApart", spec := "configApart", unfollowed := true, recurses := true, named := ["ostinato/frame.widths"], apart := false, laid := [("ostinato/frame.widths", laid_ostinato_frame_widths)], narrowed := true }
def ConfigApartUptoSaid : Prop := configApartUptoRow.holds Tryd.pinned (OpenSpec.upto configApartSpec)

/-- 'ostinatolaw13.ConfigFields', WHERE WHAT IT READS IS OF BULK AT MOST 1048576: true; the input reads as it did. -/
def configFieldsUptoRow : OpenClaim := { program := "ytcdalfhmmipiaaadoor", sum := "674823134f7e19e728edff153028aa8fb422991211f74c893b9ea50d9787794b", func := "ostinato/ostinatolaw13.ConfigFields", spec := "configFields", unfollowed := true, recurses := true, named := ["ostinato/frame.widths"], apart := false, laid := [("ostinato/frame.widths", laid_ostinato_frame_widths)], narrowed := true }
def ConfigFieldsUptoSaid : Prop := configFieldsUptoRow.holds Tryd.pinned (OpenSpec.upto configFieldsSpec)

end Rows
end Go.Proofs.YtcdalfhmmipiaaaDoor
