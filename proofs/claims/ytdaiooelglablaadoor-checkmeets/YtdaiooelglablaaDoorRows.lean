/-
  NARROWER THAN 'FOR EVERY INPUT', by the rows' own cells (each row's printed sentence says how): CheckTells: laid · CheckPasses: laid · CheckOne: laid · CheckUnits: laid · CheckMeets: laid · CheckRoom: laid.
  DERIVED. THE GIVEN ROWS OF THIS SEAT. 6 by the template 'for every input the law returns true; each argument reads behind the call as it read before'; 0 by the template 'total and deterministic' (their statements: YtdaiooelglablaaDoorTotals.lean).
  GIVEN WITH THE SEED: the statements are not yours to turn. If you find one false, say at which input.
  Laid BY PROGRAM, IN A SANDBOX (cutbox-rows.mjs): the forced cells as the released guide's own fill.sh prints them over the translation afb8ff5318267adc… (all of the seat's roots in one cut). By AI agents, Wed Nov 11 2026. No macro, syntax, notation, axiom, sorry.
-/
import Derived.Test.YtdaiooelglablaaDoorChecked
import GoSem.Claim
import GoSem.ClaimJoined
import GoSem.ClaimMapViews
import Derived.JoinedTies
import Derived.KernelRfl
namespace Go.Proofs.YtdaiooelglablaaDoor
/- THE CELL 'sum', in the pinned program and in every row, IS THE sha256 OF THE DUMP (.gsa) THAT YtdaiooelglablaaDoorProg.lean LOADS. Nothing in Lean hashes anything: it is a label: what it is worth is what the hold of that sum in a sandbox is worth. -/
noncomputable def Tryd.pinned : Pinned := { name := "ytdaiooelglablaadoor", sum := "afb8ff5318267adcbf51bc9ff58ac324cb5d364051a9068d8256bc7834676034", checked := Tryd.checked }
namespace Rows
def none {H : Type} : Left H := { results := [], args := [] }

/- WHAT THE LISTED PACKAGE-LEVEL VARIABLES READ AS WHEN THE CALL BEGINS. Each datum BY PROGRAM (the guide's laid-datum.mjs) off the statement by which the dump's own 'gosem.cut.vars' lays the variable. In a bare row this is a premise. The card (YtdaiooelglablaaDoorCards.lean) ties it to the program's text. -/
def laid_ostinato_frame_widths {H : Type} : DataW H := .agg [.agg [.lit (.int .i64 1), .lit (.int .i64 1)], .agg [.lit (.int .i64 11), .lit (.int .i64 11)], .agg [.lit (.int .i64 1), .lit (.int .i64 1)], .agg [.lit (.int .i64 1), .lit (.int .i64 1)], .agg [.lit (.int .i64 0), .lit (.int .i64 18)], .agg [.lit (.int .i64 0), .lit (.int .i64 1)], .agg [.lit (.int .i64 1), .lit (.int .i64 2)], .agg [.lit (.int .i64 4), .lit (.int .i64 4)]]

/-- 'ostinatolaw14.CheckTells': WHATEVER THE INPUT: true; the input reads as it did. -/
def checkTellsSpec : ChangeSpec := { name := "checkTells", fn := fun _ => fun
  | [d1, d2, d3, d4] => { results := [.lit (.bool true)], args := [d1, d2, d3, d4] }
  | _ => none }
def checkTellsRow : OpenClaim := { program := "ytdaiooelglablaadoor", sum := "afb8ff5318267adcbf51bc9ff58ac324cb5d364051a9068d8256bc7834676034", func := "ostinato/ostinatolaw14.CheckTells", spec := "checkTells", unfollowed := true, recurses := true, named := ["ostinato/frame.widths"], apart := false, laid := [("ostinato/frame.widths", laid_ostinato_frame_widths)] }
def CheckTellsSaid : Prop := checkTellsRow.holds Tryd.pinned (OpenSpec.ofChange checkTellsSpec)

/-- ITS FALSE NEIGHBOUR: 'it returns false'. Refute it at one input. -/
def checkTellsWrong : ChangeSpec := { name := "checkTells", fn := fun _ => fun
  | [d1, d2, d3, d4] => { results := [.lit (.bool false)], args := [d1, d2, d3, d4] }
  | _ => none }
def CheckTellsWrongFalsely : Prop := checkTellsRow.holds Tryd.pinned (OpenSpec.ofChange checkTellsWrong)

/-- 'ostinatolaw14.CheckPasses': WHATEVER THE INPUT: true; the input reads as it did. -/
def checkPassesSpec : ChangeSpec := { name := "checkPasses", fn := fun _ => fun
  | [d] => { results := [.lit (.bool true)], args := [d] }
  | _ => none }
def checkPassesRow : OpenClaim := { program := "ytdaiooelglablaadoor", sum := "afb8ff5318267adcbf51bc9ff58ac324cb5d364051a9068d8256bc7834676034", func := "ostinato/ostinatolaw14.CheckPasses", spec := "checkPasses", unfollowed := true, recurses := true, named := ["ostinato/frame.widths"], apart := false, laid := [("ostinato/frame.widths", laid_ostinato_frame_widths)] }
def CheckPassesSaid : Prop := checkPassesRow.holds Tryd.pinned (OpenSpec.ofChange checkPassesSpec)

/-- ITS FALSE NEIGHBOUR: 'it returns false'. Refute it at one input. -/
def checkPassesWrong : ChangeSpec := { name := "checkPasses", fn := fun _ => fun
  | [d] => { results := [.lit (.bool false)], args := [d] }
  | _ => none }
def CheckPassesWrongFalsely : Prop := checkPassesRow.holds Tryd.pinned (OpenSpec.ofChange checkPassesWrong)

/-- 'ostinatolaw14.CheckOne': WHATEVER THE INPUT: true; the input reads as it did. -/
def checkOneSpec : ChangeSpec := { name := "checkOne", fn := fun _ => fun
  | [d1, d2, d3] => { results := [.lit (.bool true)], args := [d1, d2, d3] }
  | _ => none }
def checkOneRow : OpenClaim := { program := "ytdaiooelglablaadoor", sum := "afb8ff5318267adcbf51bc9ff58ac324cb5d364051a9068d8256bc7834676034", func := "ostinato/ostinatolaw14.CheckOne", spec := "checkOne", unfollowed := true, recurses := true, named := ["ostinato/frame.widths"], apart := false, laid := [("ostinato/frame.widths", laid_ostinato_frame_widths)] }
def CheckOneSaid : Prop := checkOneRow.holds Tryd.pinned (OpenSpec.ofChange checkOneSpec)

/-- ITS FALSE NEIGHBOUR: 'it returns false'. Refute it at one input. -/
def checkOneWrong : ChangeSpec := { name := "checkOne", fn := fun _ => fun
  | [d1, d2, d3] => { results := [.lit (.bool false)], args := [d1, d2, d3] }
  | _ => none }
def CheckOneWrongFalsely : Prop := checkOneRow.holds Tryd.pinned (OpenSpec.ofChange checkOneWrong)

/-- 'ostinatolaw14.CheckUnits': WHATEVER THE INPUT: true; the input reads as it did. -/
def checkUnitsSpec : ChangeSpec := { name := "checkUnits", fn := fun _ => fun
  | [d1, d2] => { results := [.lit (.bool true)], args := [d1, d2] }
  | _ => none }
def checkUnitsRow : OpenClaim := { program := "ytdaiooelglablaadoor", sum := "afb8ff5318267adcbf51bc9ff58ac324cb5d364051a9068d8256bc7834676034", func := "ostinato/ostinatolaw14.CheckUnits", spec := "checkUnits", unfollowed := true, recurses := true, named := ["ostinato/frame.widths"], apart := false, laid := [("ostinato/frame.widths", laid_ostinato_frame_widths)] }
def CheckUnitsSaid : Prop := checkUnitsRow.holds Tryd.pinned (OpenSpec.ofChange checkUnitsSpec)

/-- ITS FALSE NEIGHBOUR: 'it returns false'. Refute it at one input. -/
def checkUnitsWrong : ChangeSpec := { name := "checkUnits", fn := fun _ => fun
  | [d1, d2] => { results := [.lit (.bool false)], args := [d1, d2] }
  | _ => none }
def CheckUnitsWrongFalsely : Prop := checkUnitsRow.holds Tryd.pinned (OpenSpec.ofChange checkUnitsWrong)

/-- 'ostinatolaw14.CheckMeets': WHATEVER THE INPUT: true; the input reads as it did. -/
def checkMeetsSpec : ChangeSpec := { name := "checkMeets", fn := fun _ => fun
  | [d1, d2] => { results := [.lit (.bool true)], args := [d1, d2] }
  | _ => none }
def checkMeetsRow : OpenClaim := { program := "ytdaiooelglablaadoor", sum := "afb8ff5318267adcbf51bc9ff58ac324cb5d364051a9068d8256bc7834676034", func := "ostinato/ostinatolaw14.CheckMeets", spec := "checkMeets", unfollowed := true, recurses := true, named := ["ostinato/frame.widths"], apart := false, laid := [("ostinato/frame.widths", laid_ostinato_frame_widths)] }
def CheckMeetsSaid : Prop := checkMeetsRow.holds Tryd.pinned (OpenSpec.ofChange checkMeetsSpec)

/-- ITS FALSE NEIGHBOUR: 'it returns false'. Refute it at one input. -/
def checkMeetsWrong : ChangeSpec := { name := "checkMeets", fn := fun _ => fun
  | [d1, d2] => { results := [.lit (.bool false)], args := [d1, d2] }
  | _ => none }
def CheckMeetsWrongFalsely : Prop := checkMeetsRow.holds Tryd.pinned (OpenSpec.ofChange checkMeetsWrong)

/-- 'ostinatolaw14.CheckRoom': WHATEVER THE INPUT: true; the input reads as it did. -/
def checkRoomSpec : ChangeSpec := { name := "checkRoom", fn := fun _ => fun
  | [d1, d2, d3] => { results := [.lit (.bool true)], args := [d1, d2, d3] }
  | _ => none }
def checkRoomRow : OpenClaim := { program := "ytdaiooelglablaadoor", sum := "afb8ff5318267adcbf51bc9ff58ac324cb5d364051a9068d8256bc7834676034", func := "ostinato/ostinatolaw14.CheckRoom", spec := "checkRoom", unfollowed := true, recurses := true, named := ["ostinato/frame.widths"], apart := false, laid := [("ostinato/frame.widths", laid_ostinato_frame_widths)] }
def CheckRoomSaid : Prop := checkRoomRow.holds Tryd.pinned (OpenSpec.ofChange checkRoomSpec)

/-- ITS FALSE NEIGHBOUR: 'it returns false'. Refute it at one input. -/
def checkRoomWrong : ChangeSpec := { name := "checkRoom", fn := fun _ => fun
  | [d1, d2, d3] => { results := [.lit (.bool false)], args := [d1, d2, d3] }
  | _ => none }
def CheckRoomWrongFalsely : Prop := checkRoomRow.holds Tryd.pinned (OpenSpec.ofChange checkRoomWrong)

/- THE SECOND FORM. 'bulk': how many values and letters a reading holds, each counted each time it is reached (what is shared counts as often as it is met; a slice's spare places count too). A statement '..UptoSaid' is the law's where the arguments, and the package variables that the reading takes, are together of bulk at most 1048576: NARROWER than '..Said'. Prove '..Said' where nothing that the law and all that it calls make is longer than what came in: it says more and counts as full. Else prove '..UptoSaid'. A law counts once. -/
mutual
def uptoBulk {H : Type} : DataW H → Nat
  | .lit (.string bytes) => bytes.length + 1
  | .lit _ => 1
  | .nil => 1
  | .ptr d => uptoBulk d + 1
  | .slice elems spare => uptoBulkAll elems + uptoBulkAll spare + 1
  | .agg parts => uptoBulkAll parts + 1
  | .iface _ d => uptoBulk d + 1
  | .map entries => uptoBulkEntries entries + 1
  | .held _ => 1
def uptoBulkAll {H : Type} : List (DataW H) → Nat
  | [] => 0
  | d :: r => uptoBulk d + uptoBulkAll r
def uptoBulkEntries {H : Type} : List (Lit × DataW H) → Nat
  | [] => 0
  | x :: r => uptoBulkEntry x + uptoBulkEntries r
def uptoBulkEntry {H : Type} : Lit × DataW H → Nat
  | (.string bytes, d) => bytes.length + uptoBulk d + 1
  | (_, d) => uptoBulk d + 1
 end
def uptoSmall : (H : Type) → List (DataW H) → Bool := fun _ ds => decide (uptoBulkAll ds ≤ 1048576)
def OpenSpec.upto (s : _root_.Go.ChangeSpec) : _root_.Go.OpenSpec := { _root_.Go.OpenSpec.ofChange s with cond := some uptoSmall }

/-- 'ostinatolaw14.CheckTells', WHERE WHAT IT READS IS OF BULK AT MOST 1048576: true; the input reads as it did. -/
def checkTellsUptoRow : OpenClaim := { program := "ytdaiooelglablaadoor", sum := "afb8ff5318267adcbf51bc9ff58ac324cb5d364051a9068d8256bc7834676034", func := "ostinato/ostinatolaw14.CheckTells", spec := "checkTells", unfollowed := true, recurses := true, named := ["ostinato/frame.widths"], apart := false, laid := [("ostinato/frame.widths", laid_ostinato_frame_widths)], narrowed := true }
def CheckTellsUptoSaid : Prop := checkTellsUptoRow.holds Tryd.pinned (OpenSpec.upto checkTellsSpec)

/-- 'ostinatolaw14.CheckPasses', WHERE WHAT IT READS IS OF BULK AT MOST 1048576: true; the input reads as it did. -/
def checkPassesUptoRow : OpenClaim := { program := "ytdaiooelglablaadoor", sum := "afb8ff5318267adcbf51bc9ff58ac324cb5d364051a9068d8256bc7834676034", func := "ostinato/ostinatolaw14.CheckPasses", spec := "checkPasses", unfollowed := true, recurses := true, named := ["ostinato/frame.widths"], apart := false, laid := [("ostinato/frame.widths", laid_ostinato_frame_widths)], narrowed := true }
def CheckPassesUptoSaid : Prop := checkPassesUptoRow.holds Tryd.pinned (OpenSpec.upto checkPassesSpec)

/-- 'ostinatolaw14.CheckOne', WHERE WHAT IT READS IS OF BULK AT MOST 1048576: true; the input reads as it did. -/
def checkOneUptoRow : OpenClaim := { program := "ytdaiooelglablaadoor", sum := "afb8ff5318267adcbf51bc9ff58ac324cb5d364051a9068d8256bc7834676034", func := "ostinato/ostinatolaw14.CheckOne", spec := "checkOne", unfollowed := true, recurses := true, named := ["ostinato/frame.widths"], apart := false, laid := [("ostinato/frame.widths", laid_ostinato_frame_widths)], narrowed := true }
def CheckOneUptoSaid : Prop := checkOneUptoRow.holds Tryd.pinned (OpenSpec.upto checkOneSpec)

/-- 'ostinatolaw14.CheckUnits', WHERE WHAT IT READS IS OF BULK AT MOST 1048576: true; the input reads as it did. -/
def checkUnitsUptoRow : OpenClaim := { program := "ytdaiooelglablaadoor", sum := "afb8ff5318267adcbf51bc9ff58ac324cb5d364051a9068d8256bc7834676034", func := "ostinato/ostinatolaw14.CheckUnits", spec := "checkUnits", unfollowed := true, recurses := true, named := ["ostinato/frame.widths"], apart := false, laid := [("ostinato/frame.widths", laid_ostinato_frame_widths)], narrowed := true }
def CheckUnitsUptoSaid : Prop := checkUnitsUptoRow.holds Tryd.pinned (OpenSpec.upto checkUnitsSpec)

/-- 'ostinatolaw14.CheckMeets', WHERE WHAT IT READS IS OF BULK AT MOST 1048576: true; the input reads as it did. -/
def checkMeetsUptoRow : OpenClaim := { program := "ytdaiooelglablaadoor", sum := "afb8ff5318267adcbf51bc9ff58ac324cb5d364051a9068d8256bc7834676034", func := "ostinato/ostinatolaw14.CheckMeets", spec := "checkMeets", unfollowed := true, recurses := true, named := ["ostinato/frame.widths"], apart := false, laid := [("ostinato/frame.widths", laid_ostinato_frame_widths)], narrowed := true }
def CheckMeetsUptoSaid : Prop := checkMeetsUptoRow.holds Tryd.pinned (OpenSpec.upto checkMeetsSpec)

/-- 'ostinatolaw14.CheckRoom', WHERE WHAT IT READS IS OF BULK AT MOST 1048576: true; the input reads as it did. -/
def checkRoomUptoRow : OpenClaim := { program := "ytdaiooelglablaadoor", sum := "afb8ff5318267adcbf51bc9ff58ac324cb5d364051a9068d8256bc7834676034", func := "ostinato/ostinatolaw14.CheckRoom", spec := "checkRoom", unfollowed := true, recurses := true, named := ["ostinato/frame.widths"], apart := false, laid := [("ostinato/frame.widths", laid_ostinato_frame_widths)], narrowed := true }
def CheckRoomUptoSaid : Prop := checkRoomUptoRow.holds Tryd.pinned (OpenSpec.upto checkRoomSpec)

end Rows
end Go.Proofs.YtdaiooelglablaaDoor
