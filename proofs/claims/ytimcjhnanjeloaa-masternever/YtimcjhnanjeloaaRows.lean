/-
  No cell of these rows narrows 'for every input' (looked for: loops, veiled, ifaces, maps, wideKeys, modest, calm, conditions, laid).
  DERIVED. THE GIVEN ROWS OF THIS SEAT. 4 by the template 'for every input the law returns true; each argument reads behind the call as it read before'; 0 by the template 'total and deterministic' (their statements: YtimcjhnanjeloaaTotals.lean).
  GIVEN WITH THE SEED: the statements are not yours to turn. If you find one false, say at which input.
  Laid BY PROGRAM, IN A SANDBOX (cutbox-rows.mjs): the forced cells as the released guide's own fill.sh prints them over the translation 61cbc417d6585c53… (all of the seat's roots in one cut). By AI agents, Wed Nov 11 2026. No macro, syntax, notation, axiom, sorry.
-/
import Derived.Test.YtimcjhnanjeloaaChecked
import GoSem.Claim
import GoSem.ClaimJoined
import GoSem.ClaimMapViews
import Derived.JoinedTies
import Derived.KernelRfl
namespace Go.Proofs.Ytimcjhnanjeloaa
/- THE CELL 'sum', in the pinned program and in every row, IS THE sha256 OF THE DUMP (.gsa) THAT YtimcjhnanjeloaaProg.lean LOADS. Nothing in Lean hashes anything: it is a label: what it is worth is what the hold of that sum in a sandbox is worth. -/
noncomputable def Try.pinned : Pinned := { name := "ytimcjhnanjeloaa", sum := "61cbc417d6585c535fb49cb39d7df4b452cc91ab81c744a1eca3448857014ba9", checked := Try.checked }
namespace Rows
def none {H : Type} : Left H := { results := [], args := [] }

/-- 'ostinatolaw22.MasterPlays': WHATEVER THE INPUT: true; the input reads as it did. -/
def masterPlaysSpec : ChangeSpec := { name := "masterPlays", fn := fun _ => fun
  | [d1, d2] => { results := [.lit (.bool true)], args := [d1, d2] }
  | _ => none }
def masterPlaysRow : OpenClaim := { program := "ytimcjhnanjeloaa", sum := "61cbc417d6585c535fb49cb39d7df4b452cc91ab81c744a1eca3448857014ba9", func := "ostinato/ostinatolaw22.MasterPlays", spec := "masterPlays", apart := false }
def MasterPlaysSaid : Prop := masterPlaysRow.holds Try.pinned (OpenSpec.ofChange masterPlaysSpec)

/-- ITS FALSE NEIGHBOUR: 'it returns false'. Refute it at one input. -/
def masterPlaysWrong : ChangeSpec := { name := "masterPlays", fn := fun _ => fun
  | [d1, d2] => { results := [.lit (.bool false)], args := [d1, d2] }
  | _ => none }
def MasterPlaysWrongFalsely : Prop := masterPlaysRow.holds Try.pinned (OpenSpec.ofChange masterPlaysWrong)

/-- 'ostinatolaw22.MasterTwo': WHATEVER THE INPUT: true; the input reads as it did. -/
def masterTwoSpec : ChangeSpec := { name := "masterTwo", fn := fun _ => fun
  | [d1, d2, d3] => { results := [.lit (.bool true)], args := [d1, d2, d3] }
  | _ => none }
def masterTwoRow : OpenClaim := { program := "ytimcjhnanjeloaa", sum := "61cbc417d6585c535fb49cb39d7df4b452cc91ab81c744a1eca3448857014ba9", func := "ostinato/ostinatolaw22.MasterTwo", spec := "masterTwo", apart := false }
def MasterTwoSaid : Prop := masterTwoRow.holds Try.pinned (OpenSpec.ofChange masterTwoSpec)

/-- ITS FALSE NEIGHBOUR: 'it returns false'. Refute it at one input. -/
def masterTwoWrong : ChangeSpec := { name := "masterTwo", fn := fun _ => fun
  | [d1, d2, d3] => { results := [.lit (.bool false)], args := [d1, d2, d3] }
  | _ => none }
def MasterTwoWrongFalsely : Prop := masterTwoRow.holds Try.pinned (OpenSpec.ofChange masterTwoWrong)

/-- 'ostinatolaw22.MasterNever': WHATEVER THE INPUT: true; the input reads as it did. -/
def masterNeverSpec : ChangeSpec := { name := "masterNever", fn := fun _ => fun
  | [d1, d2] => { results := [.lit (.bool true)], args := [d1, d2] }
  | _ => none }
def masterNeverRow : OpenClaim := { program := "ytimcjhnanjeloaa", sum := "61cbc417d6585c535fb49cb39d7df4b452cc91ab81c744a1eca3448857014ba9", func := "ostinato/ostinatolaw22.MasterNever", spec := "masterNever", apart := false }
def MasterNeverSaid : Prop := masterNeverRow.holds Try.pinned (OpenSpec.ofChange masterNeverSpec)

/-- ITS FALSE NEIGHBOUR: 'it returns false'. Refute it at one input. -/
def masterNeverWrong : ChangeSpec := { name := "masterNever", fn := fun _ => fun
  | [d1, d2] => { results := [.lit (.bool false)], args := [d1, d2] }
  | _ => none }
def MasterNeverWrongFalsely : Prop := masterNeverRow.holds Try.pinned (OpenSpec.ofChange masterNeverWrong)

/-- 'ostinatolaw22.MasterStates': WHATEVER THE INPUT: true; the input reads as it did. -/
def masterStatesSpec : ChangeSpec := { name := "masterStates", fn := fun _ => fun
  | [d1, d2, d3] => { results := [.lit (.bool true)], args := [d1, d2, d3] }
  | _ => none }
def masterStatesRow : OpenClaim := { program := "ytimcjhnanjeloaa", sum := "61cbc417d6585c535fb49cb39d7df4b452cc91ab81c744a1eca3448857014ba9", func := "ostinato/ostinatolaw22.MasterStates", spec := "masterStates", apart := false }
def MasterStatesSaid : Prop := masterStatesRow.holds Try.pinned (OpenSpec.ofChange masterStatesSpec)

/-- ITS FALSE NEIGHBOUR: 'it returns false'. Refute it at one input. -/
def masterStatesWrong : ChangeSpec := { name := "masterStates", fn := fun _ => fun
  | [d1, d2, d3] => { results := [.lit (.bool false)], args := [d1, d2, d3] }
  | _ => none }
def MasterStatesWrongFalsely : Prop := masterStatesRow.holds Try.pinned (OpenSpec.ofChange masterStatesWrong)

/- THE SECOND FORM. 'bulk': how many values and letters a reading holds, each counted each time it is reached (what is shared counts as often as it is met; a slice's spare places count too). A statement '..UptoSaid' is the law's where the arguments, and the package variables that the reading takes, are together of bulk at most 1048576: NARROWER than '..Said'. Prove '..Said' where nothing that the law and all that it calls make is longer than what came in: it says more and counts as full. Else prove '..UptoSaid'. A law counts once. -/
mutual
def uptoBulk {H : Type} : DataW H → Nat
  | .lit (.string bytes) => bytes.length + 1
  | .lit _ => 1
  | .nil => 1
  | .ptr d => uptoBulk d + 1
  | .slice elems spare => uptoBulkAll elems + uptoBulkAll spare + 1
  | .agg parts => uptoBulkAll parts + 1
  | .iface _ d => uptoBulk d + 1
  | .map entries => uptoBulkEntries entries + 1
  | .held _ => 1
def uptoBulkAll {H : Type} : List (DataW H) → Nat
  | [] => 0
  | d :: r => uptoBulk d + uptoBulkAll r
def uptoBulkEntries {H : Type} : List (Lit × DataW H) → Nat
  | [] => 0
  | x :: r => uptoBulkEntry x + uptoBulkEntries r
def uptoBulkEntry {H : Type} : Lit × DataW H → Nat
  | (.string bytes, d) => bytes.length + uptoBulk d + 1
  | (_, d) => uptoBulk d + 1
 end
def uptoSmall : (H : Type) → List (DataW H) → Bool := fun _ ds => decide (uptoBulkAll ds ≤ 1048576)
def OpenSpec.upto (s : _root_.Go.ChangeSpec) : _root_.Go.OpenSpec := { _root_.Go.OpenSpec.ofChange s with cond := some uptoSmall }

/-- 'ostinatolaw22.MasterPlays', WHERE WHAT IT READS IS OF BULK AT MOST 1048576: true; the input reads as it did. -/
def masterPlaysUptoRow : OpenClaim := { program := "ytimcjhnanjeloaa", sum := "61cbc417d6585c535fb49cb39d7df4b452cc91ab81c744a1eca3448857014ba9", func := "ostinato/ostinatolaw22.MasterPlays", spec := "masterPlays", apart := false, narrowed := true }
def MasterPlaysUptoSaid : Prop := masterPlaysUptoRow.holds Try.pinned (OpenSpec.upto masterPlaysSpec)

/-- 'ostinatolaw22.MasterTwo', WHERE WHAT IT READS IS OF BULK AT MOST 1048576: true; the input reads as it did. -/
def masterTwoUptoRow : OpenClaim := { program := "ytimcjhnanjeloaa", sum := "61cbc417d6585c535fb49cb39d7df4b452cc91ab81c744a1eca3448857014ba9", func := "ostinato/ostinatolaw22.MasterTwo", spec := "masterTwo", apart := false, narrowed := true }
def MasterTwoUptoSaid : Prop := masterTwoUptoRow.holds Try.pinned (OpenSpec.upto masterTwoSpec)

/-- 'ostinatolaw22.MasterNever', WHERE WHAT IT READS IS OF BULK AT MOST 1048576: true; the input reads as it did. -/
def masterNeverUptoRow : OpenClaim := { program := "ytimcjhnanjeloaa", sum := "61cbc417d6585c535fb49cb39d7df4b452cc91ab81c744a1eca3448857014ba9", func := "ostinato/ostinatolaw22.MasterNever", spec := "masterNever", apart := false, narrowed := true }
def MasterNeverUptoSaid : Prop := masterNeverUptoRow.holds Try.pinned (OpenSpec.upto masterNeverSpec)

/-- 'ostinatolaw22.MasterStates', WHERE WHAT IT READS IS OF BULK AT MOST 1048576: true; the input reads as it did. -/
def masterStatesUptoRow : OpenClaim := { program := "ytimcjhnanjeloaa", sum := "61cbc417d6585c535fb49cb39d7df4b452cc91ab81c744a1eca3448857014ba9", func := "ostinato/ostinatolaw22.MasterStates", spec := "masterStates", apart := false, narrowed := true }
def MasterStatesUptoSaid : Prop := masterStatesUptoRow.holds Try.pinned (OpenSpec.upto masterStatesSpec)

end Rows
end Go.Proofs.Ytimcjhnanjeloaa
