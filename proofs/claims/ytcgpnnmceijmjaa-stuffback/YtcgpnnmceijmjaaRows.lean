/-
  No cell of these rows narrows 'for every input' (looked for: loops, veiled, ifaces, maps, wideKeys, modest, calm, conditions, laid).
  DERIVED. THE GIVEN ROWS OF THIS SEAT. 6 by the template 'for every input the law returns true; each argument reads behind the call as it read before'; 0 by the template 'total and deterministic' (their statements: YtcgpnnmceijmjaaTotals.lean).
  GIVEN WITH THE SEED: the statements are not yours to turn. If you find one false, say at which input.
  Laid BY PROGRAM, IN A SANDBOX (cutbox-rows.mjs): the forced cells as the released guide's own fill.sh prints them over the translation e21833b1e2eb8dfe… (all of the seat's roots in one cut). By AI agents, Wed Nov 11 2026. No macro, syntax, notation, axiom, sorry.
-/
import Derived.Test.YtcgpnnmceijmjaaChecked
import GoSem.Claim
import GoSem.ClaimJoined
import GoSem.ClaimMapViews
import Derived.JoinedTies
import Derived.KernelRfl
namespace Go.Proofs.Ytcgpnnmceijmjaa
/- THE CELL 'sum', in the pinned program and in every row, IS THE sha256 OF THE DUMP (.gsa) THAT YtcgpnnmceijmjaaProg.lean LOADS. Nothing in Lean hashes anything: it is a label: what it is worth is what the hold of that sum in a sandbox is worth. -/
noncomputable def Try.pinned : Pinned := { name := "ytcgpnnmceijmjaa", sum := "e21833b1e2eb8dfefc821da770109a3ff5427e958f8e3780eff74136cd89f39f", checked := Try.checked }
namespace Rows
def none {H : Type} : Left H := { results := [], args := [] }

/-- 'ostinatolaw2.StuffTells': WHATEVER THE INPUT: true; the input reads as it did. -/
def stuffTellsSpec : ChangeSpec := { name := "stuffTells", fn := fun _ => fun
  | [d] => { results := [.lit (.bool true)], args := [d] }
  | _ => none }
def stuffTellsRow : OpenClaim := { program := "ytcgpnnmceijmjaa", sum := "e21833b1e2eb8dfefc821da770109a3ff5427e958f8e3780eff74136cd89f39f", func := "ostinato/ostinatolaw2.StuffTells", spec := "stuffTells", apart := false }
def StuffTellsSaid : Prop := stuffTellsRow.holds Try.pinned (OpenSpec.ofChange stuffTellsSpec)

/-- ITS FALSE NEIGHBOUR: 'it returns false'. Refute it at one input. -/
def stuffTellsWrong : ChangeSpec := { name := "stuffTells", fn := fun _ => fun
  | [d] => { results := [.lit (.bool false)], args := [d] }
  | _ => none }
def StuffTellsWrongFalsely : Prop := stuffTellsRow.holds Try.pinned (OpenSpec.ofChange stuffTellsWrong)

/-- 'ostinatolaw2.StuffBack': WHATEVER THE INPUT: true; the input reads as it did. -/
def stuffBackSpec : ChangeSpec := { name := "stuffBack", fn := fun _ => fun
  | [d1, d2, d3] => { results := [.lit (.bool true)], args := [d1, d2, d3] }
  | _ => none }
def stuffBackRow : OpenClaim := { program := "ytcgpnnmceijmjaa", sum := "e21833b1e2eb8dfefc821da770109a3ff5427e958f8e3780eff74136cd89f39f", func := "ostinato/ostinatolaw2.StuffBack", spec := "stuffBack", apart := false }
def StuffBackSaid : Prop := stuffBackRow.holds Try.pinned (OpenSpec.ofChange stuffBackSpec)

/-- ITS FALSE NEIGHBOUR: 'it returns false'. Refute it at one input. -/
def stuffBackWrong : ChangeSpec := { name := "stuffBack", fn := fun _ => fun
  | [d1, d2, d3] => { results := [.lit (.bool false)], args := [d1, d2, d3] }
  | _ => none }
def StuffBackWrongFalsely : Prop := stuffBackRow.holds Try.pinned (OpenSpec.ofChange stuffBackWrong)

/-- 'ostinatolaw2.StuffWorst': WHATEVER THE INPUT: true; the input reads as it did. -/
def stuffWorstSpec : ChangeSpec := { name := "stuffWorst", fn := fun _ => fun
  | [d1, d2] => { results := [.lit (.bool true)], args := [d1, d2] }
  | _ => none }
def stuffWorstRow : OpenClaim := { program := "ytcgpnnmceijmjaa", sum := "e21833b1e2eb8dfefc821da770109a3ff5427e958f8e3780eff74136cd89f39f", func := "ostinato/ostinatolaw2.StuffWorst", spec := "stuffWorst", apart := false }
def StuffWorstSaid : Prop := stuffWorstRow.holds Try.pinned (OpenSpec.ofChange stuffWorstSpec)

/-- ITS FALSE NEIGHBOUR: 'it returns false'. Refute it at one input. -/
def stuffWorstWrong : ChangeSpec := { name := "stuffWorst", fn := fun _ => fun
  | [d1, d2] => { results := [.lit (.bool false)], args := [d1, d2] }
  | _ => none }
def StuffWorstWrongFalsely : Prop := stuffWorstRow.holds Try.pinned (OpenSpec.ofChange stuffWorstWrong)

/-- 'ostinatolaw2.StuffSix': WHATEVER THE INPUT: true; the input reads as it did. -/
def stuffSixSpec : ChangeSpec := { name := "stuffSix", fn := fun _ => fun
  | [d1, d2, d3] => { results := [.lit (.bool true)], args := [d1, d2, d3] }
  | _ => none }
def stuffSixRow : OpenClaim := { program := "ytcgpnnmceijmjaa", sum := "e21833b1e2eb8dfefc821da770109a3ff5427e958f8e3780eff74136cd89f39f", func := "ostinato/ostinatolaw2.StuffSix", spec := "stuffSix", apart := false }
def StuffSixSaid : Prop := stuffSixRow.holds Try.pinned (OpenSpec.ofChange stuffSixSpec)

/-- ITS FALSE NEIGHBOUR: 'it returns false'. Refute it at one input. -/
def stuffSixWrong : ChangeSpec := { name := "stuffSix", fn := fun _ => fun
  | [d1, d2, d3] => { results := [.lit (.bool false)], args := [d1, d2, d3] }
  | _ => none }
def StuffSixWrongFalsely : Prop := stuffSixRow.holds Try.pinned (OpenSpec.ofChange stuffSixWrong)

/-- 'ostinatolaw2.StuffJoin': WHATEVER THE INPUT: true; the input reads as it did. -/
def stuffJoinSpec : ChangeSpec := { name := "stuffJoin", fn := fun _ => fun
  | [d1, d2] => { results := [.lit (.bool true)], args := [d1, d2] }
  | _ => none }
def stuffJoinRow : OpenClaim := { program := "ytcgpnnmceijmjaa", sum := "e21833b1e2eb8dfefc821da770109a3ff5427e958f8e3780eff74136cd89f39f", func := "ostinato/ostinatolaw2.StuffJoin", spec := "stuffJoin", apart := false }
def StuffJoinSaid : Prop := stuffJoinRow.holds Try.pinned (OpenSpec.ofChange stuffJoinSpec)

/-- ITS FALSE NEIGHBOUR: 'it returns false'. Refute it at one input. -/
def stuffJoinWrong : ChangeSpec := { name := "stuffJoin", fn := fun _ => fun
  | [d1, d2] => { results := [.lit (.bool false)], args := [d1, d2] }
  | _ => none }
def StuffJoinWrongFalsely : Prop := stuffJoinRow.holds Try.pinned (OpenSpec.ofChange stuffJoinWrong)

/-- 'ostinatolaw2.StuffOpposite': WHATEVER THE INPUT: true; the input reads as it did. -/
def stuffOppositeSpec : ChangeSpec := { name := "stuffOpposite", fn := fun _ => fun
  | [d] => { results := [.lit (.bool true)], args := [d] }
  | _ => none }
def stuffOppositeRow : OpenClaim := { program := "ytcgpnnmceijmjaa", sum := "e21833b1e2eb8dfefc821da770109a3ff5427e958f8e3780eff74136cd89f39f", func := "ostinato/ostinatolaw2.StuffOpposite", spec := "stuffOpposite", apart := false }
def StuffOppositeSaid : Prop := stuffOppositeRow.holds Try.pinned (OpenSpec.ofChange stuffOppositeSpec)

/-- ITS FALSE NEIGHBOUR: 'it returns false'. Refute it at one input. -/
def stuffOppositeWrong : ChangeSpec := { name := "stuffOpposite", fn := fun _ => fun
  | [d] => { results := [.lit (.bool false)], args := [d] }
  | _ => none }
def StuffOppositeWrongFalsely : Prop := stuffOppositeRow.holds Try.pinned (OpenSpec.ofChange stuffOppositeWrong)

/- THE SECOND FORM. 'bulk': how many values and letters a reading holds, each counted each time it is reached (what is shared counts as often as it is met; a slice's spare places count too). A statement '..UptoSaid' is the law's where the arguments, and the package variables that the reading takes, are together of bulk at most 1048576: NARROWER than '..Said'. Prove '..Said' where nothing that the law and all that it calls make is longer than what came in: it says more and counts as full. Else prove '..UptoSaid'. A law counts once. -/
mutual
def uptoBulk {H : Type} : DataW H → Nat
  | .lit (.string bytes) => bytes.length + 1
  | .lit _ => 1
  | .nil => 1
  | .ptr d => uptoBulk d + 1
  | .slice elems spare => uptoBulkAll elems + uptoBulkAll spare + 1
  | .agg parts => uptoBulkAll parts + 1
  | .iface _ d => uptoBulk d + 1
  | .map entries => uptoBulkEntries entries + 1
  | .held _ => 1
def uptoBulkAll {H : Type} : List (DataW H) → Nat
  | [] => 0
  | d :: r => uptoBulk d + uptoBulkAll r
def uptoBulkEntries {H : Type} : List (Lit × DataW H) → Nat
  | [] => 0
  | x :: r => uptoBulkEntry x + uptoBulkEntries r
def uptoBulkEntry {H : Type} : Lit × DataW H → Nat
  | (.string bytes, d) => bytes.length + uptoBulk d + 1
  | (_, d) => uptoBulk d + 1
 end
def uptoSmall : (H : Type) → List (DataW H) → Bool := fun _ ds => decide (uptoBulkAll ds ≤ 1048576)
def OpenSpec.upto (s : _root_.Go.ChangeSpec) : _root_.Go.OpenSpec := { _root_.Go.OpenSpec.ofChange s with cond := some uptoSmall }

/-- 'ostinatolaw2.StuffTells', WHERE WHAT IT READS IS OF BULK AT MOST 1048576: true; the input reads as it did. -/
def stuffTellsUptoRow : OpenClaim := { program := "ytcgpnnmceijmjaa", sum := "e21833b1e2eb8dfefc821da770109a3ff5427e958f8e3780eff74136cd89f39f", func := "ostinato/ostinatolaw2.StuffTells", spec := "stuffTells", apart := false, narrowed := true }
def StuffTellsUptoSaid : Prop := stuffTellsUptoRow.holds Try.pinned (OpenSpec.upto stuffTellsSpec)

/-- 'ostinatolaw2.StuffBack', WHERE WHAT IT READS IS OF BULK AT MOST 1048576: true; the input reads as it did. -/
def stuffBackUptoRow : OpenClaim := { program := "ytcgpnnmceijmjaa", sum := "e21833b1e2eb8dfefc821da770109a3ff5427e958f8e3780eff74136cd89f39f", func := "ostinato/ostinatolaw2.StuffBack", spec := "stuffBack", apart := false, narrowed := true }
def StuffBackUptoSaid : Prop := stuffBackUptoRow.holds Try.pinned (OpenSpec.upto stuffBackSpec)

/-- 'ostinatolaw2.StuffWorst', WHERE WHAT IT READS IS OF BULK AT MOST 1048576: true; the input reads as it did. -/
def stuffWorstUptoRow : OpenClaim := { program := "ytcgpnnmceijmjaa", sum := "e21833b1e2eb8dfefc821da770109a3ff5427e958f8e3780eff74136cd89f39f", func := "ostinato/ostinatolaw2.StuffWorst", spec := "stuffWorst", apart := false, narrowed := true }
def StuffWorstUptoSaid : Prop := stuffWorstUptoRow.holds Try.pinned (OpenSpec.upto stuffWorstSpec)

/-- 'ostinatolaw2.StuffSix', WHERE WHAT IT READS IS OF BULK AT MOST 1048576: true; the input reads as it did. -/
def stuffSixUptoRow : OpenClaim := { program := "ytcgpnnmceijmjaa", sum := "e21833b1e2eb8dfefc821da770109a3ff5427e958f8e3780eff74136cd89f39f", func := "ostinato/ostinatolaw2.StuffSix", spec := "stuffSix", apart := false, narrowed := true }
def StuffSixUptoSaid : Prop := stuffSixUptoRow.holds Try.pinned (OpenSpec.upto stuffSixSpec)

/-- 'ostinatolaw2.StuffJoin', WHERE WHAT IT READS IS OF BULK AT MOST 1048576: true; the input reads as it did. -/
def stuffJoinUptoRow : OpenClaim := { program := "ytcgpnnmceijmjaa", sum := "e21833b1e2eb8dfefc821da770109a3ff5427e958f8e3780eff74136cd89f39f", func := "ostinato/ostinatolaw2.StuffJoin", spec := "stuffJoin", apart := false, narrowed := true }
def StuffJoinUptoSaid : Prop := stuffJoinUptoRow.holds Try.pinned (OpenSpec.upto stuffJoinSpec)

/-- 'ostinatolaw2.StuffOpposite', WHERE WHAT IT READS IS OF BULK AT MOST 1048576: true; the input reads as it did. -/
def stuffOppositeUptoRow : OpenClaim := { program := "ytcgpnnmceijmjaa", sum := "e21833b1e2eb8dfefc821da770109a3ff5427e958f8e3780eff74136cd89f39f", func := "ostinato/ostinatolaw2.StuffOpposite", spec := "stuffOpposite", apart := false, narrowed := true }
def StuffOppositeUptoSaid : Prop := stuffOppositeUptoRow.holds Try.pinned (OpenSpec.upto stuffOppositeSpec)

end Rows
end Go.Proofs.Ytcgpnnmceijmjaa
