/-
  No cell of these rows narrows 'for every input' (looked for: loops, veiled, ifaces, maps, wideKeys, modest, calm, conditions, laid).
  DERIVED. THE GIVEN ROWS OF THIS SEAT. 4 by the template 'for every input the law returns true; each argument reads behind the call as it read before'; 0 by the template 'total and deterministic' (their statements: YtdkecdlgiomloaaTotals.lean).
  GIVEN WITH THE SEED: the statements are not yours to turn. If you find one false, say at which input.
  Laid BY PROGRAM, IN A SANDBOX (cutbox-rows.mjs): the forced cells as the released guide's own fill.sh prints them over the translation f84f1d63ffa4a08e… (all of the seat's roots in one cut). By AI agents, Wed Nov 11 2026. No macro, syntax, notation, axiom, sorry.
-/
import Derived.Test.YtdkecdlgiomloaaChecked
import GoSem.Claim
import GoSem.ClaimJoined
import GoSem.ClaimMapViews
import Derived.JoinedTies
import Derived.KernelRfl
namespace Go.Proofs.Ytdkecdlgiomloaa
/- THE CELL 'sum', in the pinned program and in every row, IS THE sha256 OF THE DUMP (.gsa) THAT YtdkecdlgiomloaaProg.lean LOADS. Nothing in Lean hashes anything: it is a label: what it is worth is what the hold of that sum in a sandbox is worth. -/
noncomputable def Try.pinned : Pinned := { name := "ytdkecdlgiomloaa", sum := "f84f1d63ffa4a08e02d9ed4c46015f3601344039e79c1e10a0aceec45c1cd04b", checked := Try.checked }
namespace Rows
def none {H : Type} : Left H := { results := [], args := [] }

/-- 'ostinatolaw19.StatusPlays': WHATEVER THE INPUT: true; the input reads as it did. -/
def statusPlaysSpec : ChangeSpec := { name := "statusPlays", fn := fun _ => fun
  | [d1, d2, d3] => { results := [.lit (.bool true)], args := [d1, d2, d3] }
  | _ => none }
def statusPlaysRow : OpenClaim := { program := "ytdkecdlgiomloaa", sum := "f84f1d63ffa4a08e02d9ed4c46015f3601344039e79c1e10a0aceec45c1cd04b", func := "ostinato/ostinatolaw19.StatusPlays", spec := "statusPlays", apart := false }
def StatusPlaysSaid : Prop := statusPlaysRow.holds Try.pinned (OpenSpec.ofChange statusPlaysSpec)

/-- ITS FALSE NEIGHBOUR: 'it returns false'. Refute it at one input. -/
def statusPlaysWrong : ChangeSpec := { name := "statusPlays", fn := fun _ => fun
  | [d1, d2, d3] => { results := [.lit (.bool false)], args := [d1, d2, d3] }
  | _ => none }
def StatusPlaysWrongFalsely : Prop := statusPlaysRow.holds Try.pinned (OpenSpec.ofChange statusPlaysWrong)

/-- 'ostinatolaw19.StatusBounds': WHATEVER THE INPUT: true; the input reads as it did. -/
def statusBoundsSpec : ChangeSpec := { name := "statusBounds", fn := fun _ => fun
  | [d1, d2, d3] => { results := [.lit (.bool true)], args := [d1, d2, d3] }
  | _ => none }
def statusBoundsRow : OpenClaim := { program := "ytdkecdlgiomloaa", sum := "f84f1d63ffa4a08e02d9ed4c46015f3601344039e79c1e10a0aceec45c1cd04b", func := "ostinato/ostinatolaw19.StatusBounds", spec := "statusBounds", apart := false }
def StatusBoundsSaid : Prop := statusBoundsRow.holds Try.pinned (OpenSpec.ofChange statusBoundsSpec)

/-- ITS FALSE NEIGHBOUR: 'it returns false'. Refute it at one input. -/
def statusBoundsWrong : ChangeSpec := { name := "statusBounds", fn := fun _ => fun
  | [d1, d2, d3] => { results := [.lit (.bool false)], args := [d1, d2, d3] }
  | _ => none }
def StatusBoundsWrongFalsely : Prop := statusBoundsRow.holds Try.pinned (OpenSpec.ofChange statusBoundsWrong)

/-- 'ostinatolaw19.StatusApart': WHATEVER THE INPUT: true; the input reads as it did. -/
def statusApartSpec : ChangeSpec := { name := "statusApart", fn := fun _ => fun
  | [d] => { results := [.lit (.bool true)], args := [d] }
  | _ => none }
def statusApartRow : OpenClaim := { program := "ytdkecdlgiomloaa", sum := "f84f1d63ffa4a08e02d9ed4c46015f3601344039e79c1e10a0aceec45c1cd04b", func := "ostinato/ostinatolaw19.StatusApart", spec := "statusApart", apart := false }
def StatusApartSaid : Prop := statusApartRow.holds Try.pinned (OpenSpec.ofChange statusApartSpec)

/-- ITS FALSE NEIGHBOUR: 'it returns false'. Refute it at one input. -/
def statusApartWrong : ChangeSpec := { name := "statusApart", fn := fun _ => fun
  | [d] => { results := [.lit (.bool false)], args := [d] }
  | _ => none }
def StatusApartWrongFalsely : Prop := statusApartRow.holds Try.pinned (OpenSpec.ofChange statusApartWrong)

/-- 'ostinatolaw19.StatusSizes': WHATEVER THE INPUT: true; the input reads as it did. -/
def statusSizesSpec : ChangeSpec := { name := "statusSizes", fn := fun _ => fun
  | [d] => { results := [.lit (.bool true)], args := [d] }
  | _ => none }
def statusSizesRow : OpenClaim := { program := "ytdkecdlgiomloaa", sum := "f84f1d63ffa4a08e02d9ed4c46015f3601344039e79c1e10a0aceec45c1cd04b", func := "ostinato/ostinatolaw19.StatusSizes", spec := "statusSizes", apart := false }
def StatusSizesSaid : Prop := statusSizesRow.holds Try.pinned (OpenSpec.ofChange statusSizesSpec)

/-- ITS FALSE NEIGHBOUR: 'it returns false'. Refute it at one input. -/
def statusSizesWrong : ChangeSpec := { name := "statusSizes", fn := fun _ => fun
  | [d] => { results := [.lit (.bool false)], args := [d] }
  | _ => none }
def StatusSizesWrongFalsely : Prop := statusSizesRow.holds Try.pinned (OpenSpec.ofChange statusSizesWrong)

/- THE SECOND FORM. 'bulk': how many values and letters a reading holds, each counted each time it is reached (what is shared counts as often as it is met; a slice's spare places count too). A statement '..UptoSaid' is the law's where the arguments, and the package variables that the reading takes, are together of bulk at most 1048576: NARROWER than '..Said'. Prove '..Said' where nothing that the law and all that it calls make is longer than what came in: it says more and counts as full. Else prove '..UptoSaid'. A law counts once. -/
mutual
def uptoBulk {H : Type} : DataW H → Nat
  | .lit (.string bytes) => bytes.length + 1
  | .lit _ => 1
  | .nil => 1
  | .ptr d => uptoBulk d + 1
  | .slice elems spare => uptoBulkAll elems + uptoBulkAll spare + 1
  | .agg parts => uptoBulkAll parts + 1
  | .iface _ d => uptoBulk d + 1
  | .map entries => uptoBulkEntries entries + 1
  | .held _ => 1
def uptoBulkAll {H : Type} : List (DataW H) → Nat
  | [] => 0
  | d :: r => uptoBulk d + uptoBulkAll r
def uptoBulkEntries {H : Type} : List (Lit × DataW H) → Nat
  | [] => 0
  | x :: r => uptoBulkEntry x + uptoBulkEntries r
def uptoBulkEntry {H : Type} : Lit × DataW H → Nat
  | (.string bytes, d) => bytes.length + uptoBulk d + 1
  | (_, d) => uptoBulk d + 1
 end
def uptoSmall : (H : Type) → List (DataW H) → Bool := fun _ ds => decide (uptoBulkAll ds ≤ 1048576)
def OpenSpec.upto (s : _root_.Go.ChangeSpec) : _root_.Go.OpenSpec := { _root_.Go.OpenSpec.ofChange s with cond := some uptoSmall }

/-- 'ostinatolaw19.StatusPlays', WHERE WHAT IT READS IS OF BULK AT MOST 1048576: true; the input reads as it did. -/
def statusPlaysUptoRow : OpenClaim := { program := "ytdkecdlgiomloaa", sum := "f84f1d63ffa4a08e02d9ed4c46015f3601344039e79c1e10a0aceec45c1cd04b", func := "ostinato/ostinatolaw19.StatusPlays", spec := "statusPlays", apart := false, narrowed := true }
def StatusPlaysUptoSaid : Prop := statusPlaysUptoRow.holds Try.pinned (OpenSpec.upto statusPlaysSpec)

/-- 'ostinatolaw19.StatusBounds', WHERE WHAT IT READS IS OF BULK AT MOST 1048576: true; the input reads as it did. -/
def statusBoundsUptoRow : OpenClaim := { program := "ytdkecdlgiomloaa", sum := "f84f1d63ffa4a08e02d9ed4c46015f3601344039e79c1e10a0aceec45c1cd04b", func := "ostinato/ostinatolaw19.StatusBounds", spec := "statusBounds", apart := false, narrowed := true }
def StatusBoundsUptoSaid : Prop := statusBoundsUptoRow.holds Try.pinned (OpenSpec.upto statusBoundsSpec)

/-- 'ostinatolaw19.StatusApart', WHERE WHAT IT READS IS OF BULK AT MOST 1048576: true; the input reads as it did. -/
def statusApartUptoRow : OpenClaim := { program := "ytdkecdlgiomloaa", sum := "f84f1d63ffa4a08e02d9ed4c46015f3601344039e79c1e10a0aceec45c1cd04b", func := "ostinato/ostinatolaw19.StatusApart", spec := "statusApart", apart := false, narrowed := true }
def StatusApartUptoSaid : Prop := statusApartUptoRow.holds Try.pinned (OpenSpec.upto statusApartSpec)

/-- 'ostinatolaw19.StatusSizes', WHERE WHAT IT READS IS OF BULK AT MOST 1048576: true; the input reads as it did. -/
def statusSizesUptoRow : OpenClaim := { program := "ytdkecdlgiomloaa", sum := "f84f1d63ffa4a08e02d9ed4c46015f3601344039e79c1e10a0aceec45c1cd04b", func := "ostinato/ostinatolaw19.StatusSizes", spec := "statusSizes", apart := false, narrowed := true }
def StatusSizesUptoSaid : Prop := statusSizesUptoRow.holds Try.pinned (OpenSpec.upto statusSizesSpec)

end Rows
end Go.Proofs.Ytdkecdlgiomloaa
