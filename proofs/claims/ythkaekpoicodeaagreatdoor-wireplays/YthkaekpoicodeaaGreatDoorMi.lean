/- Law 7's 'idle': a node that has seen four ones. -/
import Derived.Test.YthkaekpoicodeaaGreatDoorMk
namespace Go.Proofs.YthkaekpoicodeaaGreatDoor
open Go.RowKit
set_option linter.unusedVariables false
variable {At : World → Nat → (Nat → Prop) → Mm.St → Prop}
/-- A new node behind k ones. -/
def Mm.newS (k : Nat) : Mm.St := if 3 ≤ k then Mm.idS false Cm.noF [] false 0 0 else Mm.pz (3 - k) false Cm.noF [] false 0 0
end Go.Proofs.YthkaekpoicodeaaGreatDoor
