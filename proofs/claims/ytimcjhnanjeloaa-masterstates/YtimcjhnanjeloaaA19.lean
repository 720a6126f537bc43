/- Layer 19: what package status is said to do, whatever it is made of. -/
import Derived.Test.YtimcjhnanjeloaaOq
import Derived.Test.YtimcjhnanjeloaaQ19
import Derived.WalkKit
import Derived.WalkArith
import Derived.WalkSpells
import Derived.Laws.CopyOwn
namespace Go.Proofs.Ytimcjhnanjeloaa
open Go.RowKit
set_option linter.unusedVariables false
def sL (l : List Nat) : List Value := l.map (fun (x : Nat) => .int .i64 (x : Int))
theorem wf19 {x : Int} (h : -9223372036854775808 ≤ x ∧ x ≤ 9223372036854775807) : (Lit.int .i64 x).wf = true := WalkArith.wf_i64 ⟨h.1, by omega⟩
end Go.Proofs.Ytimcjhnanjeloaa
