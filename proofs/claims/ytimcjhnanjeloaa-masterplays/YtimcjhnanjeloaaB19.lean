/- Layer 19: law 19's own known. -/
import Derived.Test.YtimcjhnanjeloaaA19
import Derived.ProofKit
import Derived.OpenShut
import Derived.Deep.CutBlock
namespace Go.Proofs.Ytimcjhnanjeloaa
open Go.RowKit Go.WideShapes
set_option linter.unusedVariables false
end Go.Proofs.Ytimcjhnanjeloaa
