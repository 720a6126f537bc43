/- Integers that came in, as natural numbers. -/
import Derived.Test.YthkaekpoicodeaaGreatDoorU2
import Derived.OpenShut
namespace Go.Proofs.YthkaekpoicodeaaGreatDoor
end Go.Proofs.YthkaekpoicodeaaGreatDoor
