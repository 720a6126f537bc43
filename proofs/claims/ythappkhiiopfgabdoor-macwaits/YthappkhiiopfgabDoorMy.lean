/- Package code's Acked, as the laws over package mac lean on it. -/
import Derived.Test.YthappkhiiopfgabDoorMk
import Derived.Test.YthappkhiiopfgabDoorZ6
namespace Go.Proofs.YthappkhiiopfgabDoor
open Go.RowKit
theorem ackSpec : AckSpec := fun f w hT hn => cAck_any f.1 f.2.1 f.2.2.1 ⟨f.2.2.2.toArray⟩ w hT hn
end Go.Proofs.YthappkhiiopfgabDoor
