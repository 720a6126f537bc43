/- Package code's Acked, as the laws over package mac lean on it. -/
import Derived.Test.YthappkhiiopfgaaDoorMk
import Derived.Test.YthappkhiiopfgaaDoorZ6
namespace Go.Proofs.YthappkhiiopfgaaDoor
open Go.RowKit
theorem ackSpec : AckSpec := fun f w hT hn => cAck_any f.1 f.2.1 f.2.2.1 ⟨f.2.2.2.toArray⟩ w hT hn
end Go.Proofs.YthappkhiiopfgaaDoor
