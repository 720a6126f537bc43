/- What the document's own Bit and Of answer, over their text. -/
import Derived.Test.YthappkhiiopfgaaDoorU2
import Derived.Test.YthappkhiiopfgaaDoorU1
namespace Go.Proofs.YthappkhiiopfgaaDoor
open Go.RowKit
end Go.Proofs.YthappkhiiopfgaaDoor
