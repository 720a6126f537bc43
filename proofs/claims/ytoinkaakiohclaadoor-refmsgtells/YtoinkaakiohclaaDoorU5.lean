/- What the document's own Bit and Of answer, over their text. -/
import Derived.Test.YtoinkaakiohclaaDoorU2
import Derived.Test.YtoinkaakiohclaaDoorU1
namespace Go.Proofs.YtoinkaakiohclaaDoor
open Go.RowKit
end Go.Proofs.YtoinkaakiohclaaDoor
