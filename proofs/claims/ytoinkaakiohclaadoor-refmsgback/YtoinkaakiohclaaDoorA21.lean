/- Layer 21: what package refmsg is said to do. -/
import Derived.Test.YtoinkaakiohclaaDoorOb
import Derived.Test.YtoinkaakiohclaaDoorQ21
import Derived.Test.YtoinkaakiohclaaDoorMo
import Derived.Test.YtoinkaakiohclaaDoorB1
namespace Go.Proofs.YtoinkaakiohclaaDoor
open Go.RowKit Go.WideShapes
set_option linter.unusedVariables false
def bV (o : Option (Nat × ByteArray)) : Value := match o with
  | some (id, d) => .tuple #[.agg #[.bool false, .int .u32 (id : Int), .bool false, .string d], .bool true]
  | none => .tuple #[.agg #[.bool false, .int .u32 0, .bool false, .string ByteArray.empty], .bool false]
def btV (o : Option Q21.Bt) : Value := match o with
  | some b => .tuple #[.agg #[.int .i64 b.rank, .int .i64 b.cycle, .int .u16 (b.glob : Int), .bool b.disc], .bool true]
  | none => .tuple #[.agg #[.int .i64 0, .int .i64 0, .int .u16 0, .bool false], .bool false]
/-- Q: what worlds must keep. -/
structure RefSpec (Q : World → Prop) : Prop where
  build : ∀ (w : World) (m : Mx.M) (a : Ma) (rank cycle : Int) (g : Nat) (d : Bool), Q w → MIn w m a → Mx.Small m → Mx.Wf m → (Lit.int .i64 rank).wf = true → (Lit.int .i64 cycle).wf = true → g < 65536 → Ob.Looks Tryd.prog 9 #[mV m a, .int .i64 rank, .int .i64 cycle, .int .u16 (g : Int), .bool d] w (bV (Q21.build m rank cycle g d))
  parse : ∀ (w : World) (m : Mx.M) (a : Ma) (x : Bool) (n : Nat) (r : Bool) (d : ByteArray), Q w → MIn w m a → Mx.Small m → Mx.Wf m → n < 4294967296 → d.size ≤ 1000 → Ob.Looks Tryd.prog 11 #[mV m a, .agg #[.bool x, .int .u32 (n : Int), .bool r, .string d]] w (btV (Q21.parse m x n r d))
end Go.Proofs.YtoinkaakiohclaaDoor
