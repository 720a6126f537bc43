/- Frames on the wire as package code answers them: the shapes that the laws ask. -/
import Derived.Test.YtoohmpkhljfpbaaDoorU1
namespace Go.Proofs.YtoohmpkhljfpbaaDoor
open Go.RowKit
/-- What Decode answers. -/
def cfv (p : Cm.Fr × Nat × Nat) : Value := .tuple #[.agg #[.bool p.1.1, .int .u32 p.1.2.1, .bool p.1.2.2.1, .string ⟨p.1.2.2.2.toArray⟩], .int .i64 p.2.1, .int .i64 p.2.2]
theorem ret_cfv {v u : Cm.Fr × Nat × Nat} (h : v = u) : Ending.returned (cfv v) = .returned (cfv u) := by rw [h]
def Cm.ack (x : Bool) (n : Nat) (r : Bool) (d : List UInt8) : List Bool := if Fm.isF x n r d then Cm.ack0 x n r d else []
end Go.Proofs.YtoohmpkhljfpbaaDoor
