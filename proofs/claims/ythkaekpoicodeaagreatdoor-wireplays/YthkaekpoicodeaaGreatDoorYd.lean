/- Frames on the wire as package code answers them: the shapes that the laws ask. -/
import Derived.Test.YthkaekpoicodeaaGreatDoorU1
namespace Go.Proofs.YthkaekpoicodeaaGreatDoor
open Go.RowKit
/-- What Decode answers. -/
def cfv (p : Cm.Fr × Nat × Nat) : Value := .tuple #[.agg #[.bool p.1.1, .int .u32 p.1.2.1, .bool p.1.2.2.1, .string ⟨p.1.2.2.2.toArray⟩], .int .i64 p.2.1, .int .i64 p.2.2]
def Cm.ack (x : Bool) (n : Nat) (r : Bool) (d : List UInt8) : List Bool := if Fm.isF x n r d then Cm.ack0 x n r d else []
end Go.Proofs.YthkaekpoicodeaaGreatDoor
