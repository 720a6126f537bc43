/- What package code's contracts share: the ten ones at a frame's end. -/
import Derived.Test.YthkaekpoicodeaaGreatDoorU2
namespace Go.Proofs.YthkaekpoicodeaaGreatDoor
open Go.RowKit
def tenOnes : ByteArray := ByteArray.mk #[49, 49, 49, 49, 49, 49, 49, 49, 49, 49]
theorem ten_at (i : Nat) (h : i < tenOnes.size) : tenOnes[i].toNat = 49 := by
  have h' : i < 10 := h
  match i, h' with
  | 0, _ | 1, _ | 2, _ | 3, _ | 4, _ | 5, _ | 6, _ | 7, _ | 8, _ | 9, _ => rfl
theorem calls_eq {f : FuncId} {args : Array Value} {w : World} {u v : Value} (h : u = v) (hc : Calls Tryz.prog f args w fun e w' => e = .returned u ∧ Below w.heap.size w w') : Calls Tryz.prog f args w fun e w' => e = .returned v ∧ Below w.heap.size w w' := h ▸ hc
end Go.Proofs.YthkaekpoicodeaaGreatDoor
