/- Law 7's own 'known' over package mac. -/
import Derived.Test.YthkaekpoicodeaaGreatDoorM4
import Derived.Test.YthkaekpoicodeaaGreatDoorYd
import Derived.Test.YthkaekpoicodeaaGreatDoorU2
import Derived.Test.YthkaekpoicodeaaGreatDoorGi
namespace Go.Proofs.YthkaekpoicodeaaGreatDoor
open Go.RowKit
set_option linter.unusedVariables false
variable {At : World → Nat → (Nat → Prop) → Mm.St → Prop}
def kf : Cm.Fr := (false, 1365, false, [])
theorem idx_row (bs : List Bool) (i : Nat) (hi : i < bs.length) (W : World) : (Instr.index 9 (.string ⟨(Bm.row bs).toArray⟩) (.int .i64 (i : Int))).run Tryz.prog W = .ok (.int .u8 ((Bm.sign (bs.getD i true)).toNat : Int)) W := by
  have hz : i < (ByteArray.mk (Bm.row bs).toArray).size := by show i < (Bm.row bs).toArray.size; simpa [Bm.row] using hi
  rw [run_idx 9 Tryz.underlying9 _ i _ rfl hz W]
  have e : (ByteArray.mk (Bm.row bs).toArray)[i]'hz = Bm.sign (bs.getD i true) := by
    show (Bm.row bs).toArray[i]'hz = _
    simp [Bm.row, List.getD_eq_getElem?_getD, List.getElem?_eq_getElem hi]
  rw [e]
theorem Lies.kept {w w' : World} {P : Nat → Prop} {g : Nat} {x : Bool} {n : Nat} {r : Bool} {d : ByteArray} (h : Lies w g x n r d) (hk : Kept P w w') (hp : ¬ P g) : Lies w' g x n r d := (hk.block g h.lt hp).trans h
end Go.Proofs.YthkaekpoicodeaaGreatDoor
