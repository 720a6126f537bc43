/- Law 7's own 'known' over package mac. -/
import Derived.Test.YtoohmpkhljfpbaaDoorM4
import Derived.Test.YtoohmpkhljfpbaaDoorYd
import Derived.Test.YtoohmpkhljfpbaaDoorU2
import Derived.Test.YtoohmpkhljfpbaaDoorGi
namespace Go.Proofs.YtoohmpkhljfpbaaDoor
open Go.RowKit
set_option linter.unusedVariables false
variable {At : World → Nat → (Nat → Prop) → Mm.St → Prop}
def kf : Cm.Fr := (false, 1365, false, [])
theorem kf_is : Mm.isFr kf = true := by decide
/-- What Acked answers, of a frame. -/
theorem ack_row (f : Cm.Fr) (hf : Mm.isFr f = true) : Cm.ack f.1 f.2.1 f.2.2.1 f.2.2.2 = Mm.ackB f := by
  unfold Cm.ack
  have : Fm.isF f.1 f.2.1 f.2.2.1 f.2.2.2 = true := hf
  rw [this]
  rfl
/-- The text's byte at a place, as a bit. -/
theorem bit_byte (b : Bool) : ((Bm.sign b) != 48) = b := by cases b <;> rfl
theorem idx_row (bs : List Bool) (i : Nat) (hi : i < bs.length) (W : World) : (Instr.index 9 (.string ⟨(Bm.row bs).toArray⟩) (.int .i64 (i : Int))).run Tryd.prog W = .ok (.int .u8 ((Bm.sign (bs.getD i true)).toNat : Int)) W := by
  have hz : i < (ByteArray.mk (Bm.row bs).toArray).size := by show i < (Bm.row bs).toArray.size; simpa [Bm.row] using hi
  rw [run_idx 9 Tryd.underlying9 _ i _ rfl hz W]
  have e : (ByteArray.mk (Bm.row bs).toArray)[i]'hz = Bm.sign (bs.getD i true) := by
    show (Bm.row bs).toArray[i]'hz = _
    simp [Bm.row, List.getD_eq_getElem?_getD, List.getElem?_eq_getElem hi]
  rw [e]
theorem Lies.kept {w w' : World} {P : Nat → Prop} {g : Nat} {x : Bool} {n : Nat} {r : Bool} {d : ByteArray} (h : Lies w g x n r d) (hk : Kept P w w') (hp : ¬ P g) : Lies w' g x n r d := (hk.block g h.lt hp).trans h
end Go.Proofs.YtoohmpkhljfpbaaDoor
