/- A text's byte at a place that is within it. -/
import Derived.Test.YtfnbkehabadpmabDoorCv
namespace Go.Proofs.YtfnbkehabadpmabDoor
theorem run_idx {P : Program} (t : TypeId) (h : P.underlying t = some .string) (s : ByteArray) (i : Nat) (x : Int) (hx : x = (i : Int)) (hlt : i < s.size) (W : World) :
    (Instr.index t (.string s) (.int .i64 x)).run P W = .ok (.int .u8 (s[i].toNat : Int)) W := by
  subst hx
  rw [run_index_string (P := P) W t s .i64 (i : Int) h, dif_pos ⟨by omega, by omega⟩]
  simp
end Go.Proofs.YtfnbkehabadpmabDoor
