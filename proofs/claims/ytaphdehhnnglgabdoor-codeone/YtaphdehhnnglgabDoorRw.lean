/- Rows of bits as texts: their sizes, what is read of them, one more bit (never imported beside V3, V9: the same names). -/
import Derived.Test.YtaphdehhnnglgabDoorMb
import Derived.Test.YtaphdehhnnglgabDoorMa
namespace Go.Proofs.YtaphdehhnnglgabDoor
open Go.RowKit
theorem row_snoc (p : List Bool) (b : Bool) : ByteArray.mk (Bm.row p).toArray ++ ByteArray.mk #[Bm.sign b] = ByteArray.mk (Bm.row (p ++ [b])).toArray := by
  rw [show ByteArray.mk #[Bm.sign b] = ByteArray.mk (Bm.row [b]).toArray from rfl, Bm.str_app]
  simp [Bm.row]
theorem size_rowr (p : List Bool) : (ByteArray.mk (Bm.row p).toArray).size = p.length := by rw [size_str, Bm.length_row]
theorem read_mk (l : List Bool) : Bm.read (ByteArray.mk (Bm.row l).toArray).data.toList = l := Bm.read_row l
end Go.Proofs.YtaphdehhnnglgabDoor
