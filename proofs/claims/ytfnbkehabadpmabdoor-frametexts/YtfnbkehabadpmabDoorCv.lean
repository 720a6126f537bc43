/- What all walks share: endings, the world behind two calls, string(b) of a slice of bytes that the call itself made. -/
import Derived.Test.YtfnbkehabadpmabDoorRows
import Derived.Test.YtfnbkehabadpmabDoorBm
import Derived.Test.YtfnbkehabadpmabDoorLw
import Derived.WalkKit
import Derived.Lib.SlBytesRow
namespace Go.Proofs.YtfnbkehabadpmabDoor
open Go.RowKit
theorem ret_int {k : IntKind} {a b : Int} (h : a = b) : Ending.returned (.int k a) = .returned (.int k b) := by rw [h]
theorem ret_bool {a b : Bool} (h : a = b) : Ending.returned (.bool a) = .returned (.bool b) := by rw [h]
theorem ret_str {a b : List UInt8} (h : a = b) : Ending.returned (.string ⟨a.toArray⟩) = .returned (.string ⟨b.toArray⟩) := by rw [h]
theorem below_join {a b c : World} (h : Below a.heap.size a b) (k : Below b.heap.size b c) : Below a.heap.size a c := h.trans (k.mono h.size)
theorem Tryd.infoU8 : (Tryd.prog.info? 5).map (fun i => (i.zero, i.size, i.bytes)) = some (some (.int .u8 0), 1, 1) := by kernel_rfl
theorem size_str (l : List UInt8) : (ByteArray.mk l.toArray).size = l.length := by show l.toArray.size = _; simp
theorem conv_own {w : World} {base : Nat} {v : Value} {n : Nat} {l : List UInt8} (hown : w.ownsRow base 5 1 v n (Bm.cellsOf l)) :
    (convert 49 9 v).run Tryd.prog w = .ok (.string ⟨l.toArray⟩) w := by
  have hn : l.length = n := by
    have h := hown.1
    rw [Bm.length_cellsOf] at h
    omega
  rcases hown.2 with ⟨rfl, h0⟩ | ⟨g, cap, cur, rfl, _, hg, hnc, _, hcs, htake⟩
  · have e : l = [] := List.eq_nil_of_length_eq_zero (by omega)
    subst e
    exact run_convert_bytes_nil (P := Tryd.prog) w 49 5 Tryd.underlying49 Tryd.underlying5 0 0 9 Tryd.underlying9
  · have hc : Lib.Bytes w g 0 ⟨l.toArray⟩ := fun i hi => by
      have hi' : i < l.length := hi
      rw [Nat.zero_add, cell_of_row w g i cur _ (0, 0) hg]
      have h1 : (cur.toList.take (n * 1))[i]? = (Bm.cellsOf l)[i]? := by rw [htake]
      rw [List.getElem?_take_of_lt (by omega)] at h1
      have h2 : (Bm.cellsOf l)[i]? = some (Value.int .u8 (l[i].toNat : Int)) := by simp [Bm.cellsOf, hi']
      rw [h2] at h1
      rw [← Array.getElem?_toList, h1]
      rfl
    have h := Lib.run_convert_whole (P := Tryd.prog) w 49 5 9 Tryd.underlying49 Tryd.underlying5 Tryd.underlying9 g 0 ⟨l.toArray⟩ hc cap
    rw [show (ByteArray.mk l.toArray).size = n from by rw [← hn]; exact size_str l] at h
    exact h

end Go.Proofs.YtfnbkehabadpmabDoor
