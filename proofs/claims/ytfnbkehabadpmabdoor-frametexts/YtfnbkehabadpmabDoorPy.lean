/- What Bytes of package bits answers, over the program's own text. -/
import Derived.Test.YtfnbkehabadpmabDoorRows
import Derived.Test.YtfnbkehabadpmabDoorBm2
import Derived.Test.YtfnbkehabadpmabDoorCv
import Derived.Test.YtfnbkehabadpmabDoorLw
import Derived.Test.YtfnbkehabadpmabDoorPn
import Derived.WalkKit
import Derived.WalkSpells
import Derived.WalkLawsBesides
import Derived.Handy
namespace Go.Proofs.YtfnbkehabadpmabDoor
open Go.RowKit
set_option maxRecDepth 100000 in
set_option maxHeartbeats 1000000 in
theorem bytes_any (s : ByteArray) (w : World) (hs : s.size ≤ 1048576) :
    Calls Tryd.prog 22 #[.string s] w fun e w' => e = .returned (.string ⟨(Bm.bytes (Bm.read s.data.toList)).toArray⟩) ∧ Below w.heap.size w w' := by
  have hmk := fun W => Lw.run_makeBytes (P := Tryd.prog) 49 5 Tryd.underlying49 Tryd.infoU8 ((s.size : Int) / 8) (s.size / 8) (by omega) (by omega) W
  go_enter Tryd.func22, Tryd.ntmps22
  go_wp2
  go_loopw [11] (fun i wr => ∃ k : Nat, k ≤ s.size / 8 ∧ i = .int .i64 k ∧ Hid (wr.heap[w.heap.size]? = some (.cells (Bm.fillV (Bm.bytesTo (Bm.read s.data.toList) k) (s.size / 8)).toArray 5 (0, 0))) ∧ Below w.heap.size w wr)
    (fun i _ => s.size - (intOf i).toNat)
  case atStart => exact ⟨0, Nat.zero_le _, rfl, heap_alloc_new _ _, (Below.refl _ _).alloc (Nat.le_refl _) _⟩
  case round =>
    obtain ⟨k, hk, rfl, HG, hb⟩ := hrel
    by_cases hlt : k < s.size / 8
    · have hlen := Bm.length_bytesTo (Bm.read s.data.toList) k
      have hcell : wr.cell? ⟨w.heap.size, k, none⟩ = some (.int .u8 0) := by
        rw [cell_of_row _ _ _ _ _ _ HG.out]
        have h := Bm.fillV_get (Bm.bytesTo (Bm.read s.data.toList) k) (s.size / 8) (by omega)
        rw [hlen] at h
        simpa using h
      have hfz : wr.frozen? ⟨w.heap.size, k, none⟩ = false := frozen_of_row _ _ _ _ _ HG.out
      have HSet : Hid ((wr.setCell ⟨w.heap.size, k, none⟩ (.int .u8 ((Bm.num (Bm.read ((s.data.toList.drop (8 * k)).take 8)) : Int) % 256))).heap[w.heap.size]? = some (.cells (Bm.fillV (Bm.bytesTo (Bm.read s.data.toList) (k + 1)) (s.size / 8)).toArray 5 (0, 0))) := by
        show _ = _
        rw [Bm.read_window, Bm.byteAt_val, heap_setCell_same _ _ _ _ _ _ HG.out, Bm.bytesTo_succ, ← Bm.fillV_set _ _ _ (by omega), hlen]
      have hbs : Below w.heap.size w (wr.setCell ⟨w.heap.size, k, none⟩ (.int .u8 ((Bm.num (Bm.read ((s.data.toList.drop (8 * k)).take 8)) : Int) % 256))) := hb.setCell (Nat.le_refl _) _
      have hex : (s.extract (8 * k) (8 * k + 8)).size ≤ maxLen := by
        unfold maxLen
        simp
        omega
      clear hlen HG hmk
      go_wp2_with (go_at_call 28; refine (num_any _ _ hex).mono ?_; rintro e w' ⟨rfl, rfl⟩)
      go_roundw
      case rel => exact ⟨k + 1, by omega, by go_num, HSet, hbs⟩
      case measure => simp [intOf]; omega
    · obtain rfl : k = s.size / 8 := by omega
      have hlb : (Bm.read s.data.toList).length = s.size := by simp [Bm.length_read]
      have HE : Hid (Bm.bytesTo (Bm.read s.data.toList) (s.size / 8) = Bm.bytes (Bm.read s.data.toList)) := by
        show _ = _
        unfold Bm.bytes
        rw [hlb]
      have HR : Hid (Bm.fillV (Bm.bytesTo (Bm.read s.data.toList) (s.size / 8)) (s.size / 8) = Bm.cellsOf (Bm.bytes (Bm.read s.data.toList))) := by
        show _ = _
        rw [Bm.fillV_full _ _ (Bm.length_bytesTo _ _), HE.out]
      have HG' : Hid (wr.heap[w.heap.size]? = some (.cells (Bm.cellsOf (Bm.bytes (Bm.read s.data.toList))).toArray 5 (0, 0))) := by
        show _ = _
        rw [HG.out, HR.out]
      have HLt : Hid ((Bm.bytes (Bm.read s.data.toList)).length = s.size / 8) := by
        show _ = _
        rw [← HE.out, Bm.length_bytesTo]
      clear HG HR hmk HE hlb
      have hconv := Lw.run_conv_row (P := Tryd.prog) HG'.out 49 5 9 Tryd.underlying49 Tryd.underlying5 Tryd.underlying9 0 (s.size / 8) (s.size / 8) (by rw [HLt.out]; omega) (Bm.bytes (Bm.read s.data.toList)) (by rw [List.drop_zero, List.take_of_length_le (by rw [HLt.out]; omega)])
      go_wp2
      go_ret
      exact ⟨rfl, hb⟩
end Go.Proofs.YtfnbkehabadpmabDoor
