/- What Turn and Bytes of package bits answers, over the program's own text. -/
import Derived.Test.YtloafndmfeopgabW3
import Derived.Test.YtloafndmfeopgabBm2
namespace Go.Proofs.Ytloafndmfeopgab
open Go.RowKit
theorem Try.infoU8 : (Try.prog.info? 5).map (fun i => (i.zero, i.size, i.bytes)) = some (some (.int .u8 0), 1, 1) := by kernel_rfl
set_option maxRecDepth 100000 in
set_option maxHeartbeats 1000000 in
theorem turn_any (s : ByteArray) (p : Int) (w : World) (hs : s.size ≤ 1048576) :
    Calls Try.prog 12 #[.string s, .int .i64 p] w fun e w' => e = .returned (.string ⟨(Bm.row (Bm.turn (Bm.read s.data.toList) p)).toArray⟩) ∧ Below w.heap.size w w' := by
  have hmk := fun W => Lw.run_makeBytes (P := Try.prog) 37 5 Try.underlying37 Try.infoU8 (s.size : Int) s.size rfl (by omega) W
  go_enter Try.func12, Try.ntmps12
  go_wp2
  go_loopw [12] (fun i wr => ∃ k : Nat, k ≤ s.size ∧ i = .int .i64 k ∧ Hid (wr.heap[w.heap.size]? = some (.cells (Bm.fillV (Bm.row (Bm.read (s.data.toList.take k))) s.size).toArray 5 (0, 0))) ∧ Below w.heap.size w wr)
    (fun i _ => s.size - (intOf i).toNat)
  case atStart => exact ⟨0, Nat.zero_le _, rfl, heap_alloc_new _ _, (Below.refl _ _).alloc (Nat.le_refl _) _⟩
  case round =>
    obtain ⟨k, hk, rfl, HG, hb⟩ := hrel
    by_cases hlt : k < s.size
    · have h0 := Bm.bitI_ge (s[k].toNat : Int)
      have h1 := Bm.bitI_le (s[k].toNat : Int)
      have hlen := Bm.length_rr_take s k hk
      have hcell : wr.cell? ⟨w.heap.size, k, none⟩ = some (.int .u8 0) := by
        rw [cell_of_row _ _ _ _ _ _ HG.out]
        have h := Bm.fillV_get (Bm.row (Bm.read (s.data.toList.take k))) s.size (by omega)
        rw [hlen] at h
        simpa using h
      have hfz : wr.frozen? ⟨w.heap.size, k, none⟩ = false := frozen_of_row _ _ _ _ _ HG.out
      have HSet : Hid ((wr.setCell ⟨w.heap.size, k, none⟩ (.int .u8 (48 + Bm.bitI (s[k].toNat : Int)))).heap[w.heap.size]? = some (.cells (Bm.fillV (Bm.row (Bm.read (s.data.toList.take (k + 1)))) s.size).toArray 5 (0, 0))) := by
        show _ = _
        rw [heap_setCell_same _ _ _ _ _ _ HG.out, Bm.row_read_take_succ s k hlt, ← Bm.fillV_set _ _ _ (by omega), hlen, Bm.sign_bit]
      have hbs : Below w.heap.size w (wr.setCell ⟨w.heap.size, k, none⟩ (.int .u8 (48 + Bm.bitI (s[k].toNat : Int)))) := hb.setCell (Nat.le_refl _) _
      clear hlen HG hmk
      go_wp2_with (go_at_call 15; refine (bit_any _ _).mono ?_; rintro e w' ⟨rfl, rfl⟩)
      go_roundw
      case rel => exact ⟨k + 1, by omega, by go_num, HSet, hbs⟩
      case measure => simp [intOf]; omega
    · have HR : Hid (Bm.fillV (Bm.row (Bm.read (s.data.toList.take k))) s.size = Bm.cellsOf (Bm.row (Bm.read s.data.toList))) := by
        show _ = _
        rw [Bm.take_all s k (by omega), Bm.fillV_full]
        simp [Bm.length_row, Bm.length_read]
      have HG' : Hid (wr.heap[w.heap.size]? = some (.cells (Bm.cellsOf (Bm.row (Bm.read s.data.toList))).toArray 5 (0, 0))) := by
        show _ = _
        rw [HG.out, HR.out]
      have hlb : (Bm.read s.data.toList).length = s.size := by simp [Bm.length_read]
      have HLt : Hid ((Bm.row (Bm.turn (Bm.read s.data.toList) p)).length = s.size) := by
        show _ = _
        rw [Bm.length_row, Bm.length_turn, hlb]
      clear HG HR hmk
      by_cases hA : p < 0
      · have HT : Hid (Bm.turn (Bm.read s.data.toList) p = Bm.read s.data.toList) := Bm.turn_low _ _ hA
        have hconv := Lw.run_conv_row (P := Try.prog) HG'.out 37 5 9 Try.underlying37 Try.underlying5 Try.underlying9 0 s.size s.size (by rw [Bm.length_row, hlb]; omega) (Bm.row (Bm.turn (Bm.read s.data.toList) p)) (by rw [HT.out, List.drop_zero, List.take_of_length_le (by rw [Bm.length_row, hlb]; omega)])
        have hg : decide (0 ≤ p) = false := by simp; omega
        clear HT hlb HLt
        go_wp2
        go_ret
        exact ⟨rfl, hb⟩
      · have hg : decide (0 ≤ p) = true := by simp; omega
        by_cases hB : (s.size : Int) ≤ p
        · have HT : Hid (Bm.turn (Bm.read s.data.toList) p = Bm.read s.data.toList) := Bm.turn_high _ _ (by omega)
          have hconv := Lw.run_conv_row (P := Try.prog) HG'.out 37 5 9 Try.underlying37 Try.underlying5 Try.underlying9 0 s.size s.size (by rw [Bm.length_row, hlb]; omega) (Bm.row (Bm.turn (Bm.read s.data.toList) p)) (by rw [HT.out, List.drop_zero, List.take_of_length_le (by rw [Bm.length_row, hlb]; omega)])
          have hg2 : decide (p < (s.size : Int)) = false := by simp; omega
          clear HT hlb HLt
          go_wp2
          go_ret
          exact ⟨rfl, hb⟩
        · obtain ⟨q, rfl⟩ := Int.eq_ofNat_of_zero_le (show 0 ≤ p by omega)
          have hq : q < (Bm.read s.data.toList).length := by omega
          have hcell : wr.cell? ⟨w.heap.size, q, none⟩ = some (.int .u8 ((Bm.sign (Bm.read s.data.toList)[q]).toNat : Int)) := by
            rw [cell_of_row _ _ _ _ _ _ HG'.out]
            exact Bm.get_cells_row _ _ hq
          have hfz : wr.frozen? ⟨w.heap.size, q, none⟩ = false := frozen_of_row _ _ _ _ _ HG'.out
          have HSet : Hid ((wr.setCell ⟨w.heap.size, q, none⟩ (.int .u8 (bits .xor .u8 ((Bm.sign (Bm.read s.data.toList)[q]).toNat : Int) 1))).heap[w.heap.size]? = some (.cells (Bm.cellsOf (Bm.row (Bm.turn (Bm.read s.data.toList) q))).toArray 5 (0, 0))) := by
            show _ = _
            rw [heap_setCell_same _ _ _ _ _ _ HG'.out, Bm.set_turn _ _ hq]
          have hbs : Below w.heap.size w (wr.setCell ⟨w.heap.size, q, none⟩ (.int .u8 (bits .xor .u8 ((Bm.sign (Bm.read s.data.toList)[q]).toNat : Int) 1))) := hb.setCell (Nat.le_refl _) _
          have hconv := Lw.run_conv_row (P := Try.prog) HSet.out 37 5 9 Try.underlying37 Try.underlying5 Try.underlying9 0 s.size s.size (by rw [HLt.out]; omega) (Bm.row (Bm.turn (Bm.read s.data.toList) q)) (by rw [List.drop_zero, List.take_of_length_le (by rw [HLt.out]; omega)])
          generalize ((Bm.sign (Bm.read s.data.toList)[q]).toNat : Int) = c at *
          clear hlb HLt hq HSet HG' hb hg
          go_wp2
          go_ret
          exact ⟨rfl, hbs⟩
set_option maxRecDepth 100000 in
set_option maxHeartbeats 1000000 in
theorem bytes_any (s : ByteArray) (w : World) (hs : s.size ≤ 1048576) :
    Calls Try.prog 11 #[.string s] w fun e w' => e = .returned (.string ⟨(Bm.bytes (Bm.read s.data.toList)).toArray⟩) ∧ Below w.heap.size w w' := by
  have hmk := fun W => Lw.run_makeBytes (P := Try.prog) 37 5 Try.underlying37 Try.infoU8 ((s.size : Int) / 8) (s.size / 8) (by omega) (by omega) W
  go_enter Try.func11, Try.ntmps11
  go_wp2
  go_loopw [11] (fun i wr => ∃ k : Nat, k ≤ s.size / 8 ∧ i = .int .i64 k ∧ Hid (wr.heap[w.heap.size]? = some (.cells (Bm.fillV (Bm.bytesTo (Bm.read s.data.toList) k) (s.size / 8)).toArray 5 (0, 0))) ∧ Below w.heap.size w wr)
    (fun i _ => s.size - (intOf i).toNat)
  case atStart => exact ⟨0, Nat.zero_le _, rfl, heap_alloc_new _ _, (Below.refl _ _).alloc (Nat.le_refl _) _⟩
  case round =>
    obtain ⟨k, hk, rfl, HG, hb⟩ := hrel
    by_cases hlt : k < s.size / 8
    · have hlen := Bm.length_bytesTo (Bm.read s.data.toList) k
      have hcell : wr.cell? ⟨w.heap.size, k, none⟩ = some (.int .u8 0) := by
        rw [cell_of_row _ _ _ _ _ _ HG.out]
        have h := Bm.fillV_get (Bm.bytesTo (Bm.read s.data.toList) k) (s.size / 8) (by omega)
        rw [hlen] at h
        simpa using h
      have hfz : wr.frozen? ⟨w.heap.size, k, none⟩ = false := frozen_of_row _ _ _ _ _ HG.out
      have HSet : Hid ((wr.setCell ⟨w.heap.size, k, none⟩ (.int .u8 ((Bm.num (Bm.read ((s.data.toList.drop (8 * k)).take 8)) : Int) % 256))).heap[w.heap.size]? = some (.cells (Bm.fillV (Bm.bytesTo (Bm.read s.data.toList) (k + 1)) (s.size / 8)).toArray 5 (0, 0))) := by
        show _ = _
        rw [Bm.read_window, Bm.byteAt_val, heap_setCell_same _ _ _ _ _ _ HG.out, Bm.bytesTo_succ, ← Bm.fillV_set _ _ _ (by omega), hlen]
      have hbs : Below w.heap.size w (wr.setCell ⟨w.heap.size, k, none⟩ (.int .u8 ((Bm.num (Bm.read ((s.data.toList.drop (8 * k)).take 8)) : Int) % 256))) := hb.setCell (Nat.le_refl _) _
      have hex : (s.extract (8 * k) (8 * k + 8)).size ≤ maxLen := by
        unfold maxLen
        simp
        omega
      clear hlen HG hmk
      go_wp2_with (go_at_call 7; refine (num_any _ _ hex).mono ?_; rintro e w' ⟨rfl, rfl⟩)
      go_roundw
      case rel => exact ⟨k + 1, by omega, by go_num, HSet, hbs⟩
      case measure => simp [intOf]; omega
    · obtain rfl : k = s.size / 8 := by omega
      have hlb : (Bm.read s.data.toList).length = s.size := by simp [Bm.length_read]
      have HE : Hid (Bm.bytesTo (Bm.read s.data.toList) (s.size / 8) = Bm.bytes (Bm.read s.data.toList)) := by
        show _ = _
        unfold Bm.bytes
        rw [hlb]
      have HR : Hid (Bm.fillV (Bm.bytesTo (Bm.read s.data.toList) (s.size / 8)) (s.size / 8) = Bm.cellsOf (Bm.bytes (Bm.read s.data.toList))) := by
        show _ = _
        rw [Bm.fillV_full _ _ (Bm.length_bytesTo _ _), HE.out]
      have HG' : Hid (wr.heap[w.heap.size]? = some (.cells (Bm.cellsOf (Bm.bytes (Bm.read s.data.toList))).toArray 5 (0, 0))) := by
        show _ = _
        rw [HG.out, HR.out]
      have HLt : Hid ((Bm.bytes (Bm.read s.data.toList)).length = s.size / 8) := by
        show _ = _
        rw [← HE.out, Bm.length_bytesTo]
      clear HG HR hmk HE hlb
      have hconv := Lw.run_conv_row (P := Try.prog) HG'.out 37 5 9 Try.underlying37 Try.underlying5 Try.underlying9 0 (s.size / 8) (s.size / 8) (by rw [HLt.out]; omega) (Bm.bytes (Bm.read s.data.toList)) (by rw [List.drop_zero, List.take_of_length_le (by rw [HLt.out]; omega)])
      go_wp2
      go_ret
      exact ⟨rfl, hb⟩
end Go.Proofs.Ytloafndmfeopgab
