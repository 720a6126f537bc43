/- What And of package bits answers, over the program's own text. -/
import Derived.Test.YtloafndmfeopgabW4
namespace Go.Proofs.Ytloafndmfeopgab
open Go.RowKit
set_option maxRecDepth 100000 in
set_option maxHeartbeats 1000000 in
theorem and_any (s t : ByteArray) (w : World) (hs : s.size ≤ 1048576) :
    Calls Try.prog 10 #[.string s, .string t] w fun e w' => e = .returned (.string ⟨(Bm.row (Bm.both (Bm.read s.data.toList) (Bm.read t.data.toList))).toArray⟩) ∧ Below w.heap.size w w' := by
  obtain ⟨m, hm⟩ : ∃ m, m = min s.size t.size := ⟨_, rfl⟩
  have hms : m ≤ s.size := by omega
  have hmt : m ≤ t.size := by omega
  have HM : Hid (m = min s.size t.size) := hm
  have hmi : min (s.size : Int) (t.size : Int) = (m : Int) := by omega
  clear hm
  have hmk := fun W => Lw.run_makeBytes (P := Try.prog) 37 5 Try.underlying37 Try.infoU8 (m : Int) m rfl (by omega) W
  go_enter Try.func10, Try.ntmps10
  go_wp2
  go_loopw [15] (fun i wr => ∃ k : Nat, k ≤ m ∧ i = .int .i64 k ∧ Hid (wr.heap[w.heap.size]? = some (.cells (Bm.fillV (Bm.row (Bm.both (Bm.read (s.data.toList.take k)) (Bm.read (t.data.toList.take k)))) m).toArray 5 (0, 0))) ∧ Below w.heap.size w wr)
    (fun i _ => m - (intOf i).toNat)
  case atStart => exact ⟨0, Nat.zero_le _, rfl, heap_alloc_new _ _, (Below.refl _ _).alloc (Nat.le_refl _) _⟩
  case round =>
    obtain ⟨k, hk, rfl, HG, hb⟩ := hrel
    by_cases hlt : k < m
    · have hks : k < s.size := by omega
      have hkt : k < t.size := by omega
      have hlen := Bm.length_both_take s t k (by omega) (by omega)
      have hcell : wr.cell? ⟨w.heap.size, k, none⟩ = some (.int .u8 0) := by
        rw [cell_of_row _ _ _ _ _ _ HG.out]
        have h := Bm.fillV_get (Bm.row (Bm.both (Bm.read (s.data.toList.take k)) (Bm.read (t.data.toList.take k)))) m (by omega)
        rw [hlen] at h
        simpa using h
      have hfz : wr.frozen? ⟨w.heap.size, k, none⟩ = false := frozen_of_row _ _ _ _ _ HG.out
      have HSet : Hid ((wr.setCell ⟨w.heap.size, k, none⟩ (.int .u8 (IntKind.u8.wrap (48 + bits .and .u8 (Bm.bitI (s[k].toNat : Int)) (Bm.bitI (t[k].toNat : Int)))))).heap[w.heap.size]? = some (.cells (Bm.fillV (Bm.row (Bm.both (Bm.read (s.data.toList.take (k + 1))) (Bm.read (t.data.toList.take (k + 1))))) m).toArray 5 (0, 0))) := by
        show _ = _
        rw [heap_setCell_same _ _ _ _ _ _ HG.out, Bm.both_take_succ s t k hks hkt, ← Bm.fillV_set _ _ _ (by omega), hlen, Bm.and_wrap]
      have hbs : Below w.heap.size w (wr.setCell ⟨w.heap.size, k, none⟩ (.int .u8 (IntKind.u8.wrap (48 + bits .and .u8 (Bm.bitI (s[k].toNat : Int)) (Bm.bitI (t[k].toNat : Int)))))) := hb.setCell (Nat.le_refl _) _
      clear hlen hmk hmi HG
      go_wp2_with fail
      go_region_with (go_at_call 15; refine (bit_any _ _).mono ?_; rintro e w' ⟨rfl, rfl⟩)
      all_goals
        clear hcell hfz
        go_wp2
        go_roundw
        case rel => exact ⟨k + 1, by omega, by go_num, HSet, hbs.drew⟩
        case measure => simp [intOf]; omega
    · obtain rfl : k = m := by omega
      have HG' : Hid (wr.heap[w.heap.size]? = some (.cells (Bm.cellsOf (Bm.row (Bm.both (Bm.read s.data.toList) (Bm.read t.data.toList)))).toArray 5 (0, 0))) := by
        show _ = _
        rw [HG.out, Bm.fillV_full _ _ (Bm.length_both_take s t k (by omega) (by omega)), HM.out, Bm.both_take_all]
      have HLt : Hid ((Bm.row (Bm.both (Bm.read s.data.toList) (Bm.read t.data.toList))).length = k) := by
        show _ = _
        rw [← Bm.both_take_all, ← HM.out, Bm.length_both_take s t k (by omega) (by omega)]
      clear HG hmk
      have hconv := Lw.run_conv_row (P := Try.prog) HG'.out 37 5 9 Try.underlying37 Try.underlying5 Try.underlying9 0 k k (by rw [HLt.out]; omega) (Bm.row (Bm.both (Bm.read s.data.toList) (Bm.read t.data.toList))) (by rw [List.drop_zero, List.take_of_length_le (by rw [HLt.out]; omega)])
      go_wp2
      go_ret
      exact ⟨rfl, hb⟩
end Go.Proofs.Ytloafndmfeopgab
