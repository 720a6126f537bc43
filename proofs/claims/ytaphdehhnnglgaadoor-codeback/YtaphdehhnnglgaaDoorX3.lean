/- What And of package bits and signs, with, full, other of package stuff answer, over the program's own text. -/
import Derived.Test.YtaphdehhnnglgaaDoorRows
import Derived.Test.YtaphdehhnnglgaaDoorMa
import Derived.Test.YtaphdehhnnglgaaDoorMc
import Derived.Test.YtaphdehhnnglgaaDoorMb
import Derived.WalkKit
import Derived.WalkSpells
import Derived.WalkLawsBesides
import Derived.Handy
namespace Go.Proofs.YtaphdehhnnglgaaDoor
open Go.RowKit

set_option maxRecDepth 100000 in
set_option maxHeartbeats 1000000 in
theorem and_any (s t : ByteArray) (w : World) (hs : s.size ≤ 1048576) :
    Calls Tryd.prog 61 #[.string s, .string t] w fun e w' => e = .returned (.string ⟨(Bm.row (Bm.both (Bm.read s.data.toList) (Bm.read t.data.toList))).toArray⟩) ∧ Below w.heap.size w w' := by
  obtain ⟨m, hm⟩ : ∃ m, m = min s.size t.size := ⟨_, rfl⟩
  have hms : m ≤ s.size := by omega
  have hmt : m ≤ t.size := by omega
  have HM : Hid (m = min s.size t.size) := hm
  have hmi : min (s.size : Int) (t.size : Int) = (m : Int) := by omega
  clear hm
  have hmk := fun W => Lw.run_makeBytes (P := Tryd.prog) 47 5 Tryd.underlying47 Tryd.infoU8 (m : Int) m rfl (by omega) W
  go_enter Tryd.func61, Tryd.ntmps61
  go_wp2
  go_loopw [15] (fun i wr => ∃ k : Nat, k ≤ m ∧ i = .int .i64 k ∧ Hid (wr.heap[w.heap.size]? = some (.cells (Bm.fillV (Bm.row (Bm.both (Bm.read (s.data.toList.take k)) (Bm.read (t.data.toList.take k)))) m).toArray 5 (0, 0))) ∧ Below w.heap.size w wr)
    (fun i _ => m - (intOf i).toNat)
  case atStart => exact ⟨0, Nat.zero_le _, rfl, heap_alloc_new _ _, (Below.refl _ _).alloc (Nat.le_refl _) _⟩
  case round =>
    obtain ⟨k, hk, rfl, HG, hb⟩ := hrel
    by_cases hlt : k < m
    · have hks : k < s.size := by omega
      have hkt : k < t.size := by omega
      have hlen := Bm.length_both_take s t k (by omega) (by omega)
      have hcell : wr.cell? ⟨w.heap.size, k, none⟩ = some (.int .u8 0) := by
        rw [cell_of_row _ _ _ _ _ _ HG.out]
        have h := Bm.fillV_get (Bm.row (Bm.both (Bm.read (s.data.toList.take k)) (Bm.read (t.data.toList.take k)))) m (by omega)
        rw [hlen] at h
        simpa using h
      have hfz : wr.frozen? ⟨w.heap.size, k, none⟩ = false := frozen_of_row _ _ _ _ _ HG.out
      have HSet : Hid ((wr.setCell ⟨w.heap.size, k, none⟩ (.int .u8 (IntKind.u8.wrap (48 + bits .and .u8 (Bm.bitI (s[k].toNat : Int)) (Bm.bitI (t[k].toNat : Int)))))).heap[w.heap.size]? = some (.cells (Bm.fillV (Bm.row (Bm.both (Bm.read (s.data.toList.take (k + 1))) (Bm.read (t.data.toList.take (k + 1))))) m).toArray 5 (0, 0))) := by
        show _ = _
        rw [heap_setCell_same _ _ _ _ _ _ HG.out, Bm.both_take_succ s t k hks hkt, ← Bm.fillV_set _ _ _ (by omega), hlen, Bm.and_wrap]
      have hbs : Below w.heap.size w (wr.setCell ⟨w.heap.size, k, none⟩ (.int .u8 (IntKind.u8.wrap (48 + bits .and .u8 (Bm.bitI (s[k].toNat : Int)) (Bm.bitI (t[k].toNat : Int)))))) := hb.setCell (Nat.le_refl _) _
      clear hlen hmk hmi HG
      go_wp2_with fail
      go_region_with (go_at_call 48; refine (bit_any _ _).mono ?_; rintro e w' ⟨rfl, rfl⟩)
      all_goals
        clear hcell hfz
        go_wp2
        go_roundw
        case rel => exact ⟨k + 1, by omega, by go_num, HSet, hbs.drew⟩
        case measure => simp [intOf]; omega
    · obtain rfl : k = m := by omega
      have HG' : Hid (wr.heap[w.heap.size]? = some (.cells (Bm.cellsOf (Bm.row (Bm.both (Bm.read s.data.toList) (Bm.read t.data.toList)))).toArray 5 (0, 0))) := by
        show _ = _
        rw [HG.out, Bm.fillV_full _ _ (Bm.length_both_take s t k (by omega) (by omega)), HM.out, Bm.both_take_all]
      have HLt : Hid ((Bm.row (Bm.both (Bm.read s.data.toList) (Bm.read t.data.toList))).length = k) := by
        show _ = _
        rw [← Bm.both_take_all, ← HM.out, Bm.length_both_take s t k (by omega) (by omega)]
      clear HG hmk
      have hconv := Lw.run_conv_row (P := Tryd.prog) HG'.out 47 5 9 Tryd.underlying47 Tryd.underlying5 Tryd.underlying9 0 k k (by rw [HLt.out]; omega) (Bm.row (Bm.both (Bm.read s.data.toList) (Bm.read t.data.toList))) (by rw [List.drop_zero, List.take_of_length_le (by rw [HLt.out]; omega)])
      go_wp2
      go_ret
      exact ⟨rfl, hb⟩

set_option maxHeartbeats 400000 in
theorem signs_any (s : ByteArray) (w : World) (hs : s.size ≤ 1048576) :
    Calls Tryd.prog 43 #[.string s] w fun e w' => e = .returned (.string ⟨(Bm.row (Bm.read s.data.toList)).toArray⟩) ∧ Below w.heap.size w w' := by
  have HE : Hid (Bm.both (Bm.read s.data.toList) (Bm.read s.data.toList) = Bm.read s.data.toList) := Bm.both_self _
  go_enter Tryd.func43, Tryd.ntmps43
  go_wp2_with fail
  refine (and_any s s _ hs).mono ?_
  rintro e w1 ⟨rfl, hb⟩
  rw [HE.out]
  go_wp2
  go_ret
  exact ⟨rfl, hb⟩

set_option maxHeartbeats 1000000 in
theorem rwith_any (x c n : Int) (w : World) (h0 : 0 ≤ n) (hn : n ≤ 1048576) :
    Calls Tryd.prog 44 #[.agg #[.int .u8 x, .int .i64 n], .int .u8 c] w fun e w' => e = .returned (.agg #[.int .u8 c, .int .i64 (if c = x then n + 1 else 1)]) ∧ Below w.heap.size w w' := by
  by_cases h : c = x
  · have hb : (c != x) = false := by simp [h]
    rw [if_pos h]
    clear h
    go_enter Tryd.func44, Tryd.ntmps44
    go_wp2
    exact bodyPost_ret (v := .agg #[.int .u8 c, .int .i64 (n + 1)]) (by simp [results, Tryd.results44, go_sem]) rfl ⟨rfl, ((Below.refl _ _).alloc (Nat.le_refl _) _).alloc (by simp) _⟩
  · have hb : (c != x) = true := by simp [h]
    rw [if_neg h]
    clear h
    go_enter Tryd.func44, Tryd.ntmps44
    go_wp2
    exact bodyPost_ret (v := .agg #[.int .u8 c, .int .i64 1]) (by simp [results, Tryd.results44, go_sem]) rfl ⟨rfl, ((Below.refl _ _).alloc (Nat.le_refl _) _).alloc (by simp) _⟩

set_option maxHeartbeats 400000 in
theorem rfull_any (x n : Int) (w : World) :
    Calls Tryd.prog 45 #[.agg #[.int .u8 x, .int .i64 n]] w fun e w' => e = .returned (.bool (decide (5 ≤ n))) ∧ Below w.heap.size w w' := by
  go_enter Tryd.func45, Tryd.ntmps45
  go_wp2
  go_ret
  exact ⟨rfl, (Below.refl _ _).alloc (Nat.le_refl _) _⟩
set_option maxHeartbeats 400000 in
theorem rother_any (b : Bool) (n : Int) (w : World) :
    Calls Tryd.prog 46 #[.agg #[.int .u8 (Sm.sg b), .int .i64 n]] w fun e w' => e = .returned (.int .u8 (Sm.sg (!b))) ∧ Below w.heap.size w w' := by
  cases b
  · have e1 : Sm.sg false = 48 := rfl
    have e2 : Sm.sg (!false) = 49 := rfl
    rw [e1, e2]
    go_enter Tryd.func46, Tryd.ntmps46
    go_wp2
    go_ret
    exact ⟨ret_int (by decide), (Below.refl _ _).alloc (Nat.le_refl _) _⟩
  · have e1 : Sm.sg true = 49 := rfl
    have e2 : Sm.sg (!true) = 48 := rfl
    rw [e1, e2]
    go_enter Tryd.func46, Tryd.ntmps46
    go_wp2
    go_ret
    exact ⟨ret_int (by decide), (Below.refl _ _).alloc (Nat.le_refl _) _⟩
end Go.Proofs.YtaphdehhnnglgaaDoor
