/- What the document own Next answers, over its text. -/

import Derived.Test.YtaphdehhnnglgaaDoorR5
namespace Go.Proofs.YtaphdehhnnglgaaDoor
open Go.RowKit
set_option maxRecDepth 100000 in
set_option maxHeartbeats 1000000 in
theorem rnext_any (s : ByteArray) (w : World) (hs : s.size ≤ 1048576) :
    Calls Tryd.prog 54 #[.string s] w fun e w' => e = .returned (.int .i64 (Sm.next (Bm.read s.data.toList))) ∧ Below w.heap.size w w' := by
  by_cases hneg : 0 ≤ (Sm.unstuff (Bm.read s.data.toList)).2
  · have HE : Hid (Sm.next (Bm.read s.data.toList) = -2) := Sm.next_six _ hneg
    go_enter Tryd.func54, Tryd.ntmps54
    go_wp2_with fail
    refine (runstuff_any s _ hs).mono ?_; rintro e w0 ⟨rfl, hb0⟩
    go_wp2_with fail
    go_ret
    exact ⟨ret_int HE.out.symm, hb0⟩
  · have hneg' : (Sm.unstuff (Bm.read s.data.toList)).2 < 0 := by omega
    go_enter Tryd.func54, Tryd.ntmps54
    go_wp2_with fail
    refine (runstuff_any s _ hs).mono ?_; rintro e w0 ⟨rfl, hb0⟩
    go_wp2_with fail
    obtain ⟨B, hB⟩ : ∃ B, B = w0.heap.size := ⟨_, rfl⟩
    rw [← hB]
    go_loopw [6] (fun i wr => ∃ (k : Nat) (r : Nat × Bool), k ≤ s.size ∧ i = .int .i64 k ∧ Hid (wr.heap[B]? = some (.cells #[.int .i64 r.1, .int .u8 (Sm.sv r)] 60 (0, 0))) ∧ Below w.heap.size w wr ∧ Hid (Sm.run (0, false) (Bm.read s.data.toList) = Sm.run r ((Bm.read s.data.toList).drop k)) ∧ r.1 ≤ k)
      (fun i _ => s.size - (intOf i).toNat)
    case atStart => exact ⟨0, (0, false), Nat.zero_le _, rfl, by rw [hB]; exact heap_alloc_new _ _, hb0.alloc hb0.size _, rfl, by decide⟩
    case round =>
      obtain ⟨k, r, hk, rfl, HR, hb, HI, hr⟩ := hrel
      have hwB : w.heap.size ≤ B := by have := hb0.size; omega
      have hsz : B < wr.heap.size := (Array.getElem?_eq_some_iff.1 HR.out).1
      have hc0 : wr.cell? ⟨B, 0, none⟩ = some (.int .i64 r.1) := by rw [cell_of_row _ _ _ _ _ _ HR.out]; rfl
      have hc1 : wr.cell? ⟨B, 1, none⟩ = some (.int .u8 (Sm.sv r)) := by rw [cell_of_row _ _ _ _ _ _ HR.out]; rfl
      clear hB
      by_cases hlt : k < s.size
      · go_wp2_with fail
        go_region_with (go_at_call 37; refine (refwith_any _ _ _ _ (by omega)).mono ?_; rintro e w1 ⟨rfl, hb1⟩; have d0 := (hb1.cell (p := ⟨B, 0, none⟩) hsz).trans hc0; have d1 := (hb1.cell (p := ⟨B, 1, none⟩) hsz).trans hc1; have f0 := (hb1.frozen (p := ⟨B, 0, none⟩) hsz).trans (frozen_of_row _ _ _ _ _ HR.out); have f1 := (hb1.frozen (p := ⟨B, 1, none⟩) hsz).trans (frozen_of_row _ _ _ _ _ HR.out))
        all_goals
          clear hc0 hc1 d0 d1 f0 f1
          have HR1 : Hid (w1.heap[B]? = some (.cells #[.int .i64 r.1, .int .u8 (Sm.sv r)] 60 (0, 0))) := (hb1.block B hsz).trans HR.out
          have hb2 : Below w.heap.size w w1 := hb.drew.trans (hb1.mono (by exact Nat.le_of_lt (Nat.lt_of_le_of_lt hwB hsz)))
          have HW : Hid (Sm.wn (r.1 : Int) (Sm.sv r) (s[k].toNat : Int) = ((Sm.step r (Bm.isOne s[k])).1 : Int)) := Sm.wn_step r s[k]
          have HB : Hid (Sm.wb (s[k].toNat : Int) = Sm.sv (Sm.step r (Bm.isOne s[k]))) := Sm.sv_step r s[k]
          rw [HW.out, HB.out]
          clear HR hb hb1 HW HB
          obtain ⟨w2, hw2⟩ : ∃ w2, w2 = ((w1.setCell ⟨B, 0, none⟩ (.int .i64 (Sm.step r (Bm.isOne s[k])).1)).setCell ⟨B, 1, none⟩ (.int .u8 (Sm.sv (Sm.step r (Bm.isOne s[k]))))) := ⟨_, rfl⟩
          rw [← hw2]
          have HR2 : Hid (w2.heap[B]? = some (.cells #[.int .i64 (Sm.step r (Bm.isOne s[k])).1, .int .u8 (Sm.sv (Sm.step r (Bm.isOne s[k])))] 60 (0, 0))) := by
            rw [hw2]; exact Lw.two_cells HR1.out
          have hb3 : Below w.heap.size w w2 := by
            rw [hw2]; exact (hb2.setCell hwB _).setCell hwB _
          have HI2 : Hid (Sm.run (0, false) (Bm.read s.data.toList) = Sm.run (Sm.step r (Bm.isOne s[k])) ((Bm.read s.data.toList).drop (k + 1))) := by
            show _ = _
            rw [HI.out, Bm.read_drop s k hlt]
            rfl
          have hle := Sm.step_le r (Bm.isOne s[k])
          clear hw2 HR1 hb2 hsz HI
          generalize Sm.step r (Bm.isOne s[k]) = q at *
          go_wp2
          go_roundw
          case rel => exact ⟨k + 1, q, by omega, by go_num, HR2, hb3, HI2, by omega⟩
          case measure => simp [intOf]; omega
      · have HE : Hid (Sm.run (0, false) (Bm.read s.data.toList) = r) := by
          show _ = _
          rw [HI.out, List.drop_of_length_le (by rw [Bm.length_read]; simp; omega)]
          rfl
        have HN : Hid (Sm.next (Bm.read s.data.toList) = if r.1 = 5 then (if r.2 = true then 0 else 1) else -1) := by
          show _ = _
          unfold Sm.next
          rw [if_neg (by omega), HE.out]
        clear HI HE HR
        by_cases h5 : r.1 = 5
        · have t5 : ((r.1 : Int) != 5) = false := by simp; omega
          have HS : Hid (Sm.sv r = Sm.sg r.2) := by show _ = _; unfold Sm.sv; rw [if_neg (by omega)]
          rw [HS.out] at hc1
          cases hq : r.2
          · rw [hq] at hc1
            have e1 : Sm.sg false = 48 := rfl
            rw [e1] at hc1
            go_wp2
            go_ret
            exact ⟨ret_int (by rw [HN.out, if_pos h5, hq]; rfl), hb⟩
          · rw [hq] at hc1
            have e1 : Sm.sg true = 49 := rfl
            rw [e1] at hc1
            go_wp2
            go_ret
            exact ⟨ret_int (by rw [HN.out, if_pos h5, hq]; rfl), hb⟩
        · have t5 : ((r.1 : Int) != 5) = true := by simp; omega
          go_wp2
          go_ret
          exact ⟨ret_int (by rw [HN.out, if_neg h5]), hb⟩
end Go.Proofs.YtaphdehhnnglgaaDoor
