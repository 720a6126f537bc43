/- What Unstuff and Next of package stuff answer, over the program's own text. -/
import Derived.Test.YtcgpnnmceijmjabX5
namespace Go.Proofs.Ytcgpnnmceijmjab
open Go.RowKit
set_option maxRecDepth 100000 in
set_option maxHeartbeats 1000000 in
theorem unstuff_any (s : ByteArray) (w : World) (hs : s.size ≤ 1048576) :
    Calls Try.prog 5 #[.string s] w fun e w' => e = .returned (.tuple #[.string ⟨(Bm.row (Sm.unstuff (Bm.read s.data.toList)).1).toArray⟩, .int .i64 (Sm.unstuff (Bm.read s.data.toList)).2]) ∧ Below w.heap.size w w' := by
  have HS := fun w => signs_any s w hs
  have HL : (Bm.read s.data.toList).length = s.size := by rw [Bm.length_read]; simp
  have HW := fun w => walk_any (ByteArray.mk (Bm.row (Bm.read s.data.toList)).toArray) w (by rw [row_size, HL]; exact hs) (row_sign _)
  rw [row_data] at HW
  clear HL
  generalize Bm.read s.data.toList = bs at *
  generalize ByteArray.mk (Bm.row bs).toArray = t at *
  generalize Sm.run (0, false) bs = rr at *
  generalize Sm.unstuff bs = u at *
  have HS' : Hid (∀ w, Calls Try.prog 10 #[.string s] w fun e w' => e = .returned (.string t) ∧ Below w.heap.size w w') := HS
  have HW' : Hid (∀ w, Calls Try.prog 9 #[.string t] w fun e w' => ∃ (v : Value) (r : Nat × Bool), e = .returned (.tuple #[v, .agg #[.int .u8 (Sm.sv r), .int .i64 r.1], .int .i64 u.2]) ∧ Below w.heap.size w w' ∧ w'.ownsRow w.heap.size 5 1 v u.1.length (Bm.cellsOf (Bm.row u.1)) ∧ (u.2 < 0 → r = rr ∧ r.1 ≤ 5)) := HW
  clear HS HW
  go_enter Try.func5, Try.ntmps5
  go_wp2_with fail
  refine (HS'.out _).mono ?_
  rintro e w0 ⟨rfl, hb0⟩
  go_wp2_with fail
  refine (HW'.out _).mono ?_
  rintro e w1 ⟨v, r, rfl, hb1, hown, _⟩
  have hb2 := below_join hb0 hb1
  clear HS' HW' hb0 hb1
  have hcv := conv_own (hown.alloc (.cells #[.int .u8 (Sm.sv r), .int .i64 r.1] 32))
  clear hown
  go_wp2
  go_ret2
  exact ⟨rfl, hb2.alloc hb2.size _⟩

set_option maxRecDepth 100000 in
set_option maxHeartbeats 1000000 in
theorem next_any (s : ByteArray) (w : World) (hs : s.size ≤ 1048576) :
    Calls Try.prog 7 #[.string s] w fun e w' => e = .returned (.int .i64 (Sm.next (Bm.read s.data.toList))) ∧ Below w.heap.size w w' := by
  have HS := fun w => signs_any s w hs
  have HL : (Bm.read s.data.toList).length = s.size := by rw [Bm.length_read]; simp
  have HW := fun w => walk_any (ByteArray.mk (Bm.row (Bm.read s.data.toList)).toArray) w (by rw [row_size, HL]; exact hs) (row_sign _)
  rw [row_data] at HW
  clear HL
  generalize Bm.read s.data.toList = bs at *
  generalize ByteArray.mk (Bm.row bs).toArray = t at *
  have HN : Hid (Sm.next bs = if 0 ≤ (Sm.unstuff bs).2 then -2 else if (Sm.run (0, false) bs).1 = 5 then (if (Sm.run (0, false) bs).2 = true then 0 else 1) else -1) := rfl
  generalize Sm.next bs = nx at *
  generalize Sm.run (0, false) bs = rr at *
  generalize Sm.unstuff bs = u at *
  have HS' : Hid (∀ w, Calls Try.prog 10 #[.string s] w fun e w' => e = .returned (.string t) ∧ Below w.heap.size w w') := HS
  have HW' : Hid (∀ w, Calls Try.prog 9 #[.string t] w fun e w' => ∃ (v : Value) (r : Nat × Bool), e = .returned (.tuple #[v, .agg #[.int .u8 (Sm.sv r), .int .i64 r.1], .int .i64 u.2]) ∧ Below w.heap.size w w' ∧ w'.ownsRow w.heap.size 5 1 v u.1.length (Bm.cellsOf (Bm.row u.1)) ∧ (u.2 < 0 → r = rr ∧ r.1 ≤ 5)) := HW
  clear HS HW
  go_enter Try.func7, Try.ntmps7
  go_wp2_with fail
  refine (HS'.out _).mono ?_
  rintro e w0 ⟨rfl, hb0⟩
  go_wp2_with fail
  refine (HW'.out _).mono ?_
  rintro e w1 ⟨v, r, rfl, hb1, _, hr⟩
  have hb2 := below_join hb0 hb1
  have HR : Hid (u.2 < 0 → r = rr ∧ r.1 ≤ 5) := hr
  clear HS' HW' hb0 hb1 hr
  by_cases hneg : 0 ≤ u.2
  · have HE : Hid (nx = -2) := by show _ = _; rw [HN.out, if_pos hneg]
    go_wp2
    go_ret
    exact ⟨ret_int HE.out.symm, hb2.alloc hb2.size _⟩
  · have hlt : u.2 < 0 := by omega
    obtain ⟨rfl, hr5⟩ := HR.out hlt
    have HE : Hid (nx = if r.1 = 5 then if r.2 = true then 0 else 1 else -1) := by show _ = _; rw [HN.out, if_neg hneg]
    clear HN HR hneg
    have hb3 := hb2.alloc hb2.size (.cells #[.int .u8 (Sm.sv r), .int .i64 r.1] 32)
    go_wp2_with fail
    refine (rfull_any _ _ _).mono ?_
    rintro e w2 ⟨rfl, hb4⟩
    have hc0 : w2.cell? ⟨w1.heap.size, 0, none⟩ = some (.int .u8 (Sm.sv r)) := (hb4.cell (p := ⟨w1.heap.size, 0, none⟩) (by simp)).trans (Lw.cell0 (heap_alloc_new _ _))
    have hc1 : w2.cell? ⟨w1.heap.size, 1, none⟩ = some (.int .i64 r.1) := (hb4.cell (p := ⟨w1.heap.size, 1, none⟩) (by simp)).trans (Lw.cell1 (heap_alloc_new _ _))
    have hb5 := below_join hb3 hb4
    clear hb3 hb4 hb2
    by_cases h5 : r.1 = 5
    · have t5 : decide (5 ≤ (r.1 : Int)) = true := by rw [h5]; rfl
      rw [t5]
      have hp : 0 < r.1 := by omega
      have HE2 : Hid (nx = if r.2 = true then 0 else 1) := by show _ = _; rw [HE.out, if_pos h5]
      clear h5 t5 HE
      go_wp2_with fail
      refine (rother_q r hp _ _).mono ?_
      rintro e w3 ⟨rfl, hb6⟩
      have hb7 := below_join hb5 hb6
      clear hb5 hb6 hc0 hc1
      cases hq : r.2
      · have e1 : Sm.sg (!false) = 49 := rfl
        rw [e1]
        go_wp2
        go_ret
        exact ⟨ret_int (by rw [HE2.out, hq]; rfl), hb7⟩
      · have e1 : Sm.sg (!true) = 48 := rfl
        rw [e1]
        go_wp2
        go_ret
        exact ⟨ret_int (by rw [HE2.out, hq]; rfl), hb7⟩
    · have t5 : decide (5 ≤ (r.1 : Int)) = false := by simp; omega
      rw [t5]
      have HE2 : Hid (nx = -1) := by show _ = _; rw [HE.out, if_neg h5]
      go_wp2
      go_ret
      exact ⟨ret_int HE2.out.symm, hb5⟩
end Go.Proofs.Ytcgpnnmceijmjab
