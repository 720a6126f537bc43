/- What Unstuff of package stuff answers, over the program's own text. -/
import Derived.Test.YtaphdehhnnglgabDoorX5
namespace Go.Proofs.YtaphdehhnnglgabDoor
open Go.RowKit
set_option maxRecDepth 100000 in
set_option maxHeartbeats 1000000 in
theorem unstuff_any (s : ByteArray) (w : World) (hs : s.size ≤ 1048576) :
    Calls Tryd.prog 40 #[.string s] w fun e w' => e = .returned (.tuple #[.string ⟨(Bm.row (Sm.unstuff (Bm.read s.data.toList)).1).toArray⟩, .int .i64 (Sm.unstuff (Bm.read s.data.toList)).2]) ∧ Below w.heap.size w w' := by
  have HS := fun w => signs_any s w hs
  have HL : (Bm.read s.data.toList).length = s.size := by rw [Bm.length_read]; simp
  have HW := fun w => walk_any (ByteArray.mk (Bm.row (Bm.read s.data.toList)).toArray) w (by rw [row_size, HL]; exact hs) (row_sign _)
  rw [row_data] at HW
  clear HL
  generalize Bm.read s.data.toList = bs at *
  generalize ByteArray.mk (Bm.row bs).toArray = t at *
  generalize Sm.run (0, false) bs = rr at *
  generalize Sm.unstuff bs = u at *
  have HS' : Hid (∀ w, Calls Tryd.prog 34 #[.string s] w fun e w' => e = .returned (.string t) ∧ Below w.heap.size w w') := HS
  have HW' : Hid (∀ w, Calls Tryd.prog 49 #[.string t] w fun e w' => ∃ (v : Value) (r : Nat × Bool), e = .returned (.tuple #[v, .agg #[.int .u8 (Sm.sv r), .int .i64 r.1], .int .i64 u.2]) ∧ Below w.heap.size w w' ∧ w'.ownsRow w.heap.size 5 1 v u.1.length (Bm.cellsOf (Bm.row u.1)) ∧ (u.2 < 0 → r = rr ∧ r.1 ≤ 5)) := HW
  clear HS HW
  go_enter Tryd.func40, Tryd.ntmps40
  go_wp2_with fail
  refine (HS'.out _).mono ?_
  rintro e w0 ⟨rfl, hb0⟩
  go_wp2_with fail
  refine (HW'.out _).mono ?_
  rintro e w1 ⟨v, r, rfl, hb1, hown, _⟩
  have hb2 := below_join hb0 hb1
  clear HS' HW' hb0 hb1
  have hcv := conv_own (hown.alloc (.cells #[.int .u8 (Sm.sv r), .int .i64 r.1] 60))
  clear hown
  go_wp2
  go_ret2
  exact ⟨rfl, hb2.alloc hb2.size _⟩
end Go.Proofs.YtaphdehhnnglgabDoor
