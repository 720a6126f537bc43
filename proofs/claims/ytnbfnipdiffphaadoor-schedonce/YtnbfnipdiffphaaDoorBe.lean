/- What Is of package frame answers of a frame without Ext, RTR and bytes, over the program's own text; for seats that reach no more of package frame. -/
import Derived.Test.YtnbfnipdiffphaaDoorTb
import Derived.Test.YtnbfnipdiffphaaDoorU2
import Derived.Deep.QuietTactic
import Derived.BigQuiet
import Derived.Handy
namespace Go.Proofs.YtnbfnipdiffphaaDoor
open Go.RowKit
set_option linter.unusedVariables false
theorem be_cell {w w1 : World} {B : Nat} {a b c d : Value} {t : TypeId} (hb : Below B (w.alloc (.cells #[a, b, c, d] t)) w1) (hB : B = w.heap.size + 1) (k : Nat) (v : Value) (hv : #[a, b, c, d][k]? = some v) : w1.cell? ⟨w.heap.size, k, none⟩ = some v := by
  subst hB
  exact (hb.cell (p := ⟨w.heap.size, k, none⟩) (by simp)).trans (by rw [cell_of_row _ _ _ _ _ _ (heap_alloc_new _ _)]; exact hv)
set_option maxHeartbeats 400000 in
theorem be_width (w : World) (hT : Tab w) :
    (Calls Tryd.prog 85 #[.int .i64 1, .bool false] w fun e w' => e = .returned (.int .i64 11) ∧ w' = w) ∧ Calls Tryd.prog 85 #[.int .i64 4, .bool false] w fun e w' => e = .returned (.int .i64 0) ∧ w' = w := by
  have hall := hT.2
  constructor
  · obtain ⟨c0, c1⟩ := hall 1 _ rfl
    clear hall
    simp only [Nat.reduceMul, Nat.reduceAdd] at c0 c1
    go_enter Tryd.func85, Tryd.ntmps85
    go_wp2
    go_ret
    exact ⟨rfl, rfl⟩
  · obtain ⟨c0, c1⟩ := hall 4 _ rfl
    clear hall
    simp only [Nat.reduceMul, Nat.reduceAdd] at c0 c1
    go_enter Tryd.func85, Tryd.ntmps85
    go_wp2
    go_ret
    exact ⟨rfl, rfl⟩
theorem be_idWidth (w : World) (hT : Tab w) : Calls Tryd.prog 84 #[.bool false] w fun e w' => e = .returned (.int .i64 11) ∧ w' = w := by
  have HW : Hid (∀ w, Tab w → (Calls Tryd.prog 85 #[.int .i64 1, .bool false] w fun e w' => e = .returned (.int .i64 11) ∧ w' = w) ∧ Calls Tryd.prog 85 #[.int .i64 4, .bool false] w fun e w' => e = .returned (.int .i64 0) ∧ w' = w) := be_width
  go_enter Tryd.func84, Tryd.ntmps84
  go_wp2_with fail
  refine (HW.out _ hT).1.mono ?_; rintro e w1 ⟨rfl, rfl⟩
  go_wp2_with fail
  refine (HW.out _ hT).2.mono ?_; rintro e w2 ⟨rfl, rfl⟩
  go_wp2
  go_ret
  exact ⟨rfl, rfl⟩
set_option maxRecDepth 100000 in
set_option maxHeartbeats 1000000 in
theorem be_is (n : Nat) (d : ByteArray) (hd : decide ((d.size : Int) ≤ 8) = true) (w : World) (hT : Tab w) :
    Calls Tryd.prog 83 #[.agg #[.bool false, .int .u32 n, .bool false, .string d]] w fun e w' => e = .returned (.bool ((n : Int) / 2048 == 0)) ∧ Below w.heap.size w w' := by
  have HI : Hid (∀ w, Tab w → Calls Tryd.prog 84 #[.bool false] w fun e w' => e = .returned (.int .i64 11) ∧ w' = w) := fun w hT => be_idWidth w hT
  have hT1 : Hid (Tab _) := hT.alloc (.cells #[.bool false, .int .u32 n, .bool false, .string d] 72)
  clear hT
  cases h1 : ((n : Int) / 2048 == 0)
  · go_enter Tryd.func83, Tryd.ntmps83
    go_wp2_with fail
    refine Lw.wp_region_quiet_below (by kernel_rfl) (by kernel_rfl) ?_
    repeat (first
      | go_big_quiet_skip
      | (go_big_quiet_want; go_big_quiet_op; go_big_quiet_on)
      | (go_big_quiet_want; go_big_quiet_op; apply Exists.intro; refine ⟨fun _ hb' => ?_, ?_⟩; (first
        | exact Lw.val_rfl _
        | (go_at_call 84; exact Lw.calls_sameB hb' (HI.out _ (hT1.out.belowB (by simp) hb')))
        | (simp [go_sem, be_cell hb' rfl 0 _ rfl]; rfl)
        | (simp [go_sem, be_cell hb' rfl 1 _ rfl]; rfl)
        | (simp [go_sem, be_cell hb' rfl 2 _ rfl]; rfl)
        | (simp [go_sem, be_cell hb' rfl 3 _ rfl]; rfl)); go_big_quiet_on))
    refine wpQuiet_nil ?_
    intro w3 hb3
    go_wp2
    go_ret
    exact ⟨rfl, ((Below.refl _ _).alloc (Nat.le_refl _) _).trans (hb3.mono (by simp))⟩
  · go_enter Tryd.func83, Tryd.ntmps83
    go_wp2_with fail
    refine Lw.wp_region_quiet_below (by kernel_rfl) (by kernel_rfl) ?_
    repeat (first
      | go_big_quiet_skip
      | (go_big_quiet_want; go_big_quiet_op; go_big_quiet_on)
      | (go_big_quiet_want; go_big_quiet_op; apply Exists.intro; refine ⟨fun _ hb' => ?_, ?_⟩; (first
        | exact Lw.val_rfl _
        | (go_at_call 84; exact Lw.calls_sameB hb' (HI.out _ (hT1.out.belowB (by simp) hb')))
        | (simp [go_sem, be_cell hb' rfl 0 _ rfl]; rfl)
        | (simp [go_sem, be_cell hb' rfl 1 _ rfl]; rfl)
        | (simp [go_sem, be_cell hb' rfl 2 _ rfl]; rfl)
        | (simp [go_sem, be_cell hb' rfl 3 _ rfl]; rfl)); go_big_quiet_on))
    refine wpQuiet_nil ?_
    intro w3 hb3
    go_wp2
    go_ret
    exact ⟨by simp, ((Below.refl _ _).alloc (Nat.le_refl _) _).trans (hb3.mono (by simp))⟩
end Go.Proofs.YtnbfnipdiffphaaDoor
