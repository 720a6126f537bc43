/- What Is of package frame answers, over the program's own text. -/
import Derived.Test.YtaphdehhnnglgaaDoorGy
namespace Go.Proofs.YtaphdehhnnglgaaDoor
open Go.RowKit
def fcs (x : Bool) (n : Nat) (r : Bool) (d : ByteArray) : Array Value := #[.bool x, .int .u32 n, .bool r, .string d]
theorem fr_cell {w w1 : World} {B : Nat} {a b c d : Value} {t : TypeId} (hb : Below B (w.alloc (.cells #[a, b, c, d] t)) w1) (hB : B = w.heap.size + 1) (k : Nat) (v : Value) (hv : #[a, b, c, d][k]? = some v) : w1.cell? ⟨w.heap.size, k, none⟩ = some v := by
  subst hB
  exact (hb.cell (p := ⟨w.heap.size, k, none⟩) (by simp)).trans (by rw [cell_of_row _ _ _ _ _ _ (heap_alloc_new _ _)]; exact hv)
theorem size_zero (d : ByteArray) : decide ((d.size : Int) ≤ 0) = decide (d = ByteArray.empty) := by
  rw [decide_eq_decide, ← ByteArray.size_eq_zero_iff]
  omega
theorem isF_code (x : Bool) (n : Nat) (r : Bool) (d : ByteArray) : Fm.isF x n r d.data.toList = (((n : Int) / (if x then 536870912 else 2048) == 0) && decide ((d.size : Int) ≤ if r then 0 else 8)) := by
  have hs : d.data.toList.length = d.size := by simp
  rw [Bool.eq_iff_iff]
  constructor
  · intro h
    obtain ⟨h1, h2, h3⟩ := Fm.isF_parts h
    have h4 : r = true → d.size = 0 := fun hr => by rw [← hs, h3 hr]; rfl
    rw [hs] at h2
    rw [Bool.and_eq_true, beq_iff_eq, decide_eq_true_eq]
    refine ⟨?_, ?_⟩
    · cases x
      · have : n < 2048 := h1; simp only [Bool.false_eq_true, if_false]; omega
      · have : n < 536870912 := h1; simp only [if_true]; omega
    · cases r
      · simp only [Bool.false_eq_true, if_false]; omega
      · have := h4 rfl; simp only [if_true]; omega
  · intro h
    rw [Bool.and_eq_true, beq_iff_eq, decide_eq_true_eq] at h
    obtain ⟨h1, h2⟩ := h
    refine Fm.isF_mk ?_ ?_ ?_
    · cases x
      · simp only [Bool.false_eq_true, if_false] at h1; show n < 2048; omega
      · simp only [if_true] at h1; show n < 536870912; omega
    · rw [hs]; cases r
      · simp only [Bool.false_eq_true, if_false] at h2; omega
      · simp only [if_true] at h2; omega
    · intro hr
      subst hr
      simp only [if_true] at h2
      exact List.eq_nil_of_length_eq_zero (by omega)
set_option maxRecDepth 100000 in
set_option maxHeartbeats 1000000 in
theorem fIs_ff (n : Nat) (d : ByteArray) (w : World) (hT : Tab w) :
    Calls Tryd.prog 24 #[.agg #[.bool false, .int .u32 n, .bool false, .string d]] w fun e w' => e = .returned (.bool (Fm.isF false n false d.data.toList)) ∧ Below w.heap.size w w' := by
  have HI : Hid (∀ w, Tab w → Calls Tryd.prog 39 #[.bool false] w fun e w' => e = .returned (.int .i64 11) ∧ w' = w) := fun w hT => idWidth_any false w hT
  have HV : Hid (Fm.isF false n false d.data.toList = (((n : Int) / 2048 == 0) && decide ((d.size : Int) ≤ 8))) := isF_code false n false d
  have hT1 : Hid (Tab _) := hT.alloc (.cells #[.bool false, .int .u32 n, .bool false, .string d] 24)
  generalize Fm.isF false n false d.data.toList = res at *
  clear hT
  cases h1 : ((n : Int) / 2048 == 0)
  · rw [h1, Bool.false_and] at HV
    go_enter Tryd.func24, Tryd.ntmps24
    go_wp2_with fail
    refine Lw.wp_region_quiet_below (by kernel_rfl) (by kernel_rfl) ?_
    repeat (first
      | go_big_quiet_skip
      | (go_big_quiet_want; go_big_quiet_op; go_big_quiet_on)
      | (go_big_quiet_want; go_big_quiet_op; apply Exists.intro; refine ⟨fun _ hb' => ?_, ?_⟩; (first
        | exact Lw.val_rfl _
        | (go_at_call 39; exact Lw.calls_sameB hb' (HI.out _ (hT1.out.belowB (by simp) hb')))
        | (simp [go_sem, fr_cell hb' rfl 0 _ rfl]; rfl)
        | (simp [go_sem, fr_cell hb' rfl 1 _ rfl]; rfl)
        | (simp [go_sem, fr_cell hb' rfl 2 _ rfl]; rfl)
        | (simp [go_sem, fr_cell hb' rfl 3 _ rfl]; rfl)); go_big_quiet_on))
    refine wpQuiet_nil ?_
    intro w3 hb3
    go_wp2
    go_ret
    exact ⟨ret_bool HV.out.symm, ((Below.refl _ _).alloc (Nat.le_refl _) _).trans (hb3.mono (by simp))⟩
  · rw [h1, Bool.true_and] at HV
    go_enter Tryd.func24, Tryd.ntmps24
    go_wp2_with fail
    refine Lw.wp_region_quiet_below (by kernel_rfl) (by kernel_rfl) ?_
    repeat (first
      | go_big_quiet_skip
      | (go_big_quiet_want; go_big_quiet_op; go_big_quiet_on)
      | (go_big_quiet_want; go_big_quiet_op; apply Exists.intro; refine ⟨fun _ hb' => ?_, ?_⟩; (first
        | exact Lw.val_rfl _
        | (go_at_call 39; exact Lw.calls_sameB hb' (HI.out _ (hT1.out.belowB (by simp) hb')))
        | (simp [go_sem, fr_cell hb' rfl 0 _ rfl]; rfl)
        | (simp [go_sem, fr_cell hb' rfl 1 _ rfl]; rfl)
        | (simp [go_sem, fr_cell hb' rfl 2 _ rfl]; rfl)
        | (simp [go_sem, fr_cell hb' rfl 3 _ rfl]; rfl)); go_big_quiet_on))
    refine wpQuiet_nil ?_
    intro w3 hb3
    go_wp2
    go_ret
    exact ⟨ret_bool HV.out.symm, ((Below.refl _ _).alloc (Nat.le_refl _) _).trans (hb3.mono (by simp))⟩
set_option maxRecDepth 100000 in
set_option maxHeartbeats 1000000 in
theorem fIs_ft (n : Nat) (d : ByteArray) (w : World) (hT : Tab w) :
    Calls Tryd.prog 24 #[.agg #[.bool false, .int .u32 n, .bool true, .string d]] w fun e w' => e = .returned (.bool (Fm.isF false n true d.data.toList)) ∧ Below w.heap.size w w' := by
  have HI : Hid (∀ w, Tab w → Calls Tryd.prog 39 #[.bool false] w fun e w' => e = .returned (.int .i64 11) ∧ w' = w) := fun w hT => idWidth_any false w hT
  have HV : Hid (Fm.isF false n true d.data.toList = (((n : Int) / 2048 == 0) && decide (d = ByteArray.empty))) := by rw [← size_zero]; exact isF_code false n true d
  have hT1 : Hid (Tab _) := hT.alloc (.cells #[.bool false, .int .u32 n, .bool true, .string d] 24)
  generalize Fm.isF false n true d.data.toList = res at *
  clear hT
  cases h1 : ((n : Int) / 2048 == 0)
  · rw [h1, Bool.false_and] at HV
    go_enter Tryd.func24, Tryd.ntmps24
    go_wp2_with fail
    refine Lw.wp_region_quiet_below (by kernel_rfl) (by kernel_rfl) ?_
    repeat (first
      | go_big_quiet_skip
      | (go_big_quiet_want; go_big_quiet_op; go_big_quiet_on)
      | (go_big_quiet_want; go_big_quiet_op; apply Exists.intro; refine ⟨fun _ hb' => ?_, ?_⟩; (first
        | exact Lw.val_rfl _
        | (go_at_call 39; exact Lw.calls_sameB hb' (HI.out _ (hT1.out.belowB (by simp) hb')))
        | (simp [go_sem, fr_cell hb' rfl 0 _ rfl]; rfl)
        | (simp [go_sem, fr_cell hb' rfl 1 _ rfl]; rfl)
        | (simp [go_sem, fr_cell hb' rfl 2 _ rfl]; rfl)
        | (simp [go_sem, fr_cell hb' rfl 3 _ rfl]; rfl)); go_big_quiet_on))
    refine wpQuiet_nil ?_
    intro w3 hb3
    go_wp2
    go_ret
    exact ⟨ret_bool HV.out.symm, ((Below.refl _ _).alloc (Nat.le_refl _) _).trans (hb3.mono (by simp))⟩
  · rw [h1, Bool.true_and] at HV
    go_enter Tryd.func24, Tryd.ntmps24
    go_wp2_with fail
    refine Lw.wp_region_quiet_below (by kernel_rfl) (by kernel_rfl) ?_
    repeat (first
      | go_big_quiet_skip
      | (go_big_quiet_want; go_big_quiet_op; go_big_quiet_on)
      | (go_big_quiet_want; go_big_quiet_op; apply Exists.intro; refine ⟨fun _ hb' => ?_, ?_⟩; (first
        | exact Lw.val_rfl _
        | (go_at_call 39; exact Lw.calls_sameB hb' (HI.out _ (hT1.out.belowB (by simp) hb')))
        | (simp [go_sem, fr_cell hb' rfl 0 _ rfl]; rfl)
        | (simp [go_sem, fr_cell hb' rfl 1 _ rfl]; rfl)
        | (simp [go_sem, fr_cell hb' rfl 2 _ rfl]; rfl)
        | (simp [go_sem, fr_cell hb' rfl 3 _ rfl]; rfl)); go_big_quiet_on))
    refine wpQuiet_nil ?_
    intro w3 hb3
    go_wp2
    go_ret
    exact ⟨ret_bool HV.out.symm, ((Below.refl _ _).alloc (Nat.le_refl _) _).trans (hb3.mono (by simp))⟩
set_option maxRecDepth 100000 in
set_option maxHeartbeats 1000000 in
theorem fIs_tf (n : Nat) (d : ByteArray) (w : World) (hT : Tab w) :
    Calls Tryd.prog 24 #[.agg #[.bool true, .int .u32 n, .bool false, .string d]] w fun e w' => e = .returned (.bool (Fm.isF true n false d.data.toList)) ∧ Below w.heap.size w w' := by
  have HI : Hid (∀ w, Tab w → Calls Tryd.prog 39 #[.bool true] w fun e w' => e = .returned (.int .i64 29) ∧ w' = w) := fun w hT => idWidth_any true w hT
  have HV : Hid (Fm.isF true n false d.data.toList = (((n : Int) / 536870912 == 0) && decide ((d.size : Int) ≤ 8))) := isF_code true n false d
  have hT1 : Hid (Tab _) := hT.alloc (.cells #[.bool true, .int .u32 n, .bool false, .string d] 24)
  generalize Fm.isF true n false d.data.toList = res at *
  clear hT
  cases h1 : ((n : Int) / 536870912 == 0)
  · rw [h1, Bool.false_and] at HV
    go_enter Tryd.func24, Tryd.ntmps24
    go_wp2_with fail
    refine Lw.wp_region_quiet_below (by kernel_rfl) (by kernel_rfl) ?_
    repeat (first
      | go_big_quiet_skip
      | (go_big_quiet_want; go_big_quiet_op; go_big_quiet_on)
      | (go_big_quiet_want; go_big_quiet_op; apply Exists.intro; refine ⟨fun _ hb' => ?_, ?_⟩; (first
        | exact Lw.val_rfl _
        | (go_at_call 39; exact Lw.calls_sameB hb' (HI.out _ (hT1.out.belowB (by simp) hb')))
        | (simp [go_sem, fr_cell hb' rfl 0 _ rfl]; rfl)
        | (simp [go_sem, fr_cell hb' rfl 1 _ rfl]; rfl)
        | (simp [go_sem, fr_cell hb' rfl 2 _ rfl]; rfl)
        | (simp [go_sem, fr_cell hb' rfl 3 _ rfl]; rfl)); go_big_quiet_on))
    refine wpQuiet_nil ?_
    intro w3 hb3
    go_wp2
    go_ret
    exact ⟨ret_bool HV.out.symm, ((Below.refl _ _).alloc (Nat.le_refl _) _).trans (hb3.mono (by simp))⟩
  · rw [h1, Bool.true_and] at HV
    go_enter Tryd.func24, Tryd.ntmps24
    go_wp2_with fail
    refine Lw.wp_region_quiet_below (by kernel_rfl) (by kernel_rfl) ?_
    repeat (first
      | go_big_quiet_skip
      | (go_big_quiet_want; go_big_quiet_op; go_big_quiet_on)
      | (go_big_quiet_want; go_big_quiet_op; apply Exists.intro; refine ⟨fun _ hb' => ?_, ?_⟩; (first
        | exact Lw.val_rfl _
        | (go_at_call 39; exact Lw.calls_sameB hb' (HI.out _ (hT1.out.belowB (by simp) hb')))
        | (simp [go_sem, fr_cell hb' rfl 0 _ rfl]; rfl)
        | (simp [go_sem, fr_cell hb' rfl 1 _ rfl]; rfl)
        | (simp [go_sem, fr_cell hb' rfl 2 _ rfl]; rfl)
        | (simp [go_sem, fr_cell hb' rfl 3 _ rfl]; rfl)); go_big_quiet_on))
    refine wpQuiet_nil ?_
    intro w3 hb3
    go_wp2
    go_ret
    exact ⟨ret_bool HV.out.symm, ((Below.refl _ _).alloc (Nat.le_refl _) _).trans (hb3.mono (by simp))⟩
set_option maxRecDepth 100000 in
set_option maxHeartbeats 1000000 in
theorem fIs_tt (n : Nat) (d : ByteArray) (w : World) (hT : Tab w) :
    Calls Tryd.prog 24 #[.agg #[.bool true, .int .u32 n, .bool true, .string d]] w fun e w' => e = .returned (.bool (Fm.isF true n true d.data.toList)) ∧ Below w.heap.size w w' := by
  have HI : Hid (∀ w, Tab w → Calls Tryd.prog 39 #[.bool true] w fun e w' => e = .returned (.int .i64 29) ∧ w' = w) := fun w hT => idWidth_any true w hT
  have HV : Hid (Fm.isF true n true d.data.toList = (((n : Int) / 536870912 == 0) && decide (d = ByteArray.empty))) := by rw [← size_zero]; exact isF_code true n true d
  have hT1 : Hid (Tab _) := hT.alloc (.cells #[.bool true, .int .u32 n, .bool true, .string d] 24)
  generalize Fm.isF true n true d.data.toList = res at *
  clear hT
  cases h1 : ((n : Int) / 536870912 == 0)
  · rw [h1, Bool.false_and] at HV
    go_enter Tryd.func24, Tryd.ntmps24
    go_wp2_with fail
    refine Lw.wp_region_quiet_below (by kernel_rfl) (by kernel_rfl) ?_
    repeat (first
      | go_big_quiet_skip
      | (go_big_quiet_want; go_big_quiet_op; go_big_quiet_on)
      | (go_big_quiet_want; go_big_quiet_op; apply Exists.intro; refine ⟨fun _ hb' => ?_, ?_⟩; (first
        | exact Lw.val_rfl _
        | (go_at_call 39; exact Lw.calls_sameB hb' (HI.out _ (hT1.out.belowB (by simp) hb')))
        | (simp [go_sem, fr_cell hb' rfl 0 _ rfl]; rfl)
        | (simp [go_sem, fr_cell hb' rfl 1 _ rfl]; rfl)
        | (simp [go_sem, fr_cell hb' rfl 2 _ rfl]; rfl)
        | (simp [go_sem, fr_cell hb' rfl 3 _ rfl]; rfl)); go_big_quiet_on))
    refine wpQuiet_nil ?_
    intro w3 hb3
    go_wp2
    go_ret
    exact ⟨ret_bool HV.out.symm, ((Below.refl _ _).alloc (Nat.le_refl _) _).trans (hb3.mono (by simp))⟩
  · rw [h1, Bool.true_and] at HV
    go_enter Tryd.func24, Tryd.ntmps24
    go_wp2_with fail
    refine Lw.wp_region_quiet_below (by kernel_rfl) (by kernel_rfl) ?_
    repeat (first
      | go_big_quiet_skip
      | (go_big_quiet_want; go_big_quiet_op; go_big_quiet_on)
      | (go_big_quiet_want; go_big_quiet_op; apply Exists.intro; refine ⟨fun _ hb' => ?_, ?_⟩; (first
        | exact Lw.val_rfl _
        | (go_at_call 39; exact Lw.calls_sameB hb' (HI.out _ (hT1.out.belowB (by simp) hb')))
        | (simp [go_sem, fr_cell hb' rfl 0 _ rfl]; rfl)
        | (simp [go_sem, fr_cell hb' rfl 1 _ rfl]; rfl)
        | (simp [go_sem, fr_cell hb' rfl 2 _ rfl]; rfl)
        | (simp [go_sem, fr_cell hb' rfl 3 _ rfl]; rfl)); go_big_quiet_on))
    refine wpQuiet_nil ?_
    intro w3 hb3
    go_wp2
    go_ret
    exact ⟨ret_bool HV.out.symm, ((Below.refl _ _).alloc (Nat.le_refl _) _).trans (hb3.mono (by simp))⟩
theorem fIs_any (x : Bool) (n : Nat) (r : Bool) (d : ByteArray) (w : World) (hT : Tab w) :
    Calls Tryd.prog 24 #[.agg #[.bool x, .int .u32 n, .bool r, .string d]] w fun e w' => e = .returned (.bool (Fm.isF x n r d.data.toList)) ∧ Below w.heap.size w w' := by
  cases x <;> cases r
  · exact fIs_ff n d w hT
  · exact fIs_ft n d w hT
  · exact fIs_tf n d w hT
  · exact fIs_tt n d w hT
end Go.Proofs.YtaphdehhnnglgaaDoor
