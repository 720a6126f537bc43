/- What headOf of package frame answers, over the program's own text. -/
import Derived.Test.YtaphdehhnnglgaaDoorGf
namespace Go.Proofs.YtaphdehhnnglgaaDoor
open Go.RowKit
set_option maxRecDepth 100000 in
set_option maxHeartbeats 4000000 in
theorem headOf_tf (n : Nat) (d : ByteArray) (w : World) (hT : Tab w) (hn : n < 4294967296) (h8 : d.size ≤ 8) :
    Calls Tryd.prog 40 #[.agg #[.bool true, .int .u32 n, .bool false, .string d]] w fun e w' => e = .returned (.agg (hcs (Fm.headOf true n false d.data.toList))) ∧ Below w.heap.size w w' := by
  have HW : Hid (∀ w, Tab w → Calls Tryd.prog 57 #[.int .i64 4, .bool true] w fun e w' => e = .returned (.int .i64 18) ∧ w' = w) := fun w hT => width_any 4 (by decide) true w hT 4 rfl
  have HT : Hid (∀ w', Below w.heap.size w w' → Tab w') := fun w' hb => hT.below hb
  have HE : Hid (hcs (Fm.headOf true n false d.data.toList) = #[.int .u64 0, .int .u64 ((n : Int) / 262144), .int .u64 1, .int .u64 1, .int .u64 n, .int .u64 0, .int .u64 0, .int .u64 (d.size : Int)]) := by
    show _ = _
    have e1 : d.data.toList.length = d.size := by simp
    have e2 : ((n / 2 ^ Fm.wd true 4 : Nat) : Int) = (n : Int) / 262144 := by simp [Fm.wd]
    unfold hcs Fm.headOf
    simp only [e1, e2]
    rfl
  generalize hcs (Fm.headOf true n false d.data.toList) = R at *
  clear hT
  go_enter Tryd.func40, Tryd.ntmps40
  go_wp2_with fail
  refine Lw.region_tail 24 (by kernel_rfl) (by kernel_rfl) ?_
  intro w1 hw1
  have hb1 : Below w.heap.size w w1 := hw1 ▸ (((Below.refl _ _).alloc (Nat.le_refl _) _).alloc (by simp) _).drew
  have HT1 : Hid (Tab w1) := HT.out _ hb1
  have HG : Hid (w1.heap[w.heap.size]? = some (.cells #[.bool true, .int .u32 n, .bool false, .string d] 24 (0, 0))) := by subst hw1; exact heap_alloc2_old _ _ _
  have HV : Hid (w1.heap[w.heap.size + 1]? = some (.cells (hcs Fm.Hd.zero) 66 (0, 0))) := by subst hw1; exact heap_alloc2_new _ _ _
  clear hw1 HT
  obtain ⟨y0, y1, y2, y3, _, _, _, _⟩ := four_cells HG.out
  obtain ⟨x0, x1, x2, x3, x4, x5, x6, x7, z0, z1, z2, z3, z4, z5, z6, z7⟩ := eight_cells HV.out
  simp only [List.take_succ_cons, List.take_zero, List.drop_succ_cons, List.drop_zero]
  repeat (first | still_step | still_call (HW.out _ HT1.out) | still_call (flag_any _ _))
  refine wpStill_nil ?_
  go_wp2
  exact bodyPost_ret (v := .agg #[.int .u64 0, .int .u64 ((n : Int) / 262144), .int .u64 1, .int .u64 1, .int .u64 n, .int .u64 0, .int .u64 0, .int .u64 (d.size : Int)])
    (by simp [results, Tryd.results40, go_sem, Bm.bv, x0, x1, x2, x3, x4, x5, x6, x7]; try rfl) rfl ⟨by rw [HE.out], (((((((hb1.setCell (Nat.le_succ _) _).setCell (Nat.le_succ _) _).setCell (Nat.le_succ _) _).setCell (Nat.le_succ _) _).setCell (Nat.le_succ _) _).setCell (Nat.le_succ _) _).setCell (Nat.le_succ _) _).setCell (Nat.le_succ _) _⟩
set_option maxRecDepth 100000 in
set_option maxHeartbeats 4000000 in
theorem headOf_tt (n : Nat) (d : ByteArray) (w : World) (hT : Tab w) (hn : n < 4294967296) (h8 : d.size ≤ 8) :
    Calls Tryd.prog 40 #[.agg #[.bool true, .int .u32 n, .bool true, .string d]] w fun e w' => e = .returned (.agg (hcs (Fm.headOf true n true d.data.toList))) ∧ Below w.heap.size w w' := by
  have HW : Hid (∀ w, Tab w → Calls Tryd.prog 57 #[.int .i64 4, .bool true] w fun e w' => e = .returned (.int .i64 18) ∧ w' = w) := fun w hT => width_any 4 (by decide) true w hT 4 rfl
  have HT : Hid (∀ w', Below w.heap.size w w' → Tab w') := fun w' hb => hT.below hb
  have HE : Hid (hcs (Fm.headOf true n true d.data.toList) = #[.int .u64 0, .int .u64 ((n : Int) / 262144), .int .u64 1, .int .u64 1, .int .u64 n, .int .u64 1, .int .u64 0, .int .u64 (d.size : Int)]) := by
    show _ = _
    have e1 : d.data.toList.length = d.size := by simp
    have e2 : ((n / 2 ^ Fm.wd true 4 : Nat) : Int) = (n : Int) / 262144 := by simp [Fm.wd]
    unfold hcs Fm.headOf
    simp only [e1, e2]
    rfl
  generalize hcs (Fm.headOf true n true d.data.toList) = R at *
  clear hT
  go_enter Tryd.func40, Tryd.ntmps40
  go_wp2_with fail
  refine Lw.region_tail 24 (by kernel_rfl) (by kernel_rfl) ?_
  intro w1 hw1
  have hb1 : Below w.heap.size w w1 := hw1 ▸ (((Below.refl _ _).alloc (Nat.le_refl _) _).alloc (by simp) _).drew
  have HT1 : Hid (Tab w1) := HT.out _ hb1
  have HG : Hid (w1.heap[w.heap.size]? = some (.cells #[.bool true, .int .u32 n, .bool true, .string d] 24 (0, 0))) := by subst hw1; exact heap_alloc2_old _ _ _
  have HV : Hid (w1.heap[w.heap.size + 1]? = some (.cells (hcs Fm.Hd.zero) 66 (0, 0))) := by subst hw1; exact heap_alloc2_new _ _ _
  clear hw1 HT
  obtain ⟨y0, y1, y2, y3, _, _, _, _⟩ := four_cells HG.out
  obtain ⟨x0, x1, x2, x3, x4, x5, x6, x7, z0, z1, z2, z3, z4, z5, z6, z7⟩ := eight_cells HV.out
  simp only [List.take_succ_cons, List.take_zero, List.drop_succ_cons, List.drop_zero]
  repeat (first | still_step | still_call (HW.out _ HT1.out) | still_call (flag_any _ _))
  refine wpStill_nil ?_
  go_wp2
  exact bodyPost_ret (v := .agg #[.int .u64 0, .int .u64 ((n : Int) / 262144), .int .u64 1, .int .u64 1, .int .u64 n, .int .u64 1, .int .u64 0, .int .u64 (d.size : Int)])
    (by simp [results, Tryd.results40, go_sem, Bm.bv, x0, x1, x2, x3, x4, x5, x6, x7]; try rfl) rfl ⟨by rw [HE.out], (((((((hb1.setCell (Nat.le_succ _) _).setCell (Nat.le_succ _) _).setCell (Nat.le_succ _) _).setCell (Nat.le_succ _) _).setCell (Nat.le_succ _) _).setCell (Nat.le_succ _) _).setCell (Nat.le_succ _) _).setCell (Nat.le_succ _) _⟩
set_option maxRecDepth 100000 in
set_option maxHeartbeats 4000000 in
theorem headOf_ff (n : Nat) (d : ByteArray) (w : World) (hT : Tab w) (hn : n < 4294967296) (h8 : d.size ≤ 8) :
    Calls Tryd.prog 40 #[.agg #[.bool false, .int .u32 n, .bool false, .string d]] w fun e w' => e = .returned (.agg (hcs (Fm.headOf false n false d.data.toList))) ∧ Below w.heap.size w w' := by
  have HW : Hid (∀ w, Tab w → Calls Tryd.prog 57 #[.int .i64 4, .bool false] w fun e w' => e = .returned (.int .i64 0) ∧ w' = w) := fun w hT => width_any 4 (by decide) false w hT 4 rfl
  have HT : Hid (∀ w', Below w.heap.size w w' → Tab w') := fun w' hb => hT.below hb
  have HE : Hid (hcs (Fm.headOf false n false d.data.toList) = #[.int .u64 0, .int .u64 ((n : Int)), .int .u64 0, .int .u64 0, .int .u64 n, .int .u64 0, .int .u64 0, .int .u64 (d.size : Int)]) := by
    show _ = _
    have e1 : d.data.toList.length = d.size := by simp
    have e2 : ((n / 2 ^ Fm.wd false 4 : Nat) : Int) = (n : Int) := by show ((n / 1 : Nat) : Int) = _; rw [Nat.div_one]
    unfold hcs Fm.headOf
    simp only [e1, e2]
    rfl
  generalize hcs (Fm.headOf false n false d.data.toList) = R at *
  clear hT
  go_enter Tryd.func40, Tryd.ntmps40
  go_wp2_with fail
  refine Lw.region_tail 24 (by kernel_rfl) (by kernel_rfl) ?_
  intro w1 hw1
  have hb1 : Below w.heap.size w w1 := hw1 ▸ (((Below.refl _ _).alloc (Nat.le_refl _) _).alloc (by simp) _).drew
  have HT1 : Hid (Tab w1) := HT.out _ hb1
  have HG : Hid (w1.heap[w.heap.size]? = some (.cells #[.bool false, .int .u32 n, .bool false, .string d] 24 (0, 0))) := by subst hw1; exact heap_alloc2_old _ _ _
  have HV : Hid (w1.heap[w.heap.size + 1]? = some (.cells (hcs Fm.Hd.zero) 66 (0, 0))) := by subst hw1; exact heap_alloc2_new _ _ _
  clear hw1 HT
  obtain ⟨y0, y1, y2, y3, _, _, _, _⟩ := four_cells HG.out
  obtain ⟨x0, x1, x2, x3, x4, x5, x6, x7, z0, z1, z2, z3, z4, z5, z6, z7⟩ := eight_cells HV.out
  simp only [List.take_succ_cons, List.take_zero, List.drop_succ_cons, List.drop_zero]
  repeat (first | still_step | still_call (HW.out _ HT1.out) | still_call (flag_any _ _))
  refine wpStill_nil ?_
  go_wp2
  exact bodyPost_ret (v := .agg #[.int .u64 0, .int .u64 ((n : Int)), .int .u64 0, .int .u64 0, .int .u64 n, .int .u64 0, .int .u64 0, .int .u64 (d.size : Int)])
    (by simp [results, Tryd.results40, go_sem, Bm.bv, x0, x1, x2, x3, x4, x5, x6, x7]; try rfl) rfl ⟨by rw [HE.out], (((((((hb1.setCell (Nat.le_succ _) _).setCell (Nat.le_succ _) _).setCell (Nat.le_succ _) _).setCell (Nat.le_succ _) _).setCell (Nat.le_succ _) _).setCell (Nat.le_succ _) _).setCell (Nat.le_succ _) _).setCell (Nat.le_succ _) _⟩
set_option maxRecDepth 100000 in
set_option maxHeartbeats 4000000 in
theorem headOf_ft (n : Nat) (d : ByteArray) (w : World) (hT : Tab w) (hn : n < 4294967296) (h8 : d.size ≤ 8) :
    Calls Tryd.prog 40 #[.agg #[.bool false, .int .u32 n, .bool true, .string d]] w fun e w' => e = .returned (.agg (hcs (Fm.headOf false n true d.data.toList))) ∧ Below w.heap.size w w' := by
  have HW : Hid (∀ w, Tab w → Calls Tryd.prog 57 #[.int .i64 4, .bool false] w fun e w' => e = .returned (.int .i64 0) ∧ w' = w) := fun w hT => width_any 4 (by decide) false w hT 4 rfl
  have HT : Hid (∀ w', Below w.heap.size w w' → Tab w') := fun w' hb => hT.below hb
  have HE : Hid (hcs (Fm.headOf false n true d.data.toList) = #[.int .u64 0, .int .u64 ((n : Int)), .int .u64 1, .int .u64 0, .int .u64 n, .int .u64 1, .int .u64 0, .int .u64 (d.size : Int)]) := by
    show _ = _
    have e1 : d.data.toList.length = d.size := by simp
    have e2 : ((n / 2 ^ Fm.wd false 4 : Nat) : Int) = (n : Int) := by show ((n / 1 : Nat) : Int) = _; rw [Nat.div_one]
    unfold hcs Fm.headOf
    simp only [e1, e2]
    rfl
  generalize hcs (Fm.headOf false n true d.data.toList) = R at *
  clear hT
  go_enter Tryd.func40, Tryd.ntmps40
  go_wp2_with fail
  refine Lw.region_tail 24 (by kernel_rfl) (by kernel_rfl) ?_
  intro w1 hw1
  have hb1 : Below w.heap.size w w1 := hw1 ▸ (((Below.refl _ _).alloc (Nat.le_refl _) _).alloc (by simp) _).drew
  have HT1 : Hid (Tab w1) := HT.out _ hb1
  have HG : Hid (w1.heap[w.heap.size]? = some (.cells #[.bool false, .int .u32 n, .bool true, .string d] 24 (0, 0))) := by subst hw1; exact heap_alloc2_old _ _ _
  have HV : Hid (w1.heap[w.heap.size + 1]? = some (.cells (hcs Fm.Hd.zero) 66 (0, 0))) := by subst hw1; exact heap_alloc2_new _ _ _
  clear hw1 HT
  obtain ⟨y0, y1, y2, y3, _, _, _, _⟩ := four_cells HG.out
  obtain ⟨x0, x1, x2, x3, x4, x5, x6, x7, z0, z1, z2, z3, z4, z5, z6, z7⟩ := eight_cells HV.out
  simp only [List.take_succ_cons, List.take_zero, List.drop_succ_cons, List.drop_zero]
  repeat (first | still_step | still_call (HW.out _ HT1.out) | still_call (flag_any _ _))
  refine wpStill_nil ?_
  go_wp2
  exact bodyPost_ret (v := .agg #[.int .u64 0, .int .u64 ((n : Int)), .int .u64 1, .int .u64 0, .int .u64 n, .int .u64 1, .int .u64 0, .int .u64 (d.size : Int)])
    (by simp [results, Tryd.results40, go_sem, Bm.bv, x0, x1, x2, x3, x4, x5, x6, x7]; try rfl) rfl ⟨by rw [HE.out], (((((((hb1.setCell (Nat.le_succ _) _).setCell (Nat.le_succ _) _).setCell (Nat.le_succ _) _).setCell (Nat.le_succ _) _).setCell (Nat.le_succ _) _).setCell (Nat.le_succ _) _).setCell (Nat.le_succ _) _).setCell (Nat.le_succ _) _⟩
theorem headOf_any (x : Bool) (n : Nat) (r : Bool) (d : ByteArray) (w : World) (hT : Tab w) (hn : n < 4294967296) (h8 : d.size ≤ 8) :
    Calls Tryd.prog 40 #[.agg #[.bool x, .int .u32 n, .bool r, .string d]] w fun e w' => e = .returned (.agg (hcs (Fm.headOf x n r d.data.toList))) ∧ Below w.heap.size w w' := by
  cases x <;> cases r
  · exact headOf_ff n d w hT hn h8
  · exact headOf_ft n d w hT hn h8
  · exact headOf_tf n d w hT hn h8
  · exact headOf_tt n d w hT hn h8
end Go.Proofs.YtaphdehhnnglgaaDoor
