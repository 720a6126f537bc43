/- What a head tells: the frame, over the program's own text. -/
import Derived.Test.YtaphdehhnnglgabDoorGx
import Derived.Test.YtaphdehhnnglgabDoorMb
import Derived.Deep.RegionWith
namespace Go.Proofs.YtaphdehhnnglgabDoor
open Go.RowKit
theorem id_walk (h : Fm.Hd) (ok : h.ok) (x : Bool) (hx : h.ext = x) : bits .or .u64 (IntKind.u64.wrap ((h.a1 : Int) * 2 ^ Fm.wd x 4)) (h.a4 : Int) % 4294967296 = (h.id : Int) := by
  have h4 : h.a4 < 18446744073709551616 := ok 4
  rw [IntKind.wrap_u64, show ((h.a1 : Int) * 2 ^ Fm.wd x 4) % 18446744073709551616 = ((h.a1 * 2 ^ Fm.wd x 4 % 18446744073709551616 : Nat) : Int) from by simp, u64_or_nat _ _ (Nat.mod_lt _ (by decide)) h4]
  unfold Fm.Hd.id
  rw [hx]
  simp
theorem fcell {w w1 : World} (h : Fm.Hd) (o : Obj) (hb : Below (w.heap.size + 1 + 1) ((w.alloc (Obj.cells (hcs h) 56)).alloc o) w1) (k : Nat) (v : Value) (hv : (hcs h)[k]? = some v) : w1.cell? ⟨w.heap.size, k, none⟩ = some v :=
  (hb.cell (p := ⟨w.heap.size, k, none⟩) (by simp; omega)).trans (by rw [cell_of_row _ _ _ _ _ _ (heap_alloc2_old _ _ _)]; exact hv)
set_option maxRecDepth 100000 in
set_option maxHeartbeats 1000000 in
theorem frameOf_ext (h : Fm.Hd) (w : World) (hT : Tab w) (ok : h.ok) (hx : h.ext = true) : Calls Tryd.prog 52 #[.agg (hcs h)] w fun e w' => e = .returned (.agg #[.bool true, .int .u32 h.id, .bool h.rtr, .string ⟨#[]⟩]) ∧ Below w.heap.size w w' := by
  have HX : Hid (∀ w, Calls Tryd.prog 46 #[.agg (hcs h)] w fun e w' => e = .returned (.bool true) ∧ Below w.heap.size w w') := fun w => hx ▸ ext_any h w
  have HR : Hid (∀ w, Calls Tryd.prog 56 #[.agg (hcs h)] w fun e w' => e = .returned (.bool h.rtr) ∧ Below w.heap.size w w') := fun w => rtr_any h w
  have HW : Hid (∀ w, Tab w → Calls Tryd.prog 44 #[.int .i64 4, .bool true] w fun e w' => e = .returned (.int .i64 18) ∧ w' = w) := fun w hT => width_any 4 (by decide) true w hT 4 rfl
  have HF : Hid (∀ {w w1 : World} (o : Obj) (_ : Below (w.heap.size + 1 + 1) ((w.alloc (Obj.cells (hcs h) 56)).alloc o) w1) (k : Nat) (v : Value) (_ : (hcs h)[k]? = some v), w1.cell? ⟨w.heap.size, k, none⟩ = some v) := fun o hb k v hv => fcell h o hb k v hv
  have HO : Hid (bits .or .u64 (IntKind.u64.wrap ((h.a1 : Int) * 262144)) (h.a4 : Int) % 4294967296 = (h.id : Int)) := by have := id_walk h ok _ hx; exact this
  have b1 : h.a1 < 18446744073709551616 := ok 1
  have b4 : h.a4 < 18446744073709551616 := ok 4
  clear ok hx
  unfold hcs at *
  generalize h.id = m at *
  generalize h.rtr = r at *
  go_enter Tryd.func52, Tryd.ntmps52
  go_wp2_with fail
  have hT2 : Hid (Tab _) := (hT.alloc (Obj.cells (hcs h) 56)).alloc (Obj.cells #[Value.bool false, Value.int IntKind.u32 0, Value.bool false, Value.string { data := #[] }] 24)
  clear hT
  refine Lw.wp_region_quiet_below (by kernel_rfl) (by kernel_rfl) ?_
  repeat (first
    | go_big_quiet_skip
    | (go_big_quiet_want; go_big_quiet_op; go_big_quiet_on)
    | (go_big_quiet_want; go_big_quiet_op; apply Exists.intro; refine ⟨fun _ hb' => ?_, ?_⟩; (first
      | exact Lw.val_rfl _
      | (go_at_call 46; exact Lw.calls_belowB (by simp) hb' (HX.out _))
      | (go_at_call 44; exact Lw.calls_sameB hb' (HW.out _ (hT2.out.belowB (by simp [hcs]) hb')))
      | (simp [go_sem, HF.out _ hb' 0 _ rfl, HF.out _ hb' 1 _ rfl, HF.out _ hb' 2 _ rfl, HF.out _ hb' 3 _ rfl, HF.out _ hb' 4 _ rfl, HF.out _ hb' 5 _ rfl, HF.out _ hb' 6 _ rfl, HF.out _ hb' 7 _ rfl]; rfl)); go_big_quiet_on))
  refine wpQuiet_nil ?_
  intro w3 hb3
  replace hb3 := below_cast (B' := w.heap.size + 1 + 1) (by simp) hb3
  go_wp2_with fail
  have c0 := HF.out _ hb3 0 _ rfl
  have c1 := HF.out _ hb3 1 _ rfl
  have c2 := HF.out _ hb3 2 _ rfl
  have c3 := HF.out _ hb3 3 _ rfl
  have c4 := HF.out _ hb3 4 _ rfl
  have c5 := HF.out _ hb3 5 _ rfl
  have c6 := HF.out _ hb3 6 _ rfl
  have c7 := HF.out _ hb3 7 _ rfl
  have HV : Hid (w3.heap[w.heap.size + 1]? = some (.cells #[.bool false, .int .u32 0, .bool false, .string ⟨#[]⟩] 24 (0, 0))) := (hb3.block (w.heap.size + 1) (by omega)).trans (heap_alloc2_new _ _ _)
  have hz : w.heap.size + 2 ≤ w3.heap.size := by have := hb3.size; simp at this; omega
  have hb4 : Below w.heap.size w w3 := (((Below.refl _ _).alloc (Nat.le_refl _) _).alloc (by simp) _).trans (hb3.mono (by omega))
  clear hb3 HF hT2
  go_region_with (first | (go_at_call 46; refine (HX.out _).mono ?_; rintro e w4 ⟨rfl, hb5⟩; have d0 := (hb5.cell (p := ⟨w.heap.size, 0, none⟩) (by simp; omega)).trans c0; have d1 := (hb5.cell (p := ⟨w.heap.size, 1, none⟩) (by simp; omega)).trans c1; have d2 := (hb5.cell (p := ⟨w.heap.size, 2, none⟩) (by simp; omega)).trans c2; have d3 := (hb5.cell (p := ⟨w.heap.size, 3, none⟩) (by simp; omega)).trans c3; have d4 := (hb5.cell (p := ⟨w.heap.size, 4, none⟩) (by simp; omega)).trans c4; have d5 := (hb5.cell (p := ⟨w.heap.size, 5, none⟩) (by simp; omega)).trans c5; have d6 := (hb5.cell (p := ⟨w.heap.size, 6, none⟩) (by simp; omega)).trans c6; have d7 := (hb5.cell (p := ⟨w.heap.size, 7, none⟩) (by simp; omega)).trans c7) | (go_at_call 56; refine (HR.out _).mono ?_; rintro e w5 ⟨rfl, hb6⟩; obtain ⟨y0, y1, y2, y3, z0, z1, z2, z3⟩ := four_cells (block_on2 (by simp; omega) hb5 hb6 HV.out)))
  all_goals
    have hb7 := below_join (below_join hb4.drew hb5) hb6
    go_wp2
    exact bodyPost_ret (v := .agg #[.bool true, .int .u32 (IntKind.u32.wrap (bits BinOp.or IntKind.u64 (IntKind.u64.wrap ((h.a1 : Int) * 262144)) (h.a4 : Int))), .bool r, .string ⟨#[]⟩]) (by simp [results, Tryd.results52, go_sem, y0, y1, y2, y3]) rfl
      ⟨by rw [IntKind.wrap_u32, HO.out], (((hb7.setCell (Nat.le_succ _) _).setCell (Nat.le_succ _) _).setCell (Nat.le_succ _) _).setCell (Nat.le_succ _) _⟩
set_option maxRecDepth 100000 in
set_option maxHeartbeats 1000000 in
theorem frameOf_std (h : Fm.Hd) (w : World) (hT : Tab w) (ok : h.ok) (hx : h.ext = false) : Calls Tryd.prog 52 #[.agg (hcs h)] w fun e w' => e = .returned (.agg #[.bool false, .int .u32 h.id, .bool h.rtr, .string ⟨#[]⟩]) ∧ Below w.heap.size w w' := by
  have HX : Hid (∀ w, Calls Tryd.prog 46 #[.agg (hcs h)] w fun e w' => e = .returned (.bool false) ∧ Below w.heap.size w w') := fun w => hx ▸ ext_any h w
  have HR : Hid (∀ w, Calls Tryd.prog 56 #[.agg (hcs h)] w fun e w' => e = .returned (.bool h.rtr) ∧ Below w.heap.size w w') := fun w => rtr_any h w
  have HW : Hid (∀ w, Tab w → Calls Tryd.prog 44 #[.int .i64 4, .bool false] w fun e w' => e = .returned (.int .i64 0) ∧ w' = w) := fun w hT => width_any 4 (by decide) false w hT 4 rfl
  have HF : Hid (∀ {w w1 : World} (o : Obj) (_ : Below (w.heap.size + 1 + 1) ((w.alloc (Obj.cells (hcs h) 56)).alloc o) w1) (k : Nat) (v : Value) (_ : (hcs h)[k]? = some v), w1.cell? ⟨w.heap.size, k, none⟩ = some v) := fun o hb k v hv => fcell h o hb k v hv
  have HO : Hid (bits .or .u64 (h.a1 : Int) (h.a4 : Int) % 4294967296 = (h.id : Int)) := by have := id_walk h ok _ hx; have h1 : h.a1 < 18446744073709551616 := ok 1; rw [show Fm.wd false 4 = 0 from rfl, show ((h.a1 : Int) * 2 ^ 0) = (h.a1 : Int) from by simp, IntKind.wrap_u64, show (h.a1 : Int) % 18446744073709551616 = (h.a1 : Int) from by omega] at this; exact this
  have b1 : h.a1 < 18446744073709551616 := ok 1
  have b4 : h.a4 < 18446744073709551616 := ok 4
  clear ok hx
  unfold hcs at *
  generalize h.id = m at *
  generalize h.rtr = r at *
  go_enter Tryd.func52, Tryd.ntmps52
  go_wp2_with fail
  have hT2 : Hid (Tab _) := (hT.alloc (Obj.cells (hcs h) 56)).alloc (Obj.cells #[Value.bool false, Value.int IntKind.u32 0, Value.bool false, Value.string { data := #[] }] 24)
  clear hT
  refine Lw.wp_region_quiet_below (by kernel_rfl) (by kernel_rfl) ?_
  repeat (first
    | go_big_quiet_skip
    | (go_big_quiet_want; go_big_quiet_op; go_big_quiet_on)
    | (go_big_quiet_want; go_big_quiet_op; apply Exists.intro; refine ⟨fun _ hb' => ?_, ?_⟩; (first
      | exact Lw.val_rfl _
      | (go_at_call 46; exact Lw.calls_belowB (by simp) hb' (HX.out _))
      | (go_at_call 44; exact Lw.calls_sameB hb' (HW.out _ (hT2.out.belowB (by simp [hcs]) hb')))
      | (simp [go_sem, HF.out _ hb' 0 _ rfl, HF.out _ hb' 1 _ rfl, HF.out _ hb' 2 _ rfl, HF.out _ hb' 3 _ rfl, HF.out _ hb' 4 _ rfl, HF.out _ hb' 5 _ rfl, HF.out _ hb' 6 _ rfl, HF.out _ hb' 7 _ rfl]; rfl)); go_big_quiet_on))
  refine wpQuiet_nil ?_
  intro w3 hb3
  replace hb3 := below_cast (B' := w.heap.size + 1 + 1) (by simp) hb3
  go_wp2_with fail
  have c0 := HF.out _ hb3 0 _ rfl
  have c1 := HF.out _ hb3 1 _ rfl
  have c2 := HF.out _ hb3 2 _ rfl
  have c3 := HF.out _ hb3 3 _ rfl
  have c4 := HF.out _ hb3 4 _ rfl
  have c5 := HF.out _ hb3 5 _ rfl
  have c6 := HF.out _ hb3 6 _ rfl
  have c7 := HF.out _ hb3 7 _ rfl
  have HV : Hid (w3.heap[w.heap.size + 1]? = some (.cells #[.bool false, .int .u32 0, .bool false, .string ⟨#[]⟩] 24 (0, 0))) := (hb3.block (w.heap.size + 1) (by omega)).trans (heap_alloc2_new _ _ _)
  have hz : w.heap.size + 2 ≤ w3.heap.size := by have := hb3.size; simp at this; omega
  have hb4 : Below w.heap.size w w3 := (((Below.refl _ _).alloc (Nat.le_refl _) _).alloc (by simp) _).trans (hb3.mono (by omega))
  clear hb3 HF hT2
  go_region_with (first | (go_at_call 46; refine (HX.out _).mono ?_; rintro e w4 ⟨rfl, hb5⟩; have d0 := (hb5.cell (p := ⟨w.heap.size, 0, none⟩) (by simp; omega)).trans c0; have d1 := (hb5.cell (p := ⟨w.heap.size, 1, none⟩) (by simp; omega)).trans c1; have d2 := (hb5.cell (p := ⟨w.heap.size, 2, none⟩) (by simp; omega)).trans c2; have d3 := (hb5.cell (p := ⟨w.heap.size, 3, none⟩) (by simp; omega)).trans c3; have d4 := (hb5.cell (p := ⟨w.heap.size, 4, none⟩) (by simp; omega)).trans c4; have d5 := (hb5.cell (p := ⟨w.heap.size, 5, none⟩) (by simp; omega)).trans c5; have d6 := (hb5.cell (p := ⟨w.heap.size, 6, none⟩) (by simp; omega)).trans c6; have d7 := (hb5.cell (p := ⟨w.heap.size, 7, none⟩) (by simp; omega)).trans c7) | (go_at_call 56; refine (HR.out _).mono ?_; rintro e w5 ⟨rfl, hb6⟩; obtain ⟨y0, y1, y2, y3, z0, z1, z2, z3⟩ := four_cells (block_on2 (by simp; omega) hb5 hb6 HV.out)))
  all_goals
    have hb7 := below_join (below_join hb4.drew hb5) hb6
    go_wp2
    exact bodyPost_ret (v := .agg #[.bool false, .int .u32 (IntKind.u32.wrap (bits BinOp.or IntKind.u64 (h.a1 : Int) (h.a4 : Int))), .bool r, .string ⟨#[]⟩]) (by simp [results, Tryd.results52, go_sem, y0, y1, y2, y3]) rfl
      ⟨by rw [IntKind.wrap_u32, HO.out], (((hb7.setCell (Nat.le_succ _) _).setCell (Nat.le_succ _) _).setCell (Nat.le_succ _) _).setCell (Nat.le_succ _) _⟩
theorem frameOf_any (h : Fm.Hd) (w : World) (hT : Tab w) (ok : h.ok) : Calls Tryd.prog 52 #[.agg (hcs h)] w fun e w' => e = .returned (.agg #[.bool h.ext, .int .u32 h.id, .bool h.rtr, .string ⟨#[]⟩]) ∧ Below w.heap.size w w' := by
  cases hx : h.ext
  · exact frameOf_std h w hT ok hx
  · exact frameOf_ext h w hT ok hx
end Go.Proofs.YtaphdehhnnglgabDoor
