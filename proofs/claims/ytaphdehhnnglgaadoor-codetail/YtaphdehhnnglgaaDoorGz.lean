/- What row of a head answers, over the program's own text. -/
import Derived.Test.YtaphdehhnnglgaaDoorGx
import Derived.Test.YtaphdehhnnglgaaDoorMc
import Derived.Deep.RegionWith
namespace Go.Proofs.YtaphdehhnnglgaaDoor
open Go.RowKit
theorem cat_row (a b : List Bool) : ByteArray.mk (Bm.row a).toArray ++ ByteArray.mk (Bm.row b).toArray = ByteArray.mk (Bm.row (a ++ b)).toArray := by
  rw [Bm.str_app]; simp [Bm.row]
theorem of_wd (h : Fm.Hd) (k : Nat) (w : World) (y z : Int) (hy : y = (h.at k : Int)) (hz : z = (Fm.wd h.ext k : Int)) :
    Calls Tryd.prog 27 #[.int .u64 y, .int .i64 z] w fun e w' => e = .returned (.string ⟨(Bm.row (Bm.ofB (h.at k) (Fm.wd h.ext k))).toArray⟩) ∧ Below w.heap.size w w' := by
  subst hy hz
  have := of_any (h.at k) (Fm.wd h.ext k : Int) w
  rw [show Bm.clamp (Fm.wd h.ext k : Int) = Fm.wd h.ext k from by have := Fm.wd_le h.ext k; unfold Bm.clamp; omega] at this
  exact this
theorem hcs_at (h : Fm.Hd) (k : Nat) (hk : k < 8) : (hcs h)[k]? = some (.int .u64 (h.at k : Int)) := by
  match k, hk with
  | 0, _ | 1, _ | 2, _ | 3, _ | 4, _ | 5, _ | 6, _ | 7, _ => rfl
set_option maxRecDepth 100000 in
set_option maxHeartbeats 1000000 in
theorem rowOf_any (h : Fm.Hd) (m : Nat) (hm : m ≤ 8) (w : World) (hT : Tab w) (y : Int) (hy : y = (m : Int)) :
    Calls Tryd.prog 41 #[.agg (hcs h), .int .i64 y] w fun e w' => e = .returned (.string ⟨(Bm.row (h.row m)).toArray⟩) ∧ Below w.heap.size w w' := by
  subst hy
  have HX : Hid (∀ w, Calls Tryd.prog 59 #[.agg (hcs h)] w fun e w' => e = .returned (.bool h.ext) ∧ Below w.heap.size w w') := fun w => ext_any h w
  have HW : Hid (∀ k : Nat, k < 8 → ∀ w, Tab w → Calls Tryd.prog 57 #[.int .i64 (k : Int), .bool h.ext] w fun e w' => e = .returned (.int .i64 (Fm.wd h.ext k)) ∧ w' = w) := fun k hk w hT => width_any k hk h.ext w hT _ rfl
  have HO : Hid (∀ (k : Nat) (w : World), Calls Tryd.prog 27 #[.int .u64 (h.at k : Int), .int .i64 (Fm.wd h.ext k : Int)] w fun e w' => e = .returned (.string ⟨(Bm.row (Bm.ofB (h.at k) (Fm.wd h.ext k))).toArray⟩) ∧ Below w.heap.size w w') := fun k w => of_wd h k w _ _ rfl rfl
  have HA : Hid (∀ k : Nat, k < 8 → (hcs h)[k]? = some (.int .u64 (h.at k : Int))) := fun k hk => hcs_at h k hk
  have HT : Hid (∀ w', Below w.heap.size w w' → Tab w') := fun w' hb => hT.below hb
  clear hT
  go_enter Tryd.func41, Tryd.ntmps41
  go_wp2_with fail
  go_loopw [5, 8] (fun t i wr => ∃ k : Nat, k ≤ m ∧ i = .int .i64 k ∧ t = .string ⟨(Bm.row (h.row k)).toArray⟩ ∧ Hid (wr.heap[w.heap.size]? = some (.cells (hcs h) 66 (0, 0))) ∧ Below w.heap.size w wr) (fun _ i _ => m - (intOf i).toNat)
  case atStart => exact ⟨0, Nat.zero_le _, rfl, rfl, heap_alloc_new _ _, (Below.refl _ _).alloc (Nat.le_refl _) _⟩
  case round =>
    obtain ⟨k, hk, rfl, rfl, HG, hb⟩ := hrel
    by_cases hlt : k < m
    · have hz : w.heap.size < wr.heap.size := (Array.getElem?_eq_some_iff.1 HG.out).1
      have HF : Hid (∀ w1, Below wr.heap.size wr w1 → ∀ (j : Nat) (v : Value), (hcs h)[j]? = some v → w1.cell? ⟨w.heap.size, j, none⟩ = some v) := fun w1 hb1 j v hv =>
        (hb1.cell (p := ⟨w.heap.size, j, none⟩) hz).trans (by rw [cell_of_row _ _ _ _ _ _ HG.out]; exact hv)
      have HTr : Hid (∀ w1, Below wr.heap.size wr w1 → Tab w1) := fun w1 hb1 => HT.out _ (below_join hb hb1)
      have HWk : Hid (_) := HW.out k (by omega)
      have HOk : Hid (_) := HO.out k
      have HAk : Hid (_) := HA.out k (by omega)
      have HS : Hid (_) := cat_row (h.row k) (Bm.ofB (h.at k) (Fm.wd h.ext k))
      have HR : Hid (_) := Fm.row_succ h k
      have hl1 : (ByteArray.mk (Bm.row (h.row k)).toArray).size ≤ 144 := by rw [size_str, Bm.length_row]; have := Fm.length_row_le h k; omega
      have hl2 : (ByteArray.mk (Bm.row (Bm.ofB (h.at k) (Fm.wd h.ext k))).toArray).size ≤ 18 := by rw [size_str, Bm.length_row, Bm.length_ofB]; exact Fm.wd_le _ _
      generalize ByteArray.mk (Bm.row (Bm.ofB (h.at k) (Fm.wd h.ext k))).toArray = S2 at *
      obtain ⟨S1, hS1⟩ : ∃ S1, S1 = ByteArray.mk (Bm.row (h.row k)).toArray := ⟨_, rfl⟩
      rw [← hS1] at HS hl1 ⊢
      clear hS1 HW HO HA HT
      go_wp2_with fail
      refine Lw.wp_region_quiet_below (by kernel_rfl) (by kernel_rfl) ?_
      repeat (first
        | go_big_quiet_skip
        | (go_big_quiet_want; go_big_quiet_op; go_big_quiet_on)
        | (go_big_quiet_want; go_big_quiet_op; apply Exists.intro; refine ⟨fun _ hb' => ?_, ?_⟩; (first
          | exact Lw.val_rfl _
          | (go_at_call 59; exact Lw.calls_below hb' (HX.out _))
          | (go_at_call 57; exact Lw.calls_same hb' (HWk.out _ (HTr.out _ hb')))
          | (go_at_call 27; exact Lw.calls_below hb' (HOk.out _))
          | (simp [go_sem, HF.out _ hb' k _ HAk.out]; rfl)
          | (simp [go_sem, HF.out _ hb' 0 _ rfl, HF.out _ hb' 1 _ rfl, HF.out _ hb' 2 _ rfl, HF.out _ hb' 3 _ rfl, HF.out _ hb' 4 _ rfl, HF.out _ hb' 5 _ rfl, HF.out _ hb' 6 _ rfl, HF.out _ hb' 7 _ rfl]; rfl)); go_big_quiet_on))
      refine wpQuiet_nil ?_
      intro w3 hb3
      go_wp2
      go_roundw
      case rel => exact ⟨k + 1, by omega, by go_num, by rw [HR.out, ← HS.out], (hb3.block _ hz).trans HG.out, below_join hb hb3⟩
      case measure => simp [intOf]; omega
    · obtain rfl : k = m := by omega
      go_wp2
      go_ret
      exact ⟨rfl, hb⟩
end Go.Proofs.YtaphdehhnnglgaaDoor
