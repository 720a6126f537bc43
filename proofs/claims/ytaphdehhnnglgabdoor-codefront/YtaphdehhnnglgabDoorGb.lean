/- What Body of package frame answers, over the program's own text. -/
import Derived.Test.YtaphdehhnnglgabDoorGa
import Derived.Test.YtaphdehhnnglgabDoorGz
import Derived.Test.YtaphdehhnnglgabDoorMc
namespace Go.Proofs.YtaphdehhnnglgabDoor
open Go.RowKit
theorem head_ok (x : Bool) (n : Nat) (r : Bool) (d : List UInt8) (hn : n < 4294967296) (h8 : d.length ≤ 8) : (Fm.headOf x n r d).ok := by
  have h1 : n / 2 ^ Fm.wd x 4 ≤ n := Nat.div_le_self _ _
  have b1 := Bm.bv_le (x || r)
  have b2 := Bm.bv_le x
  have b3 := Bm.bv_le r
  intro k
  match k with
  | 0 => exact (by decide : 0 < 18446744073709551616)
  | 1 => show n / 2 ^ Fm.wd x 4 < _; omega
  | 2 => show Bm.bv (x || r) < _; omega
  | 3 => show Bm.bv x < _; omega
  | 4 => show n < _; omega
  | 5 => show Bm.bv r < _; omega
  | 6 => exact (by decide : 0 < 18446744073709551616)
  | 7 => show d.length < _; omega
  | k + 8 => exact (by decide : 0 < 18446744073709551616)
set_option maxRecDepth 100000 in
set_option maxHeartbeats 1000000 in
theorem fBody_any (x : Bool) (n : Nat) (r : Bool) (d : ByteArray) (w : World) (hT : Tab w) (hn : n < 4294967296) :
    Calls Tryd.prog 18 #[.agg #[.bool x, .int .u32 n, .bool r, .string d]] w fun e w' => e = .returned (.string ⟨(Bm.row (Fm.body x n r d.data.toList)).toArray⟩) ∧ Below w.heap.size w w' := by
  have HI : Hid (∀ w, Tab w → Calls Tryd.prog 17 #[.agg #[.bool x, .int .u32 n, .bool r, .string d]] w fun e w' => e = .returned (.bool (Fm.isF x n r d.data.toList)) ∧ Below w.heap.size w w') := fun w hT => fIs_any x n r d w hT
  have HA : Hid (Fm.body x n r d.data.toList = if Fm.isF x n r d.data.toList then Fm.body0 x n r d.data.toList else []) := rfl
  have HQ : Hid (Fm.isF x n r d.data.toList = true → d.size ≤ 8) := fun h => by simpa using (Fm.isF_parts h).2.1
  have hT1 := hT.alloc (.cells #[.bool x, .int .u32 n, .bool r, .string d] 24)
  generalize Fm.body x n r d.data.toList = res at *
  generalize Fm.isF x n r d.data.toList = b at *
  cases b
  · have HE : Hid (res = []) := HA.out
    go_enter Tryd.func18, Tryd.ntmps18
    go_wp2_with fail
    refine (HI.out _ hT1).mono ?_
    rintro e w1 ⟨rfl, hb1⟩
    have hb2 := below_join ((Below.refl _ _).alloc (Nat.le_refl _) _) hb1
    go_wp2
    go_ret
    exact ⟨by rw [HE.out]; rfl, hb2⟩
  · have HE : Hid (res = Fm.body0 x n r d.data.toList) := HA.out
    have h8 := HQ.out rfl
    have HH : Hid (∀ w, Tab w → Calls Tryd.prog 31 #[.agg #[.bool x, .int .u32 n, .bool r, .string d]] w fun e w' => e = .returned (.agg (hcs (Fm.headOf x n r d.data.toList))) ∧ Below w.heap.size w w') := fun w hT => headOf_any x n r d w hT hn h8
    have HR : Hid (∀ w, Tab w → Calls Tryd.prog 32 #[.agg (hcs (Fm.headOf x n r d.data.toList)), .int .i64 8] w fun e w' => e = .returned (.string ⟨(Bm.row ((Fm.headOf x n r d.data.toList).row 8)).toArray⟩) ∧ Below w.heap.size w w') := fun w hT => rowOf_any (Fm.headOf x n r d.data.toList) 8 (by decide) w hT 8 rfl
    have HB : Hid (∀ w, Calls Tryd.prog 33 #[.string d] w fun e w' => e = .returned (.string ⟨(Bm.row (Bm.fromB d.data.toList)).toArray⟩) ∧ Below w.heap.size w w') := fun w => from_any d w (by omega)
    have HS : Hid (_) := cat_row ((Fm.headOf x n r d.data.toList).row 8) (Bm.fromB d.data.toList)
    rw [Fm.row_body] at HS
    have hl1 : (ByteArray.mk (Bm.row ((Fm.headOf x n r d.data.toList).row 8)).toArray).size ≤ 144 := by rw [size_str, Bm.length_row]; have := Fm.length_row_le (Fm.headOf x n r d.data.toList) 8; omega
    have hl2 : (ByteArray.mk (Bm.row (Bm.fromB d.data.toList)).toArray).size ≤ 64 := by rw [size_str, Bm.length_row, Bm.length_fromB]; simp; omega
    generalize ByteArray.mk (Bm.row ((Fm.headOf x n r d.data.toList).row 8)).toArray = S1 at *
    generalize ByteArray.mk (Bm.row (Bm.fromB d.data.toList)).toArray = S2 at *
    clear HA HQ
    go_enter Tryd.func18, Tryd.ntmps18
    go_wp2_with fail
    refine (HI.out _ hT1).mono ?_
    rintro e w1 ⟨rfl, hb1⟩
    have HF : Hid (∀ w2, Below w1.heap.size w1 w2 → ∀ (k : Nat) (v : Value), (fcs x n r d)[k]? = some v → w2.cell? ⟨w.heap.size, k, none⟩ = some v) := fun w2 hb k v hv => (hb.cell (p := ⟨w.heap.size, k, none⟩) (Nat.lt_of_lt_of_le (by simp) hb1.size)).trans (fr_cell hb1 (by simp) k v hv)
    have hT2 : Hid (Tab w1) := hT1.below hb1
    have hb2 := below_join ((Below.refl _ _).alloc (Nat.le_refl _) _) hb1
    clear hb1 HI hT hT1
    go_wp2_with fail
    refine Lw.wp_region_quiet_below (by kernel_rfl) (by kernel_rfl) ?_
    repeat (first
      | go_big_quiet_skip
      | (go_big_quiet_want; go_big_quiet_op; go_big_quiet_on)
      | (go_big_quiet_want; go_big_quiet_op; apply Exists.intro; refine ⟨fun _ hb' => ?_, ?_⟩; (first
        | exact Lw.val_rfl _
        | (go_at_call 31; exact Lw.calls_below hb' (HH.out _ (hT2.out.below hb')))
        | (go_at_call 32; exact Lw.calls_below hb' (HR.out _ (hT2.out.below hb')))
        | (go_at_call 33; exact Lw.calls_below hb' (HB.out _))
        | (simp [go_sem, HF.out _ hb' 3 _ rfl]; rfl)
        | (simp [go_sem, HF.out _ hb' 0 _ rfl, HF.out _ hb' 1 _ rfl, HF.out _ hb' 2 _ rfl, HF.out _ hb' 3 _ rfl]; rfl)); go_big_quiet_on))
    refine wpQuiet_nil ?_
    intro w3 hb3
    have hb4 := below_join hb2 hb3
    go_wp2
    go_ret
    exact ⟨by rw [HE.out, ← HS.out]; rfl, hb4⟩
end Go.Proofs.YtaphdehhnnglgabDoor
