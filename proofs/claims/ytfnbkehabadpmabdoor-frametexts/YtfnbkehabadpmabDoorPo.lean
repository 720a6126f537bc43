/- What Of of package bits answers, over the program's own text. -/
import Derived.Test.YtfnbkehabadpmabDoorPw
namespace Go.Proofs.YtfnbkehabadpmabDoor
open Go.RowKit

set_option maxRecDepth 100000 in
set_option maxHeartbeats 1000000 in
theorem of_low (n : Nat) (width : Int) (hA : width ≤ 0) (w : World) :
    Calls Tryd.prog 25 #[.int .u64 n, .int .i64 width] w fun e w' => e = .returned (.string ⟨(Bm.row (Bm.ofB n (Bm.clamp width))).toArray⟩) ∧ Below w.heap.size w w' := by
  have HC : Hid (Bm.clamp width = 0) := by unfold Bm.clamp; show _ = _; omega
  have hl := Bm.length_row (Bm.ofB n 64)
  rw [Bm.length_ofB] at hl
  have HD := Bm.row_drop n (Bm.clamp width) (Bm.clamp_le width)
  rw [HC.out] at HD
  have HS : Hid (Bm.row (Bm.ofB n (Bm.clamp width)) = ((Bm.row (Bm.ofB n 64)).drop (0)).take (0)) := by
    show _ = _
    rw [HC.out, ← HD]
    simp [hl]
  clear HD
  have Hi : Hid ((Tryd.prog.info? 58).map (·.size) = some (Bm.cellsOf (Bm.row (Bm.ofB n 64))).toArray.size) := by
    show _ = _
    simp only [List.size_toArray, Bm.length_cellsOf, hl]; exact Tryd.info64
  have Ho : Hid (64 = (Bm.cellsOf (Bm.row (Bm.ofB n 64))).toArray.size) := by
    show _ = _
    simp only [List.size_toArray, Bm.length_cellsOf, hl]
  have H1 : Hid ((Bm.cellsOf (Bm.row (Bm.ofB n 64))).toArray.all (·.oneCell') = true) := Bm.oneCell_all _
  have HL : Hid ((Bm.row (Bm.ofB n 64)).length = 64) := hl
  clear hl HC
  have HM : Hid (∀ w, Calls Tryd.prog 31 #[.int .u64 n] w fun e w' => e = .returned (.agg (Bm.cellsOf (Bm.row (Bm.ofB n 64))).toArray) ∧ Below w.heap.size w w') := fun w => word_any n w
  generalize Bm.row (Bm.ofB n (Bm.clamp width)) = res at *
  generalize Bm.row (Bm.ofB n 64) = ov at *
  have hmx : max width 0 = 0 := by omega
  have hmn : min (0 : Int) 64 = 0 := by omega
  go_enter Tryd.func25, Tryd.ntmps25
  go_wp2_with fail
  refine (HM.out _).mono ?_
  rintro e w1 ⟨rfl, hb⟩
  clear HM
  go_wp2_with (first | (refine Lw.wpList_store_rowB (P := Tryd.prog) rfl 58 (.tmp 5) (.tmp 7) rfl w1.heap.size (Bm.cellsOf ov).toArray rfl rfl 58 _ (heap_alloc_new _ _) Hi.out Ho.out H1.out w.heap.size w (hb.alloc hb.size _) hb.size ?_; intro w2 HV HO HZ2 hb3; clear HO HZ2; have hconv := Lw.run_conv_row (P := Tryd.prog) HV.out 49 5 9 Tryd.underlying49 Tryd.underlying5 Tryd.underlying9 (0) (0) (0) (by rw [HL.out]; omega) res HS.out))
  go_ret
  exact ⟨rfl, hb3⟩

set_option maxRecDepth 100000 in
set_option maxHeartbeats 1000000 in
theorem of_high (n : Nat) (width : Int) (hB : 64 ≤ width) (w : World) :
    Calls Tryd.prog 25 #[.int .u64 n, .int .i64 width] w fun e w' => e = .returned (.string ⟨(Bm.row (Bm.ofB n (Bm.clamp width))).toArray⟩) ∧ Below w.heap.size w w' := by
  have HC : Hid (Bm.clamp width = 64) := by unfold Bm.clamp; show _ = _; omega
  have hl := Bm.length_row (Bm.ofB n 64)
  rw [Bm.length_ofB] at hl
  have HD := Bm.row_drop n (Bm.clamp width) (Bm.clamp_le width)
  rw [HC.out] at HD
  have HS : Hid (Bm.row (Bm.ofB n (Bm.clamp width)) = ((Bm.row (Bm.ofB n 64)).drop (0)).take (64)) := by
    show _ = _
    rw [HC.out, List.drop_zero, List.take_of_length_le (by omega)]
  clear HD
  have Hi : Hid ((Tryd.prog.info? 58).map (·.size) = some (Bm.cellsOf (Bm.row (Bm.ofB n 64))).toArray.size) := by
    show _ = _
    simp only [List.size_toArray, Bm.length_cellsOf, hl]; exact Tryd.info64
  have Ho : Hid (64 = (Bm.cellsOf (Bm.row (Bm.ofB n 64))).toArray.size) := by
    show _ = _
    simp only [List.size_toArray, Bm.length_cellsOf, hl]
  have H1 : Hid ((Bm.cellsOf (Bm.row (Bm.ofB n 64))).toArray.all (·.oneCell') = true) := Bm.oneCell_all _
  have HL : Hid ((Bm.row (Bm.ofB n 64)).length = 64) := hl
  clear hl HC
  have HM : Hid (∀ w, Calls Tryd.prog 31 #[.int .u64 n] w fun e w' => e = .returned (.agg (Bm.cellsOf (Bm.row (Bm.ofB n 64))).toArray) ∧ Below w.heap.size w w') := fun w => word_any n w
  generalize Bm.row (Bm.ofB n (Bm.clamp width)) = res at *
  generalize Bm.row (Bm.ofB n 64) = ov at *
  have hmx : max width 0 = width := by omega
  have hmn : min width 64 = 64 := by omega
  go_enter Tryd.func25, Tryd.ntmps25
  go_wp2_with fail
  refine (HM.out _).mono ?_
  rintro e w1 ⟨rfl, hb⟩
  clear HM
  go_wp2_with (first | (refine Lw.wpList_store_rowB (P := Tryd.prog) rfl 58 (.tmp 5) (.tmp 7) rfl w1.heap.size (Bm.cellsOf ov).toArray rfl rfl 58 _ (heap_alloc_new _ _) Hi.out Ho.out H1.out w.heap.size w (hb.alloc hb.size _) hb.size ?_; intro w2 HV HO HZ2 hb3; clear HO HZ2; have hconv := Lw.run_conv_row (P := Tryd.prog) HV.out 49 5 9 Tryd.underlying49 Tryd.underlying5 Tryd.underlying9 (0) (64) (64) (by rw [HL.out]; omega) res HS.out))
  go_ret
  exact ⟨rfl, hb3⟩

set_option maxRecDepth 100000 in
set_option maxHeartbeats 1000000 in
theorem of_mid (n : Nat) (k : Nat) (hA : 0 < k) (hB : k < 64) (w : World) :
    Calls Tryd.prog 25 #[.int .u64 n, .int .i64 k] w fun e w' => e = .returned (.string ⟨(Bm.row (Bm.ofB n (Bm.clamp k))).toArray⟩) ∧ Below w.heap.size w w' := by
  have HC : Hid (Bm.clamp k = k) := by unfold Bm.clamp; show _ = _; omega
  have hl := Bm.length_row (Bm.ofB n 64)
  rw [Bm.length_ofB] at hl
  have HD := Bm.row_drop n (Bm.clamp k) (Bm.clamp_le k)
  rw [HC.out] at HD
  have HS : Hid (Bm.row (Bm.ofB n (Bm.clamp k)) = ((Bm.row (Bm.ofB n 64)).drop (64 - k)).take (k)) := by
    show _ = _
    rw [HC.out, ← HD]
    rw [List.take_of_length_le]; simp [hl]; omega
  clear HD
  have Hi : Hid ((Tryd.prog.info? 58).map (·.size) = some (Bm.cellsOf (Bm.row (Bm.ofB n 64))).toArray.size) := by
    show _ = _
    simp only [List.size_toArray, Bm.length_cellsOf, hl]; exact Tryd.info64
  have Ho : Hid (64 = (Bm.cellsOf (Bm.row (Bm.ofB n 64))).toArray.size) := by
    show _ = _
    simp only [List.size_toArray, Bm.length_cellsOf, hl]
  have H1 : Hid ((Bm.cellsOf (Bm.row (Bm.ofB n 64))).toArray.all (·.oneCell') = true) := Bm.oneCell_all _
  have HL : Hid ((Bm.row (Bm.ofB n 64)).length = 64) := hl
  clear hl HC
  have HM : Hid (∀ w, Calls Tryd.prog 31 #[.int .u64 n] w fun e w' => e = .returned (.agg (Bm.cellsOf (Bm.row (Bm.ofB n 64))).toArray) ∧ Below w.heap.size w w') := fun w => word_any n w
  generalize Bm.row (Bm.ofB n (Bm.clamp k)) = res at *
  generalize Bm.row (Bm.ofB n 64) = ov at *
  have hmx : max (k : Int) 0 = k := by omega
  have hsl : ∀ (g : Nat) (W : World), (Instr.sliceAt 58 (.pointer (some ⟨g, 0, none⟩)) (some (.int .i64 (64 - (k : Int)))) none none).run Tryd.prog W = .ok (.slice (some ⟨g, 64 - k, none⟩) k k) W := fun g W => by
    have h := Lw.run_sliceArr 58 5 64 (64 - k) Tryd.underlying58 Tryd.info1 g (64 - (k : Int)) (by omega) (by omega) W
    rw [show 64 - (64 - k) = k by omega] at h
    exact h
  have hmn : min (k : Int) 64 = k := by omega
  go_enter Tryd.func25, Tryd.ntmps25
  go_wp2_with fail
  refine (HM.out _).mono ?_
  rintro e w1 ⟨rfl, hb⟩
  clear HM
  go_wp2_with (first | (refine Lw.wpList_store_rowB (P := Tryd.prog) rfl 58 (.tmp 5) (.tmp 7) rfl w1.heap.size (Bm.cellsOf ov).toArray rfl rfl 58 _ (heap_alloc_new _ _) Hi.out Ho.out H1.out w.heap.size w (hb.alloc hb.size _) hb.size ?_; intro w2 HV HO HZ2 hb3; clear HO HZ2; have hconv := Lw.run_conv_row (P := Tryd.prog) HV.out 49 5 9 Tryd.underlying49 Tryd.underlying5 Tryd.underlying9 (64 - k) (k) (k) (by rw [HL.out]; omega) res HS.out))
  go_ret
  exact ⟨rfl, hb3⟩

theorem of_any (n : Nat) (width : Int) (w : World) :
    Calls Tryd.prog 25 #[.int .u64 n, .int .i64 width] w fun e w' => e = .returned (.string ⟨(Bm.row (Bm.ofB n (Bm.clamp width))).toArray⟩) ∧ Below w.heap.size w w' := by
  by_cases hA : width ≤ 0
  · exact of_low n width hA w
  · by_cases hB : 64 ≤ width
    · exact of_high n width hB w
    · obtain ⟨k, rfl⟩ := Int.eq_ofNat_of_zero_le (show 0 ≤ width by omega)
      exact of_mid n k (by omega) (by omega) w
end Go.Proofs.YtfnbkehabadpmabDoor
