/- What bit of package bits answers, over the program's own text. -/
import Derived.Test.YtoinkaakiohclaaDoorRows
import Derived.Test.YtoinkaakiohclaaDoorU1
import Derived.Test.YtoinkaakiohclaaDoorU2
import Derived.WalkKit
import Derived.WalkSpells
import Derived.WalkLawsBesides
import Derived.Handy
import Derived.Laws.CopyOwn
import Derived.Laws.Tables
import Derived.Laws.Rows
namespace Go.Proofs.YtoinkaakiohclaaDoor
open Go.RowKit
end Go.Proofs.YtoinkaakiohclaaDoor
/- What octet and word of package bits answer, over the program's own text. -/
namespace Go.Proofs.YtoinkaakiohclaaDoor
open Go.RowKit

theorem Tryd.info8 : (Tryd.prog.info? 92).map (·.size) = some 8 := by kernel_rfl
theorem Tryd.info64 : (Tryd.prog.info? 90).map (·.size) = some 64 := by kernel_rfl
theorem Tryd.info1 : (Tryd.prog.info? 5).map (·.size) = some 1 := by kernel_rfl

set_option maxHeartbeats 1000000 in
theorem octet_nat (b : Nat) (w : World) (h1 : b < 256) :
    Calls Tryd.prog 58 #[.int .u8 (b : Int)] w fun e w' => e = .returned (.agg (Bm.octV b).toArray) ∧ Below w.heap.size w w' := by
  have HL : Hid (_) := Bm.octV_lit b h1
  go_enter Tryd.func58, Tryd.ntmps58
  go_wp2
  go_rounds 9
  refine bodyPost_ret (v := .agg (Bm.octV b).toArray) ?_ rfl ⟨rfl, ((Below.refl _ _).alloc (Nat.le_refl _) _).alloc (by simp) _⟩
  rw [HL.out]
  refine results_cell_row (P := Tryd.prog) Tryd.results58 _ _ w.heap.size 92 _ (0, 0) _ rfl (heap_alloc2_old _ _ _) Tryd.underlying92 rfl Tryd.info8
theorem octet_any (b : Int) (w : World) (h0 : 0 ≤ b) (h1 : b < 256) :
    Calls Tryd.prog 58 #[.int .u8 b] w fun e w' => e = .returned (.agg (Bm.octV b.toNat).toArray) ∧ Below w.heap.size w w' := by
  obtain ⟨n, rfl⟩ := Int.eq_ofNat_of_zero_le h0
  exact octet_nat n w (by omega)
set_option maxRecDepth 100000 in
set_option maxHeartbeats 1000000 in
theorem word_any (n : Nat) (w : World)  :
    Calls Tryd.prog 57 #[.int .u64 n] w fun e w' => e = .returned (.agg (Bm.cellsOf (Bm.row (Bm.ofB n 64))).toArray) ∧ Below w.heap.size w w' := by
  go_enter Tryd.func57, Tryd.ntmps57
  go_wp2
  go_loopw [6] (fun i wr => ∃ k : Nat, k ≤ 8 ∧ i = .int .i64 k ∧ Hid (wr.heap[w.heap.size + 1]? = some (.cells (Bm.wcur n k).toArray 90 (0, 0))) ∧ Hid (wr.heap[w.heap.size]? = some (.cells (Bm.wcur n 0).toArray 90 (0, 0))) ∧ Below w.heap.size w wr ∧ w.heap.size + 2 ≤ wr.heap.size)
    (fun i _ => 8 - (intOf i).toNat)
  case atStart => 
    refine ⟨0, by omega, rfl, ?_, ?_, ((Below.refl _ _).alloc (Nat.le_refl _) _).alloc (by simp) _, by simp⟩
    · exact heap_alloc2_new _ _ _
    · exact heap_alloc2_old _ _ _
  case round =>
    obtain ⟨k, hk, rfl, HG, HZ, hb, hsz⟩ := hrel
    by_cases hlt : k < 8
    · go_wp2_with fail
      refine (octet_any _ _ (by omega) (by omega)).mono ?_
      rintro e w1 ⟨rfl, hb1⟩
      rw [Bm.octV_shift]
      have hsz1 := hb1.size
      have HG1 : Hid (_) := (hb1.block (w.heap.size + 1) (by omega)).trans HG.out
      have HZ1 : Hid (_) := (hb1.block (w.heap.size) (by omega)).trans HZ.out
      have hb2 : Below w.heap.size w w1 := hb.trans (hb1.mono (by omega))
      clear hb1 HG HZ hb
      have Hi : Hid ((Tryd.prog.info? 92).map (·.size) = some (Bm.octV (n / 2 ^ (56 - 8 * k) % 256)).toArray.size) := by rw [Bm.size_octV]; exact Tryd.info8
      have Ho : Hid (8 = (Bm.octV (n / 2 ^ (56 - 8 * k) % 256)).toArray.size) := by rw [Bm.size_octV]; exact rfl
      have H1 : Hid ((Bm.octV (n / 2 ^ (56 - 8 * k) % 256)).toArray.all (·.oneCell') = true) := Bm.oneCell_all _
      have HL : Hid ((Bm.octV (n / 2 ^ (56 - 8 * k) % 256)).length = 8) := Bm.length_octV _
      have HS : Hid (splice (Bm.wcur n k) (8 * k) (Bm.octV (n / 2 ^ (56 - 8 * k) % 256)) = Bm.wcur n (k + 1)) := Bm.splice_wcur n k hlt
      generalize Bm.octV (n / 2 ^ (56 - 8 * k) % 256) = ov at *
      go_wp2_with (refine Lw.wpList_store_rowB (P := Tryd.prog) rfl 92 (.tmp 5) (.tmp 15) rfl w1.heap.size ov.toArray rfl rfl 92 _ (heap_alloc_new _ _) Hi.out Ho.out H1.out w.heap.size w (hb2.alloc hb2.size _) (by omega) ?_; intro w2 HV HO HZ2 hb3)
      have HG2 : Hid (w2.heap[w.heap.size + 1]? = _) := ((HO.out (w.heap.size + 1) (by omega)).trans (Below.heap_alloc _ _ _ (by omega))).trans HG1.out
      have HR2 : Hid (w2.heap[w.heap.size]? = _) := ((HO.out (w.heap.size) (by omega)).trans (Below.heap_alloc _ _ _ (by omega))).trans HZ1.out
      clear HO HG1 HZ1 hb2
      have hsl : ∀ W : World, (Instr.sliceAt 90 (.pointer (some ⟨w.heap.size + 1, 0, none⟩)) (some (.int .i64 (IntKind.i64.wrap (8 * (k : Int))))) none none).run Tryd.prog W = .ok (.slice (some ⟨w.heap.size + 1, 8 * k, none⟩) (64 - 8 * k) (64 - 8 * k)) W :=
        fun W => Lw.run_sliceArr 90 5 64 (8 * k) Tryd.underlying90 Tryd.info1 (w.heap.size + 1) _ (by rw [IntKind.wrap_i64]; omega) (by omega) W
      have HN : Hid (ov.length = Nat.min 8 (64 - 8 * k)) := by
        show ov.length = _
        rw [HL.out]; exact (Nat.min_eq_left (by omega)).symm
      have HP : Hid (0 < ov.length → some (⟨w.heap.size + 1, 8 * k, none⟩ : Addr) = some ⟨w.heap.size + 1, 8 * k, none⟩ ∧ ∃ ad, some (⟨w1.heap.size, 0, none⟩ : Addr) = some ad ∧ ∀ j v, ov[j]? = some v → w2.drew.cell? (ad.add j) = some v) :=
        fun _ => ⟨rfl, _, rfl, fun j v hv => Lw.cell_row (w := w2.drew) HV.out j v hv⟩
      have HF : Hid (8 * k + ov.length ≤ (Bm.wcur n k).length) := by
        show _ ≤ _
        rw [HL.out, Bm.length_wcur n k hk]; omega
      have H1c : Hid (∀ v ∈ ov, v.oneCell' = true) := fun v hv => by
        have h := H1.out
        rw [Array.all_eq_true'] at h
        exact h v (by simpa using hv)
      go_region_law (refine step_copy_splice rfl (.tmp 18) (.tmp 19) 51 51 rfl 5 Tryd.underlying51 Tryd.info1 (some ⟨w.heap.size + 1, 8 * k, none⟩) (some ⟨w1.heap.size, 0, none⟩) (64 - 8 * k) (64 - 8 * k) 8 8 rfl rfl (w.heap.size + 1) (8 * k) (Bm.wcur n k) 90 HG2.out ov HN.out HP.out HF.out H1c.out (w.heap.size + 1) w2 (Below.refl _ _).drew (Nat.le_refl _) ?_; intro w3 HG3 hb4)
      rw [HS.out] at HG3
      have HR3 : Hid (w3.heap[w.heap.size]? = _) := (hb4.block w.heap.size (by omega)).trans HR2.out
      have hb5 : Below w.heap.size w w3 := hb3.trans (hb4.mono (by omega))
      have hs3 : w.heap.size + 2 ≤ w3.heap.size := by
        have h1 := hb4.size
        have h2 := HZ2.out
        simp at h2
        omega
      clear hb4 HR2 HG2 HV HZ2 hb3 HN HP HF H1c hsl Hi Ho H1 HL HS
      go_wp2
      go_roundw
      case rel => exact ⟨k + 1, by omega, by go_num, HG3, HR3, hb5, hs3⟩
      case measure => simp [intOf]; omega
    · obtain rfl : k = 8 := by omega
      have Ho : Hid ((Bm.wcur n 0).toArray.size = (Bm.wcur n 8).toArray.size) := by
        show _ = _
        rw [Bm.size_wcur n 0 (by omega), Bm.size_wcur n 8 (by omega)]
      have H1 : Hid ((Bm.wcur n 8).toArray.all (·.oneCell') = true) := Bm.oneCell_all _
      have HW : Hid (Bm.wcur n 8 = Bm.cellsOf (Bm.row (Bm.ofB n 64))) := Bm.wcur_full n
      have Hi : Hid ((Tryd.prog.info? 90).map (·.size) = some (Bm.wcur n 8).toArray.size) := by rw [Bm.size_wcur n 8 (by omega)]; exact Tryd.info64
      go_wp2_with (first | (refine wpList_load_row (P := Tryd.prog) rfl 90 (.tmp 3) rfl (w.heap.size + 1) rfl 90 _ (0, 0) _ HG.out Tryd.underlying90 rfl Hi.out ?_) | (refine Lw.wpList_store_rowB (P := Tryd.prog) rfl 90 (.tmp 2) (.tmp 22) rfl w.heap.size (Bm.wcur n 8).toArray rfl rfl 90 _ HZ.out Hi.out Ho.out H1.out w.heap.size w hb (Nat.le_refl _) ?_; intro w2 HV HO HZ2 hb3))
      refine bodyPost_ret (v := .agg (Bm.cellsOf (Bm.row (Bm.ofB n 64))).toArray) ?_ rfl ⟨rfl, hb3⟩
      rw [← HW.out]
      exact results_cell_row (P := Tryd.prog) Tryd.results57 _ _ w.heap.size 90 _ (0, 0) _ rfl HV.out Tryd.underlying90 rfl Hi.out
end Go.Proofs.YtoinkaakiohclaaDoor
/- What Of of package bits answers, over the program's own text. -/
namespace Go.Proofs.YtoinkaakiohclaaDoor
open Go.RowKit

set_option maxRecDepth 100000 in
set_option maxHeartbeats 1000000 in
theorem of_low (n : Nat) (width : Int) (hA : width ≤ 0) (w : World) :
    Calls Tryd.prog 53 #[.int .u64 n, .int .i64 width] w fun e w' => e = .returned (.string ⟨(Bm.row (Bm.ofB n (Bm.clamp width))).toArray⟩) ∧ Below w.heap.size w w' := by
  have HC : Hid (Bm.clamp width = 0) := by unfold Bm.clamp; show _ = _; omega
  have hl := Bm.length_row (Bm.ofB n 64)
  rw [Bm.length_ofB] at hl
  have HD := Bm.row_drop n (Bm.clamp width) (Bm.clamp_le width)
  rw [HC.out] at HD
  have HS : Hid (Bm.row (Bm.ofB n (Bm.clamp width)) = ((Bm.row (Bm.ofB n 64)).drop (0)).take (0)) := by
    show _ = _
    rw [HC.out, ← HD]
    simp [hl]
  clear HD
  have Hi : Hid ((Tryd.prog.info? 90).map (·.size) = some (Bm.cellsOf (Bm.row (Bm.ofB n 64))).toArray.size) := by
    show _ = _
    simp only [List.size_toArray, Bm.length_cellsOf, hl]; exact Tryd.info64
  have Ho : Hid (64 = (Bm.cellsOf (Bm.row (Bm.ofB n 64))).toArray.size) := by
    show _ = _
    simp only [List.size_toArray, Bm.length_cellsOf, hl]
  have H1 : Hid ((Bm.cellsOf (Bm.row (Bm.ofB n 64))).toArray.all (·.oneCell') = true) := Bm.oneCell_all _
  have HL : Hid ((Bm.row (Bm.ofB n 64)).length = 64) := hl
  clear hl HC
  have HM : Hid (∀ w, Calls Tryd.prog 57 #[.int .u64 n] w fun e w' => e = .returned (.agg (Bm.cellsOf (Bm.row (Bm.ofB n 64))).toArray) ∧ Below w.heap.size w w') := fun w => word_any n w
  generalize Bm.row (Bm.ofB n (Bm.clamp width)) = res at *
  generalize Bm.row (Bm.ofB n 64) = ov at *
  have hmx : max width 0 = 0 := by omega
  have hmn : min (0 : Int) 64 = 0 := by omega
  go_enter Tryd.func53, Tryd.ntmps53
  go_wp2_with fail
  refine (HM.out _).mono ?_
  rintro e w1 ⟨rfl, hb⟩
  clear HM
  go_wp2_with (first | (refine Lw.wpList_store_rowB (P := Tryd.prog) rfl 90 (.tmp 5) (.tmp 7) rfl w1.heap.size (Bm.cellsOf ov).toArray rfl rfl 90 _ (heap_alloc_new _ _) Hi.out Ho.out H1.out w.heap.size w (hb.alloc hb.size _) hb.size ?_; intro w2 HV HO HZ2 hb3; clear HO HZ2; have hconv := Lw.run_conv_row (P := Tryd.prog) HV.out 51 5 9 Tryd.underlying51 Tryd.underlying5 Tryd.underlying9 (0) (0) (0) (by rw [HL.out]; omega) res HS.out))
  go_ret
  exact ⟨rfl, hb3⟩

set_option maxRecDepth 100000 in
set_option maxHeartbeats 1000000 in
theorem of_high (n : Nat) (width : Int) (hB : 64 ≤ width) (w : World) :
    Calls Tryd.prog 53 #[.int .u64 n, .int .i64 width] w fun e w' => e = .returned (.string ⟨(Bm.row (Bm.ofB n (Bm.clamp width))).toArray⟩) ∧ Below w.heap.size w w' := by
  have HC : Hid (Bm.clamp width = 64) := by unfold Bm.clamp; show _ = _; omega
  have hl := Bm.length_row (Bm.ofB n 64)
  rw [Bm.length_ofB] at hl
  have HD := Bm.row_drop n (Bm.clamp width) (Bm.clamp_le width)
  rw [HC.out] at HD
  have HS : Hid (Bm.row (Bm.ofB n (Bm.clamp width)) = ((Bm.row (Bm.ofB n 64)).drop (0)).take (64)) := by
    show _ = _
    rw [HC.out, List.drop_zero, List.take_of_length_le (by omega)]
  clear HD
  have Hi : Hid ((Tryd.prog.info? 90).map (·.size) = some (Bm.cellsOf (Bm.row (Bm.ofB n 64))).toArray.size) := by
    show _ = _
    simp only [List.size_toArray, Bm.length_cellsOf, hl]; exact Tryd.info64
  have Ho : Hid (64 = (Bm.cellsOf (Bm.row (Bm.ofB n 64))).toArray.size) := by
    show _ = _
    simp only [List.size_toArray, Bm.length_cellsOf, hl]
  have H1 : Hid ((Bm.cellsOf (Bm.row (Bm.ofB n 64))).toArray.all (·.oneCell') = true) := Bm.oneCell_all _
  have HL : Hid ((Bm.row (Bm.ofB n 64)).length = 64) := hl
  clear hl HC
  have HM : Hid (∀ w, Calls Tryd.prog 57 #[.int .u64 n] w fun e w' => e = .returned (.agg (Bm.cellsOf (Bm.row (Bm.ofB n 64))).toArray) ∧ Below w.heap.size w w') := fun w => word_any n w
  generalize Bm.row (Bm.ofB n (Bm.clamp width)) = res at *
  generalize Bm.row (Bm.ofB n 64) = ov at *
  have hmx : max width 0 = width := by omega
  have hmn : min width 64 = 64 := by omega
  go_enter Tryd.func53, Tryd.ntmps53
  go_wp2_with fail
  refine (HM.out _).mono ?_
  rintro e w1 ⟨rfl, hb⟩
  clear HM
  go_wp2_with (first | (refine Lw.wpList_store_rowB (P := Tryd.prog) rfl 90 (.tmp 5) (.tmp 7) rfl w1.heap.size (Bm.cellsOf ov).toArray rfl rfl 90 _ (heap_alloc_new _ _) Hi.out Ho.out H1.out w.heap.size w (hb.alloc hb.size _) hb.size ?_; intro w2 HV HO HZ2 hb3; clear HO HZ2; have hconv := Lw.run_conv_row (P := Tryd.prog) HV.out 51 5 9 Tryd.underlying51 Tryd.underlying5 Tryd.underlying9 (0) (64) (64) (by rw [HL.out]; omega) res HS.out))
  go_ret
  exact ⟨rfl, hb3⟩

set_option maxRecDepth 100000 in
set_option maxHeartbeats 1000000 in
theorem of_mid (n : Nat) (k : Nat) (hA : 0 < k) (hB : k < 64) (w : World) :
    Calls Tryd.prog 53 #[.int .u64 n, .int .i64 k] w fun e w' => e = .returned (.string ⟨(Bm.row (Bm.ofB n (Bm.clamp k))).toArray⟩) ∧ Below w.heap.size w w' := by
  have HC : Hid (Bm.clamp k = k) := by unfold Bm.clamp; show _ = _; omega
  have hl := Bm.length_row (Bm.ofB n 64)
  rw [Bm.length_ofB] at hl
  have HD := Bm.row_drop n (Bm.clamp k) (Bm.clamp_le k)
  rw [HC.out] at HD
  have HS : Hid (Bm.row (Bm.ofB n (Bm.clamp k)) = ((Bm.row (Bm.ofB n 64)).drop (64 - k)).take (k)) := by
    show _ = _
    rw [HC.out, ← HD]
    rw [List.take_of_length_le]; simp [hl]; omega
  clear HD
  have Hi : Hid ((Tryd.prog.info? 90).map (·.size) = some (Bm.cellsOf (Bm.row (Bm.ofB n 64))).toArray.size) := by
    show _ = _
    simp only [List.size_toArray, Bm.length_cellsOf, hl]; exact Tryd.info64
  have Ho : Hid (64 = (Bm.cellsOf (Bm.row (Bm.ofB n 64))).toArray.size) := by
    show _ = _
    simp only [List.size_toArray, Bm.length_cellsOf, hl]
  have H1 : Hid ((Bm.cellsOf (Bm.row (Bm.ofB n 64))).toArray.all (·.oneCell') = true) := Bm.oneCell_all _
  have HL : Hid ((Bm.row (Bm.ofB n 64)).length = 64) := hl
  clear hl HC
  have HM : Hid (∀ w, Calls Tryd.prog 57 #[.int .u64 n] w fun e w' => e = .returned (.agg (Bm.cellsOf (Bm.row (Bm.ofB n 64))).toArray) ∧ Below w.heap.size w w') := fun w => word_any n w
  generalize Bm.row (Bm.ofB n (Bm.clamp k)) = res at *
  generalize Bm.row (Bm.ofB n 64) = ov at *
  have hmx : max (k : Int) 0 = k := by omega
  have hsl : ∀ (g : Nat) (W : World), (Instr.sliceAt 90 (.pointer (some ⟨g, 0, none⟩)) (some (.int .i64 (64 - (k : Int)))) none none).run Tryd.prog W = .ok (.slice (some ⟨g, 64 - k, none⟩) k k) W := fun g W => by
    have h := Lw.run_sliceArr 90 5 64 (64 - k) Tryd.underlying90 Tryd.info1 g (64 - (k : Int)) (by omega) (by omega) W
    rw [show 64 - (64 - k) = k by omega] at h
    exact h
  have hmn : min (k : Int) 64 = k := by omega
  go_enter Tryd.func53, Tryd.ntmps53
  go_wp2_with fail
  refine (HM.out _).mono ?_
  rintro e w1 ⟨rfl, hb⟩
  clear HM
  go_wp2_with (first | (refine Lw.wpList_store_rowB (P := Tryd.prog) rfl 90 (.tmp 5) (.tmp 7) rfl w1.heap.size (Bm.cellsOf ov).toArray rfl rfl 90 _ (heap_alloc_new _ _) Hi.out Ho.out H1.out w.heap.size w (hb.alloc hb.size _) hb.size ?_; intro w2 HV HO HZ2 hb3; clear HO HZ2; have hconv := Lw.run_conv_row (P := Tryd.prog) HV.out 51 5 9 Tryd.underlying51 Tryd.underlying5 Tryd.underlying9 (64 - k) (k) (k) (by rw [HL.out]; omega) res HS.out))
  go_ret
  exact ⟨rfl, hb3⟩

theorem of_any (n : Nat) (width : Int) (w : World) :
    Calls Tryd.prog 53 #[.int .u64 n, .int .i64 width] w fun e w' => e = .returned (.string ⟨(Bm.row (Bm.ofB n (Bm.clamp width))).toArray⟩) ∧ Below w.heap.size w w' := by
  by_cases hA : width ≤ 0
  · exact of_low n width hA w
  · by_cases hB : 64 ≤ width
    · exact of_high n width hB w
    · obtain ⟨k, rfl⟩ := Int.eq_ofNat_of_zero_le (show 0 ≤ width by omega)
      exact of_mid n k (by omega) (by omega) w
end Go.Proofs.YtoinkaakiohclaaDoor
/- What FromBytes of package bits answers, over the program's own text. -/
namespace Go.Proofs.YtoinkaakiohclaaDoor
open Go.RowKit
end Go.Proofs.YtoinkaakiohclaaDoor
