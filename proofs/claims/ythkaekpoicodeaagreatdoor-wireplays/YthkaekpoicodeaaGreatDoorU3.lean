/- What bit of package bits answers, over the program's own text. -/
import Derived.Test.YthkaekpoicodeaaGreatDoorRows
import Derived.Test.YthkaekpoicodeaaGreatDoorU1
import Derived.Test.YthkaekpoicodeaaGreatDoorU2
import Derived.WalkKit
import Derived.WalkSpells
import Derived.WalkLawsBesides
import Derived.Handy
import Derived.Laws.CopyOwn
import Derived.Laws.Tables
import Derived.Laws.Rows
namespace Go.Proofs.YthkaekpoicodeaaGreatDoor
open Go.RowKit
set_option maxHeartbeats 400000 in
theorem bit_any (c : Int) (w : World) :
    Calls Tryz.prog 85 #[.int .u8 c] w fun e w' => e = .returned (.int .u8 (Bm.bitI c)) ∧ w' = w := by
  unfold Bm.bitI
  by_cases h : c = 49
  · have hb : (c == 49) = true := by simp [h]
    rw [if_pos h]
    clear h
    go_enter Tryz.func85, Tryz.ntmps85
    go_wp2
    go_ret
    exact ⟨rfl, rfl⟩
  · have hb : (c == 49) = false := by simp [h]
    rw [if_neg h]
    go_enter Tryz.func85, Tryz.ntmps85
    go_wp2
    go_ret
    exact ⟨rfl, rfl⟩
end Go.Proofs.YthkaekpoicodeaaGreatDoor
/- What CRC of package bits answers, over the program's own text. -/
namespace Go.Proofs.YthkaekpoicodeaaGreatDoor
open Go.RowKit
set_option maxHeartbeats 400000 in
theorem crc_any (s : ByteArray) (w : World) (hs : s.size ≤ maxLen) :
    Calls Tryz.prog 53 #[.string s] w fun e w' => e = .returned (.int .u16 (Bm.crc (Bm.read s.data.toList))) ∧ w' = w := by
  unfold maxLen at hs
  go_enter Tryz.func53, Tryz.ntmps53
  go_wp2
  go_loop [3, 8] (fun n i => ∃ k : Nat, k ≤ s.size ∧ i = .int .i64 k ∧ n = .int .u16 (Bm.crc (Bm.read (s.data.toList.take k)))) (fun _ i => s.size - (intOf i).toNat)
  case atStart => exact ⟨0, Nat.zero_le _, rfl, rfl⟩
  case round =>
    obtain ⟨k, hk, rfl, rfl⟩ := hrel
    by_cases hlt : k < s.size
    · have HS : Hid (Bm.crc (Bm.read (s.data.toList.take (k + 1))) = Bm.crcStep (Bm.crc (Bm.read (s.data.toList.take k))) (Bm.isOne s[k])) := by
        rw [Bm.read_take_succ s k hlt]; exact Bm.crc_snoc _ _
      have hm := Bm.crc_lt (Bm.read (s.data.toList.take k))
      generalize Bm.crc (Bm.read (s.data.toList.take k)) = m at *
      have h0 := Bm.bitI_ge (s[k].toNat : Int)
      have h1 := Bm.bitI_le (s[k].toNat : Int)
      go_wp2_with (go_at_call 85; refine (bit_any _ _).mono ?_; rintro e w' ⟨rfl, rfl⟩)
      all_goals
        go_round
        case rel => exact ⟨k + 1, by omega, by go_num, by rw [HS.out]; first | rw [Bm.crc_yes _ _ hm ‹_›] | rw [Bm.crc_no _ _ hm ‹_›]⟩
        case measure => simp [intOf]; omega
    · go_wp2
      go_ret
      exact ⟨ret_int (by rw [Bm.take_all s k (by omega)]), rfl⟩
end Go.Proofs.YthkaekpoicodeaaGreatDoor
/- What octet and word of package bits answer, over the program's own text. -/
namespace Go.Proofs.YthkaekpoicodeaaGreatDoor
open Go.RowKit

theorem Tryz.info8 : (Tryz.prog.info? 133).map (·.size) = some 8 := by kernel_rfl
theorem Tryz.info64 : (Tryz.prog.info? 114).map (·.size) = some 64 := by kernel_rfl
theorem Tryz.info1 : (Tryz.prog.info? 5).map (·.size) = some 1 := by kernel_rfl

set_option maxHeartbeats 1000000 in
theorem octet_nat (b : Nat) (w : World) (h1 : b < 256) :
    Calls Tryz.prog 105 #[.int .u8 (b : Int)] w fun e w' => e = .returned (.agg (Bm.octV b).toArray) ∧ Below w.heap.size w w' := by
  have HL : Hid (_) := Bm.octV_lit b h1
  go_enter Tryz.func105, Tryz.ntmps105
  go_wp2
  go_rounds 9
  refine bodyPost_ret (v := .agg (Bm.octV b).toArray) ?_ rfl ⟨rfl, ((Below.refl _ _).alloc (Nat.le_refl _) _).alloc (by simp) _⟩
  rw [HL.out]
  refine results_cell_row (P := Tryz.prog) Tryz.results105 _ _ w.heap.size 133 _ (0, 0) _ rfl (heap_alloc2_old _ _ _) Tryz.underlying133 rfl Tryz.info8
theorem octet_any (b : Int) (w : World) (h0 : 0 ≤ b) (h1 : b < 256) :
    Calls Tryz.prog 105 #[.int .u8 b] w fun e w' => e = .returned (.agg (Bm.octV b.toNat).toArray) ∧ Below w.heap.size w w' := by
  obtain ⟨n, rfl⟩ := Int.eq_ofNat_of_zero_le h0
  exact octet_nat n w (by omega)
set_option maxRecDepth 100000 in
set_option maxHeartbeats 1000000 in
theorem word_any (n : Nat) (w : World)  :
    Calls Tryz.prog 84 #[.int .u64 n] w fun e w' => e = .returned (.agg (Bm.cellsOf (Bm.row (Bm.ofB n 64))).toArray) ∧ Below w.heap.size w w' := by
  go_enter Tryz.func84, Tryz.ntmps84
  go_wp2
  go_loopw [6] (fun i wr => ∃ k : Nat, k ≤ 8 ∧ i = .int .i64 k ∧ Hid (wr.heap[w.heap.size + 1]? = some (.cells (Bm.wcur n k).toArray 114 (0, 0))) ∧ Hid (wr.heap[w.heap.size]? = some (.cells (Bm.wcur n 0).toArray 114 (0, 0))) ∧ Below w.heap.size w wr ∧ w.heap.size + 2 ≤ wr.heap.size)
    (fun i _ => 8 - (intOf i).toNat)
  case atStart => 
    refine ⟨0, by omega, rfl, ?_, ?_, ((Below.refl _ _).alloc (Nat.le_refl _) _).alloc (by simp) _, by simp⟩
    · exact heap_alloc2_new _ _ _
    · exact heap_alloc2_old _ _ _
  case round =>
    obtain ⟨k, hk, rfl, HG, HZ, hb, hsz⟩ := hrel
    by_cases hlt : k < 8
    · go_wp2_with fail
      refine (octet_any _ _ (by omega) (by omega)).mono ?_
      rintro e w1 ⟨rfl, hb1⟩
      rw [Bm.octV_shift]
      have hsz1 := hb1.size
      have HG1 : Hid (_) := (hb1.block (w.heap.size + 1) (by omega)).trans HG.out
      have HZ1 : Hid (_) := (hb1.block (w.heap.size) (by omega)).trans HZ.out
      have hb2 : Below w.heap.size w w1 := hb.trans (hb1.mono (by omega))
      clear hb1 HG HZ hb
      have Hi : Hid ((Tryz.prog.info? 133).map (·.size) = some (Bm.octV (n / 2 ^ (56 - 8 * k) % 256)).toArray.size) := by rw [Bm.size_octV]; exact Tryz.info8
      have Ho : Hid (8 = (Bm.octV (n / 2 ^ (56 - 8 * k) % 256)).toArray.size) := by rw [Bm.size_octV]; exact rfl
      have H1 : Hid ((Bm.octV (n / 2 ^ (56 - 8 * k) % 256)).toArray.all (·.oneCell') = true) := Bm.oneCell_all _
      have HL : Hid ((Bm.octV (n / 2 ^ (56 - 8 * k) % 256)).length = 8) := Bm.length_octV _
      have HS : Hid (splice (Bm.wcur n k) (8 * k) (Bm.octV (n / 2 ^ (56 - 8 * k) % 256)) = Bm.wcur n (k + 1)) := Bm.splice_wcur n k hlt
      generalize Bm.octV (n / 2 ^ (56 - 8 * k) % 256) = ov at *
      go_wp2_with (refine Lw.wpList_store_rowB (P := Tryz.prog) rfl 133 (.tmp 5) (.tmp 15) rfl w1.heap.size ov.toArray rfl rfl 133 _ (heap_alloc_new _ _) Hi.out Ho.out H1.out w.heap.size w (hb2.alloc hb2.size _) (by omega) ?_; intro w2 HV HO HZ2 hb3)
      have HG2 : Hid (w2.heap[w.heap.size + 1]? = _) := ((HO.out (w.heap.size + 1) (by omega)).trans (Below.heap_alloc _ _ _ (by omega))).trans HG1.out
      have HR2 : Hid (w2.heap[w.heap.size]? = _) := ((HO.out (w.heap.size) (by omega)).trans (Below.heap_alloc _ _ _ (by omega))).trans HZ1.out
      clear HO HG1 HZ1 hb2
      have hsl : ∀ W : World, (Instr.sliceAt 114 (.pointer (some ⟨w.heap.size + 1, 0, none⟩)) (some (.int .i64 (IntKind.i64.wrap (8 * (k : Int))))) none none).run Tryz.prog W = .ok (.slice (some ⟨w.heap.size + 1, 8 * k, none⟩) (64 - 8 * k) (64 - 8 * k)) W :=
        fun W => Lw.run_sliceArr 114 5 64 (8 * k) Tryz.underlying114 Tryz.info1 (w.heap.size + 1) _ (by rw [IntKind.wrap_i64]; omega) (by omega) W
      have HN : Hid (ov.length = Nat.min 8 (64 - 8 * k)) := by
        show ov.length = _
        rw [HL.out]; exact (Nat.min_eq_left (by omega)).symm
      have HP : Hid (0 < ov.length → some (⟨w.heap.size + 1, 8 * k, none⟩ : Addr) = some ⟨w.heap.size + 1, 8 * k, none⟩ ∧ ∃ ad, some (⟨w1.heap.size, 0, none⟩ : Addr) = some ad ∧ ∀ j v, ov[j]? = some v → w2.drew.cell? (ad.add j) = some v) :=
        fun _ => ⟨rfl, _, rfl, fun j v hv => Lw.cell_row (w := w2.drew) HV.out j v hv⟩
      have HF : Hid (8 * k + ov.length ≤ (Bm.wcur n k).length) := by
        show _ ≤ _
        rw [HL.out, Bm.length_wcur n k hk]; omega
      have H1c : Hid (∀ v ∈ ov, v.oneCell' = true) := fun v hv => by
        have h := H1.out
        rw [Array.all_eq_true'] at h
        exact h v (by simpa using hv)
      go_region_law (refine step_copy_splice rfl (.tmp 18) (.tmp 19) 74 74 rfl 5 Tryz.underlying74 Tryz.info1 (some ⟨w.heap.size + 1, 8 * k, none⟩) (some ⟨w1.heap.size, 0, none⟩) (64 - 8 * k) (64 - 8 * k) 8 8 rfl rfl (w.heap.size + 1) (8 * k) (Bm.wcur n k) 114 HG2.out ov HN.out HP.out HF.out H1c.out (w.heap.size + 1) w2 (Below.refl _ _).drew (Nat.le_refl _) ?_; intro w3 HG3 hb4)
      rw [HS.out] at HG3
      have HR3 : Hid (w3.heap[w.heap.size]? = _) := (hb4.block w.heap.size (by omega)).trans HR2.out
      have hb5 : Below w.heap.size w w3 := hb3.trans (hb4.mono (by omega))
      have hs3 : w.heap.size + 2 ≤ w3.heap.size := by
        have h1 := hb4.size
        have h2 := HZ2.out
        simp at h2
        omega
      clear hb4 HR2 HG2 HV HZ2 hb3 HN HP HF H1c hsl Hi Ho H1 HL HS
      go_wp2
      go_roundw
      case rel => exact ⟨k + 1, by omega, by go_num, HG3, HR3, hb5, hs3⟩
      case measure => simp [intOf]; omega
    · obtain rfl : k = 8 := by omega
      have Ho : Hid ((Bm.wcur n 0).toArray.size = (Bm.wcur n 8).toArray.size) := by
        show _ = _
        rw [Bm.size_wcur n 0 (by omega), Bm.size_wcur n 8 (by omega)]
      have H1 : Hid ((Bm.wcur n 8).toArray.all (·.oneCell') = true) := Bm.oneCell_all _
      have HW : Hid (Bm.wcur n 8 = Bm.cellsOf (Bm.row (Bm.ofB n 64))) := Bm.wcur_full n
      have Hi : Hid ((Tryz.prog.info? 114).map (·.size) = some (Bm.wcur n 8).toArray.size) := by rw [Bm.size_wcur n 8 (by omega)]; exact Tryz.info64
      go_wp2_with (first | (refine wpList_load_row (P := Tryz.prog) rfl 114 (.tmp 3) rfl (w.heap.size + 1) rfl 114 _ (0, 0) _ HG.out Tryz.underlying114 rfl Hi.out ?_) | (refine Lw.wpList_store_rowB (P := Tryz.prog) rfl 114 (.tmp 2) (.tmp 22) rfl w.heap.size (Bm.wcur n 8).toArray rfl rfl 114 _ HZ.out Hi.out Ho.out H1.out w.heap.size w hb (Nat.le_refl _) ?_; intro w2 HV HO HZ2 hb3))
      refine bodyPost_ret (v := .agg (Bm.cellsOf (Bm.row (Bm.ofB n 64))).toArray) ?_ rfl ⟨rfl, hb3⟩
      rw [← HW.out]
      exact results_cell_row (P := Tryz.prog) Tryz.results84 _ _ w.heap.size 114 _ (0, 0) _ rfl HV.out Tryz.underlying114 rfl Hi.out
end Go.Proofs.YthkaekpoicodeaaGreatDoor
/- What Of of package bits answers, over the program's own text. -/
namespace Go.Proofs.YthkaekpoicodeaaGreatDoor
open Go.RowKit

set_option maxRecDepth 100000 in
set_option maxHeartbeats 1000000 in
theorem of_low (n : Nat) (width : Int) (hA : width ≤ 0) (w : World) :
    Calls Tryz.prog 52 #[.int .u64 n, .int .i64 width] w fun e w' => e = .returned (.string ⟨(Bm.row (Bm.ofB n (Bm.clamp width))).toArray⟩) ∧ Below w.heap.size w w' := by
  have HC : Hid (Bm.clamp width = 0) := by unfold Bm.clamp; show _ = _; omega
  have hl := Bm.length_row (Bm.ofB n 64)
  rw [Bm.length_ofB] at hl
  have HD := Bm.row_drop n (Bm.clamp width) (Bm.clamp_le width)
  rw [HC.out] at HD
  have HS : Hid (Bm.row (Bm.ofB n (Bm.clamp width)) = ((Bm.row (Bm.ofB n 64)).drop (0)).take (0)) := by
    show _ = _
    rw [HC.out, ← HD]
    simp [hl]
  clear HD
  have Hi : Hid ((Tryz.prog.info? 114).map (·.size) = some (Bm.cellsOf (Bm.row (Bm.ofB n 64))).toArray.size) := by
    show _ = _
    simp only [List.size_toArray, Bm.length_cellsOf, hl]; exact Tryz.info64
  have Ho : Hid (64 = (Bm.cellsOf (Bm.row (Bm.ofB n 64))).toArray.size) := by
    show _ = _
    simp only [List.size_toArray, Bm.length_cellsOf, hl]
  have H1 : Hid ((Bm.cellsOf (Bm.row (Bm.ofB n 64))).toArray.all (·.oneCell') = true) := Bm.oneCell_all _
  have HL : Hid ((Bm.row (Bm.ofB n 64)).length = 64) := hl
  clear hl HC
  have HM : Hid (∀ w, Calls Tryz.prog 84 #[.int .u64 n] w fun e w' => e = .returned (.agg (Bm.cellsOf (Bm.row (Bm.ofB n 64))).toArray) ∧ Below w.heap.size w w') := fun w => word_any n w
  generalize Bm.row (Bm.ofB n (Bm.clamp width)) = res at *
  generalize Bm.row (Bm.ofB n 64) = ov at *
  have hmx : max width 0 = 0 := by omega
  have hmn : min (0 : Int) 64 = 0 := by omega
  go_enter Tryz.func52, Tryz.ntmps52
  go_wp2_with fail
  refine (HM.out _).mono ?_
  rintro e w1 ⟨rfl, hb⟩
  clear HM
  go_wp2_with (first | (refine Lw.wpList_store_rowB (P := Tryz.prog) rfl 114 (.tmp 5) (.tmp 7) rfl w1.heap.size (Bm.cellsOf ov).toArray rfl rfl 114 _ (heap_alloc_new _ _) Hi.out Ho.out H1.out w.heap.size w (hb.alloc hb.size _) hb.size ?_; intro w2 HV HO HZ2 hb3; clear HO HZ2; have hconv := Lw.run_conv_row (P := Tryz.prog) HV.out 74 5 9 Tryz.underlying74 Tryz.underlying5 Tryz.underlying9 (0) (0) (0) (by rw [HL.out]; omega) res HS.out))
  go_ret
  exact ⟨rfl, hb3⟩

set_option maxRecDepth 100000 in
set_option maxHeartbeats 1000000 in
theorem of_high (n : Nat) (width : Int) (hB : 64 ≤ width) (w : World) :
    Calls Tryz.prog 52 #[.int .u64 n, .int .i64 width] w fun e w' => e = .returned (.string ⟨(Bm.row (Bm.ofB n (Bm.clamp width))).toArray⟩) ∧ Below w.heap.size w w' := by
  have HC : Hid (Bm.clamp width = 64) := by unfold Bm.clamp; show _ = _; omega
  have hl := Bm.length_row (Bm.ofB n 64)
  rw [Bm.length_ofB] at hl
  have HD := Bm.row_drop n (Bm.clamp width) (Bm.clamp_le width)
  rw [HC.out] at HD
  have HS : Hid (Bm.row (Bm.ofB n (Bm.clamp width)) = ((Bm.row (Bm.ofB n 64)).drop (0)).take (64)) := by
    show _ = _
    rw [HC.out, List.drop_zero, List.take_of_length_le (by omega)]
  clear HD
  have Hi : Hid ((Tryz.prog.info? 114).map (·.size) = some (Bm.cellsOf (Bm.row (Bm.ofB n 64))).toArray.size) := by
    show _ = _
    simp only [List.size_toArray, Bm.length_cellsOf, hl]; exact Tryz.info64
  have Ho : Hid (64 = (Bm.cellsOf (Bm.row (Bm.ofB n 64))).toArray.size) := by
    show _ = _
    simp only [List.size_toArray, Bm.length_cellsOf, hl]
  have H1 : Hid ((Bm.cellsOf (Bm.row (Bm.ofB n 64))).toArray.all (·.oneCell') = true) := Bm.oneCell_all _
  have HL : Hid ((Bm.row (Bm.ofB n 64)).length = 64) := hl
  clear hl HC
  have HM : Hid (∀ w, Calls Tryz.prog 84 #[.int .u64 n] w fun e w' => e = .returned (.agg (Bm.cellsOf (Bm.row (Bm.ofB n 64))).toArray) ∧ Below w.heap.size w w') := fun w => word_any n w
  generalize Bm.row (Bm.ofB n (Bm.clamp width)) = res at *
  generalize Bm.row (Bm.ofB n 64) = ov at *
  have hmx : max width 0 = width := by omega
  have hmn : min width 64 = 64 := by omega
  go_enter Tryz.func52, Tryz.ntmps52
  go_wp2_with fail
  refine (HM.out _).mono ?_
  rintro e w1 ⟨rfl, hb⟩
  clear HM
  go_wp2_with (first | (refine Lw.wpList_store_rowB (P := Tryz.prog) rfl 114 (.tmp 5) (.tmp 7) rfl w1.heap.size (Bm.cellsOf ov).toArray rfl rfl 114 _ (heap_alloc_new _ _) Hi.out Ho.out H1.out w.heap.size w (hb.alloc hb.size _) hb.size ?_; intro w2 HV HO HZ2 hb3; clear HO HZ2; have hconv := Lw.run_conv_row (P := Tryz.prog) HV.out 74 5 9 Tryz.underlying74 Tryz.underlying5 Tryz.underlying9 (0) (64) (64) (by rw [HL.out]; omega) res HS.out))
  go_ret
  exact ⟨rfl, hb3⟩

set_option maxRecDepth 100000 in
set_option maxHeartbeats 1000000 in
theorem of_mid (n : Nat) (k : Nat) (hA : 0 < k) (hB : k < 64) (w : World) :
    Calls Tryz.prog 52 #[.int .u64 n, .int .i64 k] w fun e w' => e = .returned (.string ⟨(Bm.row (Bm.ofB n (Bm.clamp k))).toArray⟩) ∧ Below w.heap.size w w' := by
  have HC : Hid (Bm.clamp k = k) := by unfold Bm.clamp; show _ = _; omega
  have hl := Bm.length_row (Bm.ofB n 64)
  rw [Bm.length_ofB] at hl
  have HD := Bm.row_drop n (Bm.clamp k) (Bm.clamp_le k)
  rw [HC.out] at HD
  have HS : Hid (Bm.row (Bm.ofB n (Bm.clamp k)) = ((Bm.row (Bm.ofB n 64)).drop (64 - k)).take (k)) := by
    show _ = _
    rw [HC.out, ← HD]
    rw [List.take_of_length_le]; simp [hl]; omega
  clear HD
  have Hi : Hid ((Tryz.prog.info? 114).map (·.size) = some (Bm.cellsOf (Bm.row (Bm.ofB n 64))).toArray.size) := by
    show _ = _
    simp only [List.size_toArray, Bm.length_cellsOf, hl]; exact Tryz.info64
  have Ho : Hid (64 = (Bm.cellsOf (Bm.row (Bm.ofB n 64))).toArray.size) := by
    show _ = _
    simp only [List.size_toArray, Bm.length_cellsOf, hl]
  have H1 : Hid ((Bm.cellsOf (Bm.row (Bm.ofB n 64))).toArray.all (·.oneCell') = true) := Bm.oneCell_all _
  have HL : Hid ((Bm.row (Bm.ofB n 64)).length = 64) := hl
  clear hl HC
  have HM : Hid (∀ w, Calls Tryz.prog 84 #[.int .u64 n] w fun e w' => e = .returned (.agg (Bm.cellsOf (Bm.row (Bm.ofB n 64))).toArray) ∧ Below w.heap.size w w') := fun w => word_any n w
  generalize Bm.row (Bm.ofB n (Bm.clamp k)) = res at *
  generalize Bm.row (Bm.ofB n 64) = ov at *
  have hmx : max (k : Int) 0 = k := by omega
  have hsl : ∀ (g : Nat) (W : World), (Instr.sliceAt 114 (.pointer (some ⟨g, 0, none⟩)) (some (.int .i64 (64 - (k : Int)))) none none).run Tryz.prog W = .ok (.slice (some ⟨g, 64 - k, none⟩) k k) W := fun g W => by
    have h := Lw.run_sliceArr 114 5 64 (64 - k) Tryz.underlying114 Tryz.info1 g (64 - (k : Int)) (by omega) (by omega) W
    rw [show 64 - (64 - k) = k by omega] at h
    exact h
  have hmn : min (k : Int) 64 = k := by omega
  go_enter Tryz.func52, Tryz.ntmps52
  go_wp2_with fail
  refine (HM.out _).mono ?_
  rintro e w1 ⟨rfl, hb⟩
  clear HM
  go_wp2_with (first | (refine Lw.wpList_store_rowB (P := Tryz.prog) rfl 114 (.tmp 5) (.tmp 7) rfl w1.heap.size (Bm.cellsOf ov).toArray rfl rfl 114 _ (heap_alloc_new _ _) Hi.out Ho.out H1.out w.heap.size w (hb.alloc hb.size _) hb.size ?_; intro w2 HV HO HZ2 hb3; clear HO HZ2; have hconv := Lw.run_conv_row (P := Tryz.prog) HV.out 74 5 9 Tryz.underlying74 Tryz.underlying5 Tryz.underlying9 (64 - k) (k) (k) (by rw [HL.out]; omega) res HS.out))
  go_ret
  exact ⟨rfl, hb3⟩

theorem of_any (n : Nat) (width : Int) (w : World) :
    Calls Tryz.prog 52 #[.int .u64 n, .int .i64 width] w fun e w' => e = .returned (.string ⟨(Bm.row (Bm.ofB n (Bm.clamp width))).toArray⟩) ∧ Below w.heap.size w w' := by
  by_cases hA : width ≤ 0
  · exact of_low n width hA w
  · by_cases hB : 64 ≤ width
    · exact of_high n width hB w
    · obtain ⟨k, rfl⟩ := Int.eq_ofNat_of_zero_le (show 0 ≤ width by omega)
      exact of_mid n k (by omega) (by omega) w
end Go.Proofs.YthkaekpoicodeaaGreatDoor
/- What FromBytes of package bits answers, over the program's own text. -/
namespace Go.Proofs.YthkaekpoicodeaaGreatDoor
open Go.RowKit
set_option maxRecDepth 100000 in
set_option maxHeartbeats 1000000 in
theorem from_any (s : ByteArray) (w : World) (hs : s.size ≤ 1048576) :
    Calls Tryz.prog 79 #[.string s] w fun e w' => e = .returned (.string ⟨(Bm.row (Bm.fromB s.data.toList)).toArray⟩) ∧ Below w.heap.size w w' := by
  have hmk := fun W => Lw.run_makeBytes (P := Tryz.prog) 74 5 Tryz.underlying74 Tryz.infoU8 (8 * (s.size : Int)) (8 * s.size) (by omega) (by omega) W
  go_enter Tryz.func79, Tryz.ntmps79
  go_wp2
  go_loopw [12] (fun i wr => ∃ k : Nat, k ≤ s.size ∧ i = .int .i64 k ∧ Hid (wr.heap[w.heap.size]? = some (.cells (Bm.fillV (Bm.row (Bm.fromB (s.data.toList.take k))) (8 * s.size)).toArray 5 (0, 0))) ∧ Below w.heap.size w wr ∧ w.heap.size + 1 ≤ wr.heap.size)
    (fun i _ => s.size - (intOf i).toNat)
  case atStart => exact ⟨0, Nat.zero_le _, rfl, heap_alloc_new _ _, (Below.refl _ _).alloc (Nat.le_refl _) _, by simp⟩
  case round =>
    obtain ⟨k, hk, rfl, HG, hb, hsz⟩ := hrel
    by_cases hlt : k < s.size
    · clear hmk
      have hby := s[k].toNat_lt
      go_wp2_with fail
      refine (octet_any _ _ (by omega) (by omega)).mono ?_
      rintro e w1 ⟨rfl, hb1⟩
      rw [Int.toNat_natCast]
      have hsz1 := hb1.size
      have HG1 : Hid (_) := (hb1.block (w.heap.size) (by omega)).trans HG.out
      have hb2 : Below w.heap.size w w1 := hb.trans (hb1.mono (by omega))
      clear hb1 HG hb
      have Hi : Hid ((Tryz.prog.info? 133).map (·.size) = some (Bm.octV s[k].toNat).toArray.size) := by rw [Bm.size_octV]; exact Tryz.info8
      have Ho : Hid (8 = (Bm.octV s[k].toNat).toArray.size) := by rw [Bm.size_octV]; exact rfl
      have H1 : Hid ((Bm.octV s[k].toNat).toArray.all (·.oneCell') = true) := Bm.oneCell_all _
      have HL : Hid ((Bm.octV s[k].toNat).length = 8) := Bm.length_octV _
      have HS : Hid (splice (Bm.fillV (Bm.row (Bm.fromB (s.data.toList.take k))) (8 * s.size)) (8 * k) (Bm.octV s[k].toNat) = Bm.fillV (Bm.row (Bm.fromB (s.data.toList.take (k + 1)))) (8 * s.size)) := Bm.splice_from s k hlt
      have HF : Hid (8 * k + (Bm.octV s[k].toNat).length ≤ (Bm.fillV (Bm.row (Bm.fromB (s.data.toList.take k))) (8 * s.size)).length) := by
        show _ ≤ _
        rw [HL.out, Bm.length_fillV _ _ (by rw [Bm.length_from_take s k hk]; omega)]; omega
      generalize Bm.octV s[k].toNat = ov at *
      go_wp2_with (refine Lw.wpList_store_rowB (P := Tryz.prog) rfl 133 (.tmp 5) (.tmp 18) rfl w1.heap.size ov.toArray rfl rfl 133 _ (heap_alloc_new _ _) Hi.out Ho.out H1.out w.heap.size w (hb2.alloc hb2.size _) (by omega) ?_; intro w2 HV HO HZ2 hb3)
      have HG2 : Hid (w2.heap[w.heap.size]? = _) := ((HO.out (w.heap.size) (by omega)).trans (Below.heap_alloc _ _ _ (by omega))).trans HG1.out
      have hs2 : w.heap.size + 1 ≤ w2.heap.size := by
        have h2 := HZ2.out
        simp at h2
        omega
      clear HO HG1 hb2 HZ2
      have hsl : ∀ W : World, (Instr.slice 74 (.slice (some ⟨w.heap.size, 0, none⟩) (8 * s.size) (8 * s.size)) (some (.int .i64 (IntKind.i64.wrap (8 * (k : Int))))) none none).run Tryz.prog W = .ok (.slice (some ⟨w.heap.size, 8 * k, none⟩) (8 * s.size - 8 * k) (8 * s.size - 8 * k)) W :=
        fun W => Lw.run_sliceSl 74 5 Tryz.underlying74 Tryz.info1 w.heap.size (8 * s.size) (8 * s.size) _ (8 * k) (by rw [IntKind.wrap_i64]; omega) (by omega) (by omega) (by omega) W
      have HN : Hid (ov.length = Nat.min 8 (8 * s.size - 8 * k)) := by
        show ov.length = _
        rw [HL.out]; exact (Nat.min_eq_left (by omega)).symm
      have HP : Hid (0 < ov.length → some (⟨w.heap.size, 8 * k, none⟩ : Addr) = some ⟨w.heap.size, 8 * k, none⟩ ∧ ∃ ad, some (⟨w1.heap.size, 0, none⟩ : Addr) = some ad ∧ ∀ j v, ov[j]? = some v → w2.drew.cell? (ad.add j) = some v) :=
        fun _ => ⟨rfl, _, rfl, fun j v hv => Lw.cell_row (w := w2.drew) HV.out j v hv⟩
      have H1c : Hid (∀ v ∈ ov, v.oneCell' = true) := fun v hv => by
        have h := H1.out
        rw [Array.all_eq_true'] at h
        exact h v (by simpa using hv)
      go_region_law (refine step_copy_splice rfl (.tmp 22) (.tmp 23) 74 74 rfl 5 Tryz.underlying74 Tryz.info1 (some ⟨w.heap.size, 8 * k, none⟩) (some ⟨w1.heap.size, 0, none⟩) (8 * s.size - 8 * k) (8 * s.size - 8 * k) 8 8 rfl rfl (w.heap.size) (8 * k) (Bm.fillV (Bm.row (Bm.fromB (s.data.toList.take k))) (8 * s.size)) 5 HG2.out ov HN.out HP.out HF.out H1c.out (w.heap.size) w hb3.drew (Nat.le_refl _) ?_; intro w3 HG3 hb4)
      rw [HS.out] at HG3
      have hs3 : w.heap.size + 1 ≤ w3.heap.size := (Array.getElem?_eq_some_iff.1 HG3.out).1
      clear HG2 HV hb3 HN HP HF H1c hsl Hi Ho H1 HL HS hby
      go_wp2
      go_roundw
      case rel => exact ⟨k + 1, by omega, by go_num, HG3, hb4, hs3⟩
      case measure => simp [intOf]; omega
    · have HG' : Hid (wr.heap[w.heap.size]? = some (.cells (Bm.cellsOf (Bm.row (Bm.fromB s.data.toList))).toArray 5 (0, 0))) := by
        show _ = _
        rw [HG.out, Bm.fillV_from s k (by omega)]
      have HLt : Hid ((Bm.row (Bm.fromB s.data.toList)).length = 8 * s.size) := by
        show _ = _
        rw [← Bm.take_all s k (by omega), Bm.length_from_take s k hk]
        omega
      clear HG hmk
      have hconv := Lw.run_conv_row (P := Tryz.prog) HG'.out 74 5 9 Tryz.underlying74 Tryz.underlying5 Tryz.underlying9 0 (8 * s.size) (8 * s.size) (by rw [HLt.out]; omega) (Bm.row (Bm.fromB s.data.toList)) (by rw [List.drop_zero, List.take_of_length_le (by rw [HLt.out]; omega)])
      go_wp2
      go_ret
      exact ⟨rfl, hb⟩
end Go.Proofs.YthkaekpoicodeaaGreatDoor
/- What Num of package bits answers, over the program's own text. -/
namespace Go.Proofs.YthkaekpoicodeaaGreatDoor
open Go.RowKit
set_option maxHeartbeats 400000 in
theorem num_any (s : ByteArray) (w : World) (hs : s.size ≤ maxLen) :
    Calls Tryz.prog 124 #[.string s] w fun e w' => e = .returned (.int .u64 (Bm.num (Bm.read s.data.toList))) ∧ w' = w := by
  unfold maxLen at hs
  go_enter Tryz.func124, Tryz.ntmps124
  go_wp2
  go_loop [3, 7] (fun n i => ∃ k : Nat, k ≤ s.size ∧ i = .int .i64 k ∧ n = .int .u64 (Bm.num (Bm.read (s.data.toList.take k)))) (fun _ i => s.size - (intOf i).toNat)
  case atStart => exact ⟨0, Nat.zero_le _, rfl, rfl⟩
  case round =>
    obtain ⟨k, hk, rfl, rfl⟩ := hrel
    by_cases hlt : k < s.size
    · have HS : Hid (Bm.num (Bm.read (s.data.toList.take (k + 1))) = Bm.numStep (Bm.num (Bm.read (s.data.toList.take k))) (Bm.isOne s[k])) := by
        rw [Bm.read_take_succ s k hlt]; exact Bm.num_snoc _ _
      have hm := Bm.num_lt (Bm.read (s.data.toList.take k))
      generalize Bm.num (Bm.read (s.data.toList.take k)) = m at *
      have h0 := Bm.bitI_ge (s[k].toNat : Int)
      have h1 := Bm.bitI_le (s[k].toNat : Int)
      go_wp2_with (go_at_call 85; refine (bit_any _ _).mono ?_; rintro e w' ⟨rfl, rfl⟩)
      go_round
      case rel => exact ⟨k + 1, by omega, by go_num, by rw [HS.out, Bm.bitI_byte, Bm.or_step _ _ hm]⟩
      case measure => simp [intOf]; omega
    · go_wp2
      go_ret
      exact ⟨ret_int (by rw [Bm.take_all s k (by omega)]), rfl⟩
end Go.Proofs.YthkaekpoicodeaaGreatDoor
/- What Bytes of package bits answers, over the program's own text. -/
namespace Go.Proofs.YthkaekpoicodeaaGreatDoor
open Go.RowKit
set_option maxRecDepth 100000 in
set_option maxHeartbeats 1000000 in
theorem bytes_any (s : ByteArray) (w : World) (hs : s.size ≤ 1048576) :
    Calls Tryz.prog 123 #[.string s] w fun e w' => e = .returned (.string ⟨(Bm.bytes (Bm.read s.data.toList)).toArray⟩) ∧ Below w.heap.size w w' := by
  have hmk := fun W => Lw.run_makeBytes (P := Tryz.prog) 74 5 Tryz.underlying74 Tryz.infoU8 ((s.size : Int) / 8) (s.size / 8) (by omega) (by omega) W
  go_enter Tryz.func123, Tryz.ntmps123
  go_wp2
  go_loopw [11] (fun i wr => ∃ k : Nat, k ≤ s.size / 8 ∧ i = .int .i64 k ∧ Hid (wr.heap[w.heap.size]? = some (.cells (Bm.fillV (Bm.bytesTo (Bm.read s.data.toList) k) (s.size / 8)).toArray 5 (0, 0))) ∧ Below w.heap.size w wr)
    (fun i _ => s.size - (intOf i).toNat)
  case atStart => exact ⟨0, Nat.zero_le _, rfl, heap_alloc_new _ _, (Below.refl _ _).alloc (Nat.le_refl _) _⟩
  case round =>
    obtain ⟨k, hk, rfl, HG, hb⟩ := hrel
    by_cases hlt : k < s.size / 8
    · have hlen := Bm.length_bytesTo (Bm.read s.data.toList) k
      have hcell : wr.cell? ⟨w.heap.size, k, none⟩ = some (.int .u8 0) := by
        rw [cell_of_row _ _ _ _ _ _ HG.out]
        have h := Bm.fillV_get (Bm.bytesTo (Bm.read s.data.toList) k) (s.size / 8) (by omega)
        rw [hlen] at h
        simpa using h
      have hfz : wr.frozen? ⟨w.heap.size, k, none⟩ = false := frozen_of_row _ _ _ _ _ HG.out
      have HSet : Hid ((wr.setCell ⟨w.heap.size, k, none⟩ (.int .u8 ((Bm.num (Bm.read ((s.data.toList.drop (8 * k)).take 8)) : Int) % 256))).heap[w.heap.size]? = some (.cells (Bm.fillV (Bm.bytesTo (Bm.read s.data.toList) (k + 1)) (s.size / 8)).toArray 5 (0, 0))) := by
        show _ = _
        rw [Bm.read_window, Bm.byteAt_val, heap_setCell_same _ _ _ _ _ _ HG.out, Bm.bytesTo_succ, ← Bm.fillV_set _ _ _ (by omega), hlen]
      have hbs : Below w.heap.size w (wr.setCell ⟨w.heap.size, k, none⟩ (.int .u8 ((Bm.num (Bm.read ((s.data.toList.drop (8 * k)).take 8)) : Int) % 256))) := hb.setCell (Nat.le_refl _) _
      have hex : (s.extract (8 * k) (8 * k + 8)).size ≤ maxLen := by
        unfold maxLen
        simp
        omega
      clear hlen HG hmk
      go_wp2_with (go_at_call 124; refine (num_any _ _ hex).mono ?_; rintro e w' ⟨rfl, rfl⟩)
      go_roundw
      case rel => exact ⟨k + 1, by omega, by go_num, HSet, hbs⟩
      case measure => simp [intOf]; omega
    · obtain rfl : k = s.size / 8 := by omega
      have hlb : (Bm.read s.data.toList).length = s.size := by simp [Bm.length_read]
      have HE : Hid (Bm.bytesTo (Bm.read s.data.toList) (s.size / 8) = Bm.bytes (Bm.read s.data.toList)) := by
        show _ = _
        unfold Bm.bytes
        rw [hlb]
      have HR : Hid (Bm.fillV (Bm.bytesTo (Bm.read s.data.toList) (s.size / 8)) (s.size / 8) = Bm.cellsOf (Bm.bytes (Bm.read s.data.toList))) := by
        show _ = _
        rw [Bm.fillV_full _ _ (Bm.length_bytesTo _ _), HE.out]
      have HG' : Hid (wr.heap[w.heap.size]? = some (.cells (Bm.cellsOf (Bm.bytes (Bm.read s.data.toList))).toArray 5 (0, 0))) := by
        show _ = _
        rw [HG.out, HR.out]
      have HLt : Hid ((Bm.bytes (Bm.read s.data.toList)).length = s.size / 8) := by
        show _ = _
        rw [← HE.out, Bm.length_bytesTo]
      clear HG HR hmk HE hlb
      have hconv := Lw.run_conv_row (P := Tryz.prog) HG'.out 74 5 9 Tryz.underlying74 Tryz.underlying5 Tryz.underlying9 0 (s.size / 8) (s.size / 8) (by rw [HLt.out]; omega) (Bm.bytes (Bm.read s.data.toList)) (by rw [List.drop_zero, List.take_of_length_le (by rw [HLt.out]; omega)])
      go_wp2
      go_ret
      exact ⟨rfl, hb⟩
end Go.Proofs.YthkaekpoicodeaaGreatDoor
