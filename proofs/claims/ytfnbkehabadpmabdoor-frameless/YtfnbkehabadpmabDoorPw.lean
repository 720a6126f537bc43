/- What octet and word of package bits answer, over the program's own text. -/
import Derived.Test.YtfnbkehabadpmabDoorPb
import Derived.Test.YtfnbkehabadpmabDoorLw
import Derived.Handy
import Derived.Laws.CopyOwn
import Derived.Laws.Tables
import Derived.Laws.Rows
namespace Go.Proofs.YtfnbkehabadpmabDoor
open Go.RowKit

theorem Tryd.info8 : (Tryd.prog.info? 52).map (·.size) = some 8 := by kernel_rfl
theorem Tryd.info64 : (Tryd.prog.info? 58).map (·.size) = some 64 := by kernel_rfl
theorem Tryd.info1 : (Tryd.prog.info? 5).map (·.size) = some 1 := by kernel_rfl

set_option maxHeartbeats 1000000 in
theorem octet_nat (b : Nat) (w : World) (h1 : b < 256) :
    Calls Tryd.prog 27 #[.int .u8 (b : Int)] w fun e w' => e = .returned (.agg (Bm.octV b).toArray) ∧ Below w.heap.size w w' := by
  have HL : Hid (_) := Bm.octV_lit b h1
  go_enter Tryd.func27, Tryd.ntmps27
  go_wp2
  go_rounds 9
  refine bodyPost_ret (v := .agg (Bm.octV b).toArray) ?_ rfl ⟨rfl, ((Below.refl _ _).alloc (Nat.le_refl _) _).alloc (by simp) _⟩
  rw [HL.out]
  refine results_cell_row (P := Tryd.prog) Tryd.results27 _ _ w.heap.size 52 _ (0, 0) _ rfl (heap_alloc2_old _ _ _) Tryd.underlying52 rfl Tryd.info8
theorem octet_any (b : Int) (w : World) (h0 : 0 ≤ b) (h1 : b < 256) :
    Calls Tryd.prog 27 #[.int .u8 b] w fun e w' => e = .returned (.agg (Bm.octV b.toNat).toArray) ∧ Below w.heap.size w w' := by
  obtain ⟨n, rfl⟩ := Int.eq_ofNat_of_zero_le h0
  exact octet_nat n w (by omega)
set_option maxRecDepth 100000 in
set_option maxHeartbeats 1000000 in
theorem word_any (n : Nat) (w : World)  :
    Calls Tryd.prog 31 #[.int .u64 n] w fun e w' => e = .returned (.agg (Bm.cellsOf (Bm.row (Bm.ofB n 64))).toArray) ∧ Below w.heap.size w w' := by
  go_enter Tryd.func31, Tryd.ntmps31
  go_wp2
  go_loopw [6] (fun i wr => ∃ k : Nat, k ≤ 8 ∧ i = .int .i64 k ∧ Hid (wr.heap[w.heap.size + 1]? = some (.cells (Bm.wcur n k).toArray 58 (0, 0))) ∧ Hid (wr.heap[w.heap.size]? = some (.cells (Bm.wcur n 0).toArray 58 (0, 0))) ∧ Below w.heap.size w wr ∧ w.heap.size + 2 ≤ wr.heap.size)
    (fun i _ => 8 - (intOf i).toNat)
  case atStart => 
    refine ⟨0, by omega, rfl, ?_, ?_, ((Below.refl _ _).alloc (Nat.le_refl _) _).alloc (by simp) _, by simp⟩
    · exact heap_alloc2_new _ _ _
    · exact heap_alloc2_old _ _ _
  case round =>
    obtain ⟨k, hk, rfl, HG, HZ, hb, hsz⟩ := hrel
    by_cases hlt : k < 8
    · go_wp2_with fail
      refine (octet_any _ _ (by omega) (by omega)).mono ?_
      rintro e w1 ⟨rfl, hb1⟩
      rw [Bm.octV_shift]
      have hsz1 := hb1.size
      have HG1 : Hid (_) := (hb1.block (w.heap.size + 1) (by omega)).trans HG.out
      have HZ1 : Hid (_) := (hb1.block (w.heap.size) (by omega)).trans HZ.out
      have hb2 : Below w.heap.size w w1 := hb.trans (hb1.mono (by omega))
      clear hb1 HG HZ hb
      have Hi : Hid ((Tryd.prog.info? 52).map (·.size) = some (Bm.octV (n / 2 ^ (56 - 8 * k) % 256)).toArray.size) := by rw [Bm.size_octV]; exact Tryd.info8
      have Ho : Hid (8 = (Bm.octV (n / 2 ^ (56 - 8 * k) % 256)).toArray.size) := by rw [Bm.size_octV]; exact rfl
      have H1 : Hid ((Bm.octV (n / 2 ^ (56 - 8 * k) % 256)).toArray.all (·.oneCell') = true) := Bm.oneCell_all _
      have HL : Hid ((Bm.octV (n / 2 ^ (56 - 8 * k) % 256)).length = 8) := Bm.length_octV _
      have HS : Hid (splice (Bm.wcur n k) (8 * k) (Bm.octV (n / 2 ^ (56 - 8 * k) % 256)) = Bm.wcur n (k + 1)) := Bm.splice_wcur n k hlt
      generalize Bm.octV (n / 2 ^ (56 - 8 * k) % 256) = ov at *
      go_wp2_with (refine Lw.wpList_store_rowB (P := Tryd.prog) rfl 52 (.tmp 5) (.tmp 15) rfl w1.heap.size ov.toArray rfl rfl 52 _ (heap_alloc_new _ _) Hi.out Ho.out H1.out w.heap.size w (hb2.alloc hb2.size _) (by omega) ?_; intro w2 HV HO HZ2 hb3)
      have HG2 : Hid (w2.heap[w.heap.size + 1]? = _) := ((HO.out (w.heap.size + 1) (by omega)).trans (Below.heap_alloc _ _ _ (by omega))).trans HG1.out
      have HR2 : Hid (w2.heap[w.heap.size]? = _) := ((HO.out (w.heap.size) (by omega)).trans (Below.heap_alloc _ _ _ (by omega))).trans HZ1.out
      clear HO HG1 HZ1 hb2
      have hsl : ∀ W : World, (Instr.sliceAt 58 (.pointer (some ⟨w.heap.size + 1, 0, none⟩)) (some (.int .i64 (IntKind.i64.wrap (8 * (k : Int))))) none none).run Tryd.prog W = .ok (.slice (some ⟨w.heap.size + 1, 8 * k, none⟩) (64 - 8 * k) (64 - 8 * k)) W :=
        fun W => Lw.run_sliceArr 58 5 64 (8 * k) Tryd.underlying58 Tryd.info1 (w.heap.size + 1) _ (by rw [IntKind.wrap_i64]; omega) (by omega) W
      have HN : Hid (ov.length = Nat.min 8 (64 - 8 * k)) := by
        show ov.length = _
        rw [HL.out]; exact (Nat.min_eq_left (by omega)).symm
      have HP : Hid (0 < ov.length → some (⟨w.heap.size + 1, 8 * k, none⟩ : Addr) = some ⟨w.heap.size + 1, 8 * k, none⟩ ∧ ∃ ad, some (⟨w1.heap.size, 0, none⟩ : Addr) = some ad ∧ ∀ j v, ov[j]? = some v → w2.drew.cell? (ad.add j) = some v) :=
        fun _ => ⟨rfl, _, rfl, fun j v hv => Lw.cell_row (w := w2.drew) HV.out j v hv⟩
      have HF : Hid (8 * k + ov.length ≤ (Bm.wcur n k).length) := by
        show _ ≤ _
        rw [HL.out, Bm.length_wcur n k hk]; omega
      have H1c : Hid (∀ v ∈ ov, v.oneCell' = true) := fun v hv => by
        have h := H1.out
        rw [Array.all_eq_true'] at h
        exact h v (by simpa using hv)
      go_region_law (refine step_copy_splice rfl (.tmp 18) (.tmp 19) 49 49 rfl 5 Tryd.underlying49 Tryd.info1 (some ⟨w.heap.size + 1, 8 * k, none⟩) (some ⟨w1.heap.size, 0, none⟩) (64 - 8 * k) (64 - 8 * k) 8 8 rfl rfl (w.heap.size + 1) (8 * k) (Bm.wcur n k) 58 HG2.out ov HN.out HP.out HF.out H1c.out (w.heap.size + 1) w2 (Below.refl _ _).drew (Nat.le_refl _) ?_; intro w3 HG3 hb4)
      rw [HS.out] at HG3
      have HR3 : Hid (w3.heap[w.heap.size]? = _) := (hb4.block w.heap.size (by omega)).trans HR2.out
      have hb5 : Below w.heap.size w w3 := hb3.trans (hb4.mono (by omega))
      have hs3 : w.heap.size + 2 ≤ w3.heap.size := by
        have h1 := hb4.size
        have h2 := HZ2.out
        simp at h2
        omega
      clear hb4 HR2 HG2 HV HZ2 hb3 HN HP HF H1c hsl Hi Ho H1 HL HS
      go_wp2
      go_roundw
      case rel => exact ⟨k + 1, by omega, by go_num, HG3, HR3, hb5, hs3⟩
      case measure => simp [intOf]; omega
    · obtain rfl : k = 8 := by omega
      have Ho : Hid ((Bm.wcur n 0).toArray.size = (Bm.wcur n 8).toArray.size) := by
        show _ = _
        rw [Bm.size_wcur n 0 (by omega), Bm.size_wcur n 8 (by omega)]
      have H1 : Hid ((Bm.wcur n 8).toArray.all (·.oneCell') = true) := Bm.oneCell_all _
      have HW : Hid (Bm.wcur n 8 = Bm.cellsOf (Bm.row (Bm.ofB n 64))) := Bm.wcur_full n
      have Hi : Hid ((Tryd.prog.info? 58).map (·.size) = some (Bm.wcur n 8).toArray.size) := by rw [Bm.size_wcur n 8 (by omega)]; exact Tryd.info64
      go_wp2_with (first | (refine wpList_load_row (P := Tryd.prog) rfl 58 (.tmp 3) rfl (w.heap.size + 1) rfl 58 _ (0, 0) _ HG.out Tryd.underlying58 rfl Hi.out ?_) | (refine Lw.wpList_store_rowB (P := Tryd.prog) rfl 58 (.tmp 2) (.tmp 22) rfl w.heap.size (Bm.wcur n 8).toArray rfl rfl 58 _ HZ.out Hi.out Ho.out H1.out w.heap.size w hb (Nat.le_refl _) ?_; intro w2 HV HO HZ2 hb3))
      refine bodyPost_ret (v := .agg (Bm.cellsOf (Bm.row (Bm.ofB n 64))).toArray) ?_ rfl ⟨rfl, hb3⟩
      rw [← HW.out]
      exact results_cell_row (P := Tryd.prog) Tryd.results31 _ _ w.heap.size 58 _ (0, 0) _ rfl HV.out Tryd.underlying58 rfl Hi.out
end Go.Proofs.YtfnbkehabadpmabDoor
