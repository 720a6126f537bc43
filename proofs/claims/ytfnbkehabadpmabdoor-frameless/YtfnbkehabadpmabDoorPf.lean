/- What FromBytes of package bits answers, over the program's own text. -/
import Derived.Test.YtfnbkehabadpmabDoorPw
import Derived.Test.YtfnbkehabadpmabDoorBm2
namespace Go.Proofs.YtfnbkehabadpmabDoor
open Go.RowKit
set_option maxRecDepth 100000 in
set_option maxHeartbeats 1000000 in
theorem from_any (s : ByteArray) (w : World) (hs : s.size ≤ 1048576) :
    Calls Tryd.prog 18 #[.string s] w fun e w' => e = .returned (.string ⟨(Bm.row (Bm.fromB s.data.toList)).toArray⟩) ∧ Below w.heap.size w w' := by
  have hmk := fun W => Lw.run_makeBytes (P := Tryd.prog) 49 5 Tryd.underlying49 Tryd.infoU8 (8 * (s.size : Int)) (8 * s.size) (by omega) (by omega) W
  go_enter Tryd.func18, Tryd.ntmps18
  go_wp2
  go_loopw [12] (fun i wr => ∃ k : Nat, k ≤ s.size ∧ i = .int .i64 k ∧ Hid (wr.heap[w.heap.size]? = some (.cells (Bm.fillV (Bm.row (Bm.fromB (s.data.toList.take k))) (8 * s.size)).toArray 5 (0, 0))) ∧ Below w.heap.size w wr ∧ w.heap.size + 1 ≤ wr.heap.size)
    (fun i _ => s.size - (intOf i).toNat)
  case atStart => exact ⟨0, Nat.zero_le _, rfl, heap_alloc_new _ _, (Below.refl _ _).alloc (Nat.le_refl _) _, by simp⟩
  case round =>
    obtain ⟨k, hk, rfl, HG, hb, hsz⟩ := hrel
    by_cases hlt : k < s.size
    · clear hmk
      have hby := s[k].toNat_lt
      go_wp2_with fail
      refine (octet_any _ _ (by omega) (by omega)).mono ?_
      rintro e w1 ⟨rfl, hb1⟩
      rw [Int.toNat_natCast]
      have hsz1 := hb1.size
      have HG1 : Hid (_) := (hb1.block (w.heap.size) (by omega)).trans HG.out
      have hb2 : Below w.heap.size w w1 := hb.trans (hb1.mono (by omega))
      clear hb1 HG hb
      have Hi : Hid ((Tryd.prog.info? 52).map (·.size) = some (Bm.octV s[k].toNat).toArray.size) := by rw [Bm.size_octV]; exact Tryd.info8
      have Ho : Hid (8 = (Bm.octV s[k].toNat).toArray.size) := by rw [Bm.size_octV]; exact rfl
      have H1 : Hid ((Bm.octV s[k].toNat).toArray.all (·.oneCell') = true) := Bm.oneCell_all _
      have HL : Hid ((Bm.octV s[k].toNat).length = 8) := Bm.length_octV _
      have HS : Hid (splice (Bm.fillV (Bm.row (Bm.fromB (s.data.toList.take k))) (8 * s.size)) (8 * k) (Bm.octV s[k].toNat) = Bm.fillV (Bm.row (Bm.fromB (s.data.toList.take (k + 1)))) (8 * s.size)) := Bm.splice_from s k hlt
      have HF : Hid (8 * k + (Bm.octV s[k].toNat).length ≤ (Bm.fillV (Bm.row (Bm.fromB (s.data.toList.take k))) (8 * s.size)).length) := by
        show _ ≤ _
        rw [HL.out, Bm.length_fillV _ _ (by rw [Bm.length_from_take s k hk]; omega)]; omega
      generalize Bm.octV s[k].toNat = ov at *
      go_wp2_with (refine Lw.wpList_store_rowB (P := Tryd.prog) rfl 52 (.tmp 5) (.tmp 18) rfl w1.heap.size ov.toArray rfl rfl 52 _ (heap_alloc_new _ _) Hi.out Ho.out H1.out w.heap.size w (hb2.alloc hb2.size _) (by omega) ?_; intro w2 HV HO HZ2 hb3)
      have HG2 : Hid (w2.heap[w.heap.size]? = _) := ((HO.out (w.heap.size) (by omega)).trans (Below.heap_alloc _ _ _ (by omega))).trans HG1.out
      have hs2 : w.heap.size + 1 ≤ w2.heap.size := by
        have h2 := HZ2.out
        simp at h2
        omega
      clear HO HG1 hb2 HZ2
      have hsl : ∀ W : World, (Instr.slice 49 (.slice (some ⟨w.heap.size, 0, none⟩) (8 * s.size) (8 * s.size)) (some (.int .i64 (IntKind.i64.wrap (8 * (k : Int))))) none none).run Tryd.prog W = .ok (.slice (some ⟨w.heap.size, 8 * k, none⟩) (8 * s.size - 8 * k) (8 * s.size - 8 * k)) W :=
        fun W => Lw.run_sliceSl 49 5 Tryd.underlying49 Tryd.info1 w.heap.size (8 * s.size) (8 * s.size) _ (8 * k) (by rw [IntKind.wrap_i64]; omega) (by omega) (by omega) (by omega) W
      have HN : Hid (ov.length = Nat.min 8 (8 * s.size - 8 * k)) := by
        show ov.length = _
        rw [HL.out]; exact (Nat.min_eq_left (by omega)).symm
      have HP : Hid (0 < ov.length → some (⟨w.heap.size, 8 * k, none⟩ : Addr) = some ⟨w.heap.size, 8 * k, none⟩ ∧ ∃ ad, some (⟨w1.heap.size, 0, none⟩ : Addr) = some ad ∧ ∀ j v, ov[j]? = some v → w2.drew.cell? (ad.add j) = some v) :=
        fun _ => ⟨rfl, _, rfl, fun j v hv => Lw.cell_row (w := w2.drew) HV.out j v hv⟩
      have H1c : Hid (∀ v ∈ ov, v.oneCell' = true) := fun v hv => by
        have h := H1.out
        rw [Array.all_eq_true'] at h
        exact h v (by simpa using hv)
      go_region_law (refine step_copy_splice rfl (.tmp 22) (.tmp 23) 49 49 rfl 5 Tryd.underlying49 Tryd.info1 (some ⟨w.heap.size, 8 * k, none⟩) (some ⟨w1.heap.size, 0, none⟩) (8 * s.size - 8 * k) (8 * s.size - 8 * k) 8 8 rfl rfl (w.heap.size) (8 * k) (Bm.fillV (Bm.row (Bm.fromB (s.data.toList.take k))) (8 * s.size)) 5 HG2.out ov HN.out HP.out HF.out H1c.out (w.heap.size) w hb3.drew (Nat.le_refl _) ?_; intro w3 HG3 hb4)
      rw [HS.out] at HG3
      have hs3 : w.heap.size + 1 ≤ w3.heap.size := (Array.getElem?_eq_some_iff.1 HG3.out).1
      clear HG2 HV hb3 HN HP HF H1c hsl Hi Ho H1 HL HS hby
      go_wp2
      go_roundw
      case rel => exact ⟨k + 1, by omega, by go_num, HG3, hb4, hs3⟩
      case measure => simp [intOf]; omega
    · have HG' : Hid (wr.heap[w.heap.size]? = some (.cells (Bm.cellsOf (Bm.row (Bm.fromB s.data.toList))).toArray 5 (0, 0))) := by
        show _ = _
        rw [HG.out, Bm.fillV_from s k (by omega)]
      have HLt : Hid ((Bm.row (Bm.fromB s.data.toList)).length = 8 * s.size) := by
        show _ = _
        rw [← Bm.take_all s k (by omega), Bm.length_from_take s k hk]
        omega
      clear HG hmk
      have hconv := Lw.run_conv_row (P := Tryd.prog) HG'.out 49 5 9 Tryd.underlying49 Tryd.underlying5 Tryd.underlying9 0 (8 * s.size) (8 * s.size) (by rw [HLt.out]; omega) (Bm.row (Bm.fromB s.data.toList)) (by rw [List.drop_zero, List.take_of_length_le (by rw [HLt.out]; omega)])
      go_wp2
      go_ret
      exact ⟨rfl, hb⟩
end Go.Proofs.YtfnbkehabadpmabDoor
