/- The document's own Encode, over its text. -/
import Derived.Test.YtaphdehhnnglgaaDoorV8
namespace Go.Proofs.YtaphdehhnnglgaaDoor
open Go.RowKit
theorem read_mk (l : List Bool) : Bm.read (ByteArray.mk (Bm.row l).toArray).data.toList = l := Bm.read_row l
theorem enc_cat (l : List Bool) : ByteArray.mk (Bm.row (l ++ Cm.ones 10)).toArray = ByteArray.mk (Bm.row l).toArray ++ ByteArray.mk #[49, 49, 49, 49, 49, 49, 49, 49, 49, 49] := by
  rw [mk_row_app]; rfl
set_option maxRecDepth 100000 in
set_option maxHeartbeats 1000000 in
theorem refFEnc_any (x : Bool) (n : Nat) (r : Bool) (d : ByteArray) (w : World) (hn : n < 4294967296) :
    Calls Tryd.prog 11 #[.agg #[.bool x, .int .u32 n, .bool r, .string d]] w fun e w' => e = .returned (.string ⟨(Bm.row (Cm.enc x n r d.data.toList)).toArray⟩) ∧ Below w.heap.size w w' := by
  have HI : Hid (∀ w, Calls Tryd.prog 18 #[.agg #[.bool x, .int .u32 n, .bool r, .string d]] w fun e w' => e = .returned (.bool (Fm.isF x n r d.data.toList)) ∧ Below w.heap.size w w') := fun w => refFIs_any x n r d w
  have HJ : Hid (∀ w, Calls Tryd.prog 19 #[.agg #[.bool x, .int .u32 n, .bool r, .string d]] w fun e w' => e = .returned (.string ⟨(Bm.row (Fm.body x n r d.data.toList)).toArray⟩) ∧ Below w.heap.size w w') := fun w => refFBody_any x n r d w hn
  have HA : Hid (Cm.enc x n r d.data.toList = if Fm.isF x n r d.data.toList then Cm.enc0 x n r d.data.toList else []) := rfl
  have HQ : Hid (Fm.isF x n r d.data.toList = true → (Fm.body0 x n r d.data.toList).length ≤ 103 ∧ (Cm.enc0 x n r d.data.toList).length ≤ 200) := fun h => by
    have h8 := (Fm.isF_parts h).2.1
    refine ⟨?_, (Cm.enc_len h).2.2⟩
    have hl := Fm.length_body0 x n r d.data.toList
    split at hl <;> omega
  have HB : Hid (Fm.body x n r d.data.toList = if Fm.isF x n r d.data.toList then Fm.body0 x n r d.data.toList else []) := rfl
  have HE0 : Hid (Cm.enc0 x n r d.data.toList = Sm.stuff (Fm.body0 x n r d.data.toList ++ Bm.ofB (Bm.crc (Fm.body0 x n r d.data.toList)) 15) ++ Cm.ones 10) := rfl
  generalize Cm.enc x n r d.data.toList = res at *
  generalize Cm.enc0 x n r d.data.toList = res0 at *
  generalize Fm.body x n r d.data.toList = bo at *
  generalize Fm.isF x n r d.data.toList = b at *
  cases b
  · have HE : Hid (res = []) := HA.out
    go_enter Tryd.func11, Tryd.ntmps11
    go_wp2_with fail
    refine (HI.out _).mono ?_
    rintro e w1 ⟨rfl, hb1⟩
    have hb2 := below_join ((Below.refl _ _).alloc (Nat.le_refl _) _) hb1
    go_wp2
    go_ret
    exact ⟨by rw [HE.out]; rfl, hb2⟩
  · have HE : Hid (res = res0) := HA.out
    have HG : Hid (bo = Fm.body0 x n r d.data.toList) := HB.out
    obtain ⟨h1, h2⟩ := HQ.out rfl
    clear HA HB HQ
    generalize Fm.body0 x n r d.data.toList = bb at *
    have hcl := Bm.crc_lt bb
    have hlb : (bb ++ Bm.ofB (Bm.crc bb) 15).length = bb.length + 15 := by rw [List.length_append, Bm.length_ofB]
    have HC : Hid (∀ w, Calls Tryd.prog 22 #[.string ⟨(Bm.row bb).toArray⟩] w fun e w' => e = .returned (.int .u16 (Bm.crc bb)) ∧ w' = w) := fun w => by
      have h := refCrc_any ⟨(Bm.row bb).toArray⟩ w (by rw [size_rowr]; unfold maxLen; omega)
      rw [read_mk] at h
      exact h
    have HF : Hid (∀ w, Calls Tryd.prog 21 #[.int .u64 (Bm.crc bb : Int), .int .i64 15] w fun e w' => e = .returned (.string ⟨(Bm.row (Bm.ofB (Bm.crc bb) 15)).toArray⟩) ∧ w' = w) := fun w => refOf_k (Bm.crc bb) 15 (by decide) (by omega) w _ rfl _ rfl
    have HS : Hid (∀ w, Calls Tryd.prog 20 #[.string (ByteArray.mk (Bm.row bb).toArray ++ ByteArray.mk (Bm.row (Bm.ofB (Bm.crc bb) 15)).toArray)] w fun e w' => e = .returned (.string ⟨(Bm.row (Sm.stuff (bb ++ Bm.ofB (Bm.crc bb) 15))).toArray⟩) ∧ Below w.heap.size w w') := fun w => by
      have h := rstuff_any ⟨(Bm.row (bb ++ Bm.ofB (Bm.crc bb) 15)).toArray⟩ w (by rw [size_rowr]; omega)
      rw [read_mk, mk_row_app] at h
      exact h
    have HK : Hid (_) := enc_cat (Sm.stuff (bb ++ Bm.ofB (Bm.crc bb) 15))
    rw [← HE0.out] at HK
    have sA := size_rowr bb
    have sB := size_rowr (Bm.ofB (Bm.crc bb) 15)
    rw [Bm.length_ofB] at sB
    have sC := size_rowr (Sm.stuff (bb ++ Bm.ofB (Bm.crc bb) 15))
    have hst : (Sm.stuff (bb ++ Bm.ofB (Bm.crc bb) 15)).length ≤ 190 := by
      rw [HE0.out, List.length_append] at h2
      have h10 : (Cm.ones 10).length = 10 := rfl
      omega
    rw [← sC] at hst
    clear sC HE0 hlb
    generalize ByteArray.mk (Bm.row (Sm.stuff (bb ++ Bm.ofB (Bm.crc bb) 15))).toArray = U at *
    generalize ByteArray.mk (Bm.row (Bm.ofB (Bm.crc bb) 15)).toArray = B at *
    rw [HG.out] at HJ
    generalize ByteArray.mk (Bm.row bb).toArray = A at *
    generalize Bm.crc bb = cr at *
    go_enter Tryd.func11, Tryd.ntmps11
    go_wp2_with fail
    refine (HI.out _).mono ?_
    rintro e w1 ⟨rfl, hb1⟩
    have c0 : w1.cell? ⟨w.heap.size, 0, none⟩ = some (.bool x) := (hb1.cell (p := ⟨w.heap.size, 0, none⟩) (by simp)).trans (by rw [cell_of_row _ _ _ _ _ _ (heap_alloc_new _ _)]; rfl)
    have c1 : w1.cell? ⟨w.heap.size, 1, none⟩ = some (.int .u32 n) := (hb1.cell (p := ⟨w.heap.size, 1, none⟩) (by simp)).trans (by rw [cell_of_row _ _ _ _ _ _ (heap_alloc_new _ _)]; rfl)
    have c2 : w1.cell? ⟨w.heap.size, 2, none⟩ = some (.bool r) := (hb1.cell (p := ⟨w.heap.size, 2, none⟩) (by simp)).trans (by rw [cell_of_row _ _ _ _ _ _ (heap_alloc_new _ _)]; rfl)
    have c3 : w1.cell? ⟨w.heap.size, 3, none⟩ = some (.string d) := (hb1.cell (p := ⟨w.heap.size, 3, none⟩) (by simp)).trans (by rw [cell_of_row _ _ _ _ _ _ (heap_alloc_new _ _)]; rfl)
    have hb2 := below_join ((Below.refl _ _).alloc (Nat.le_refl _) _) hb1
    clear hb1 HI
    go_wp2_with fail
    refine (HJ.out _).mono ?_
    rintro e w2 ⟨rfl, hb3⟩
    have hb4 := below_join hb2 hb3
    clear hb3 hb2 c0 c1 c2 c3 HJ
    go_wp2_with (first | (go_at_call 22; refine (HC.out _).mono ?_; rintro e w' ⟨rfl, rfl⟩) | (go_at_call 21; refine (HF.out _).mono ?_; rintro e w' ⟨rfl, rfl⟩) | (go_at_call 20; refine (HS.out _).mono ?_; rintro e w3 ⟨rfl, hb5⟩))
    go_ret
    exact ⟨by rw [HE.out, HK.out]; rfl, below_join hb4 hb5⟩
end Go.Proofs.YtaphdehhnnglgaaDoor
