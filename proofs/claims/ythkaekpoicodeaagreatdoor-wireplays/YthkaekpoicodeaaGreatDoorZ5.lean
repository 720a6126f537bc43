/- What Encode of package code answers, over the program's own text. -/
import Derived.Test.YthkaekpoicodeaaGreatDoorYd
import Derived.Test.YthkaekpoicodeaaGreatDoorU7
import Derived.Test.YthkaekpoicodeaaGreatDoorU3
import Derived.Test.YthkaekpoicodeaaGreatDoorU2
import Derived.Test.YthkaekpoicodeaaGreatDoorZt
import Derived.Test.YthkaekpoicodeaaGreatDoorU6
namespace Go.Proofs.YthkaekpoicodeaaGreatDoor
open Go.RowKit
theorem splice_two (U : ByteArray) : splice (splice (Bm.fillV [] (U.size + 10)) 0 (Bm.cellsOf U.data.toList)) U.size (Bm.cellsOf tenOnes.data.toList) = Bm.cellsOf (U.data.toList ++ tenOnes.data.toList) := by
  have h1 : (Bm.cellsOf U.data.toList).length = U.size := by rw [Bm.length_cellsOf]; simp
  have h2 : (Bm.cellsOf tenOnes.data.toList).length = 10 := rfl
  have hf := Bm.length_fillV [] (U.size + 10) (Nat.zero_le _)
  have e1 : splice (Bm.fillV [] (U.size + 10)) 0 (Bm.cellsOf U.data.toList) = Bm.cellsOf U.data.toList ++ (Bm.fillV [] (U.size + 10)).drop U.size := by
    unfold splice
    rw [List.take_zero, List.nil_append, h1, Nat.zero_add]
  rw [e1]
  unfold splice
  rw [h2, List.take_append_of_le_length (by omega), List.take_of_length_le (by omega), List.drop_of_length_le (by rw [List.length_append, List.length_drop, hf]; omega), List.append_nil]
  unfold Bm.cellsOf
  rw [List.map_append]
theorem conv_two {w : World} {g : Nat} {U : ByteArray} (hg : w.heap[g]? = some (.cells (Bm.cellsOf (U.data.toList ++ tenOnes.data.toList)).toArray 5 (0, 0))) :
    (convert 74 9 (.slice (some ⟨g, 0, none⟩) (U.size + 10) (U.size + 10))).run Tryz.prog w = .ok (.string (U ++ tenOnes)) w := by
  have hl : (U.data.toList ++ tenOnes.data.toList).length = U.size + 10 := by
    rw [List.length_append]
    show U.data.toList.length + 10 = _
    simp
  have h := Lw.run_conv_row (P := Tryz.prog) hg 74 5 9 Tryz.underlying74 Tryz.underlying5 Tryz.underlying9 0 (U.size + 10) (U.size + 10) (by omega) (U.data.toList ++ tenOnes.data.toList) (by rw [List.drop_zero, List.take_of_length_le (by omega)])
  rw [h, ← Bm.str_app]
set_option maxRecDepth 100000 in
set_option maxHeartbeats 4000000 in
theorem enc_yes (x : Bool) (n : Nat) (r : Bool) (d A B U : ByteArray) (cr : Nat) (hcr : cr < 32768) (hA : A.size ≤ 103) (hB : B.size = 15) (hU : U.size ≤ 190) (w : World) (hT : Tab w)
    (HI : Hid (∀ w, Tab w → Calls Tryz.prog 36 #[.agg #[.bool x, .int .u32 n, .bool r, .string d]] w fun e w' => e = .returned (.bool true) ∧ Below w.heap.size w w'))
    (HJ : Hid (∀ w, Tab w → Calls Tryz.prog 50 #[.agg #[.bool x, .int .u32 n, .bool r, .string d]] w fun e w' => e = .returned (.string A) ∧ Below w.heap.size w w'))
    (HC : Hid (∀ w, Calls Tryz.prog 53 #[.string A] w fun e w' => e = .returned (.int .u16 (cr : Int)) ∧ w' = w))
    (HO : Hid (∀ w, Calls Tryz.prog 52 #[.int .u64 (cr : Int), .int .i64 15] w fun e w' => e = .returned (.string B) ∧ Below w.heap.size w w'))
    (HS : Hid (∀ w, Calls Tryz.prog 51 #[.string (A ++ B)] w fun e w' => e = .returned (.string U) ∧ Below w.heap.size w w')) :
    Calls Tryz.prog 38 #[.agg #[.bool x, .int .u32 n, .bool r, .string d]] w fun e w' => e = .returned (.string (U ++ tenOnes)) ∧ Below w.heap.size w w' := by
  have hT1 : Hid (Tab _) := hT.alloc (.cells #[.bool x, .int .u32 n, .bool r, .string d] 35)
  clear hT
  have hmk := fun W => Lw.run_makeBytes (P := Tryz.prog) 74 5 Tryz.underlying74 Tryz.infoU8 ((U.size : Int) + 10) (U.size + 10) (by omega) (by omega) W
  go_enter Tryz.func38, Tryz.ntmps38
  go_wp2_with fail
  refine (HI.out _ hT1.out).mono ?_
  rintro e w1 ⟨rfl, hb1⟩
  have HF : Hid (∀ (k : Nat) (v : Value), (fcs x n r d)[k]? = some v → w1.cell? ⟨w.heap.size, k, none⟩ = some v) := fun k v hv => fr_cell hb1 (by simp) k v hv
  have c0 := HF.out 0 _ rfl
  have c1 := HF.out 1 _ rfl
  have c2 := HF.out 2 _ rfl
  have c3 := HF.out 3 _ rfl
  have hT2 : Hid (Tab w1) := hT1.out.below hb1
  have hb2 : Hid (Below w.heap.size w w1) := below_join ((Below.refl _ _).alloc (Nat.le_refl _) _) hb1
  clear hb1 HI hT1 HF
  go_wp2_with fail
  refine (HJ.out _ hT2.out).mono ?_
  rintro e w2 ⟨rfl, hb3⟩
  have hb4 : Hid (Below w.heap.size w w2) := below_join hb2.out hb3
  clear hb3 hb2 c0 c1 c2 c3 HJ hT2
  go_wp2_with (first | (go_at_call 53; refine (HC.out _).mono ?_; rintro e w' ⟨rfl, rfl⟩) | (go_at_call 52; refine (HO.out _).mono ?_; rintro e w3 ⟨rfl, hb5⟩))
  refine (HS.out _).mono ?_
  rintro e w4 ⟨rfl, hb6⟩
  have hb7 : Hid (Below w.heap.size w w4) := below_join (below_join hb4.out hb5) hb6
  clear hb4 hb5 hb6 HC HO HS
  have HG0 : Hid ((w4.alloc (.cells (Bm.fillV [] (U.size + 10)).toArray 5)).heap[w4.heap.size]? = some (.cells (Bm.fillV [] (U.size + 10)).toArray 5 (0, 0))) := heap_alloc_new _ _
  have hb8 : Hid (Below w.heap.size w (w4.alloc (.cells (Bm.fillV [] (U.size + 10)).toArray 5))) := hb7.out.alloc hb7.out.size _
  have hw4 : w.heap.size ≤ w4.heap.size := hb7.out.size
  have hfl : (Bm.fillV [] (U.size + 10)).length = U.size + 10 := Bm.length_fillV [] _ (Nat.zero_le _)
  have hsl := fun W => Lw.run_sliceSl (P := Tryz.prog) 74 5 Tryz.underlying74 Tryz.info1 w4.heap.size (U.size + 10) (U.size + 10) (U.size : Int) U.size rfl (by omega) (by omega) (by omega) W
  have HL0 : Hid (0 + U.size ≤ (Bm.fillV [] (U.size + 10)).length) := by show _ ≤ _; rw [hfl]; omega
  have HL1 : Hid (U.size + tenOnes.size ≤ (splice (Bm.fillV [] (U.size + 10)) 0 (Bm.cellsOf U.data.toList)).length) := by
    show _ ≤ _
    rw [length_splice _ _ _ (by rw [hfl, Bm.length_cellsOf]; simp), hfl]
    exact Nat.le_refl _
  clear hfl
  go_wp2_with (first
    | (refine Lw.wpList_copy_str rfl (.tmp 22) (.tmp 23) 74 9 rfl 5 Tryz.underlying74 Tryz.info1 w4.heap.size 0 (U.size + 10) (U.size + 10) U rfl rfl (Bm.fillV [] (U.size + 10)) 5 HG0.out (by omega) HL0.out w.heap.size w hb8.out hw4 ?_; intro w5 HG5 hb9)
    | (refine Lw.wpList_copy_str rfl (.tmp 28) (.const (.string ⟨#[49, 49, 49, 49, 49, 49, 49, 49, 49, 49]⟩)) 74 9 rfl 5 Tryz.underlying74 Tryz.info1 w4.heap.size U.size 10 10 tenOnes rfl rfl (splice (Bm.fillV [] (U.size + 10)) 0 (Bm.cellsOf U.data.toList)) 5 HG5.out (by decide) HL1.out w.heap.size w hb9 hw4 ?_; intro w6 HG6 hb10; rw [splice_two] at HG6; have hconv := conv_two HG6.out))
  go_ret
  exact ⟨rfl, hb10⟩
set_option maxRecDepth 100000 in
set_option maxHeartbeats 1000000 in
theorem cEnc_any (x : Bool) (n : Nat) (r : Bool) (d : ByteArray) (w : World) (hT : Tab w) (hn : n < 4294967296) :
    Calls Tryz.prog 38 #[.agg #[.bool x, .int .u32 n, .bool r, .string d]] w fun e w' => e = .returned (.string ⟨(Bm.row (Cm.enc x n r d.data.toList)).toArray⟩) ∧ Below w.heap.size w w' := by
  have HI : Hid (∀ w, Tab w → Calls Tryz.prog 36 #[.agg #[.bool x, .int .u32 n, .bool r, .string d]] w fun e w' => e = .returned (.bool (Fm.isF x n r d.data.toList)) ∧ Below w.heap.size w w') := fun w hT => fIs_any x n r d w hT
  cases hi : Fm.isF x n r d.data.toList
  · have h0 : Cm.enc x n r d.data.toList = [] := by unfold Cm.enc; rw [hi]; rfl
    rw [h0]
    rw [hi] at HI
    have hT1 : Hid (Tab _) := hT.alloc (.cells #[.bool x, .int .u32 n, .bool r, .string d] 35)
    clear hT h0 hi
    go_enter Tryz.func38, Tryz.ntmps38
    go_wp2_with fail
    refine (HI.out _ hT1.out).mono ?_
    rintro e w1 ⟨rfl, hb1⟩
    have hb2 := below_join ((Below.refl _ _).alloc (Nat.le_refl _) _) hb1
    go_wp2
    go_ret
    exact ⟨rfl, hb2⟩
  · have h0 : Cm.enc x n r d.data.toList = Cm.enc0 x n r d.data.toList := by unfold Cm.enc; rw [hi]; rfl
    have hb : Fm.body x n r d.data.toList = Fm.body0 x n r d.data.toList := by unfold Fm.body; rw [hi]; rfl
    have h8 := (Fm.isF_parts hi).2.1
    have hl := Fm.length_body0 x n r d.data.toList
    have hl2 : (Fm.body0 x n r d.data.toList).length ≤ 103 := by split at hl <;> omega
    have he := (Cm.enc_len hi).2.2
    have HE0 : Cm.enc0 x n r d.data.toList = Sm.stuff (Fm.body0 x n r d.data.toList ++ Bm.ofB (Bm.crc (Fm.body0 x n r d.data.toList)) 15) ++ Cm.ones 10 := rfl
    have HJ : Hid (∀ w, Tab w → Calls Tryz.prog 50 #[.agg #[.bool x, .int .u32 n, .bool r, .string d]] w fun e w' => e = .returned (.string ⟨(Bm.row (Fm.body x n r d.data.toList)).toArray⟩) ∧ Below w.heap.size w w') := fun w hT => fBody_any x n r d w hT hn
    rw [hi] at HI
    rw [hb] at HJ
    rw [h0]
    rw [HE0, List.length_append] at he
    rw [HE0]
    clear HE0 h0 hb hl hi h8
    generalize Fm.body0 x n r d.data.toList = bb at *
    have hcl := Bm.crc_lt bb
    have HC : Hid (∀ w, Calls Tryz.prog 53 #[.string ⟨(Bm.row bb).toArray⟩] w fun e w' => e = .returned (.int .u16 (Bm.crc bb)) ∧ w' = w) := fun w => by
      have h := crc_any ⟨(Bm.row bb).toArray⟩ w (by rw [row_size]; unfold maxLen; omega)
      rw [row_data] at h
      exact h
    have HO : Hid (∀ w, Calls Tryz.prog 52 #[.int .u64 (Bm.crc bb : Int), .int .i64 15] w fun e w' => e = .returned (.string ⟨(Bm.row (Bm.ofB (Bm.crc bb) 15)).toArray⟩) ∧ Below w.heap.size w w') := fun w => of_any (Bm.crc bb) 15 w
    have HS : Hid (∀ w, Calls Tryz.prog 51 #[.string (ByteArray.mk (Bm.row bb).toArray ++ ByteArray.mk (Bm.row (Bm.ofB (Bm.crc bb) 15)).toArray)] w fun e w' => e = .returned (.string ⟨(Bm.row (Sm.stuff (bb ++ Bm.ofB (Bm.crc bb) 15))).toArray⟩) ∧ Below w.heap.size w w') := fun w => by
      have h := stuff_any ⟨(Bm.row (bb ++ Bm.ofB (Bm.crc bb) 15)).toArray⟩ w (by rw [row_size, List.length_append, Bm.length_ofB]; omega)
      rw [row_data, ← cat_row] at h
      exact h
    have hten : (Cm.ones 10).length = 10 := rfl
    refine calls_eq ?_ (enc_yes x n r d _ _ _ (Bm.crc bb) hcl (by rw [row_size]; exact hl2) (by rw [row_size, Bm.length_ofB]) (by rw [row_size]; omega) w hT HI HJ HC HO HS)
    have e : tenOnes = ByteArray.mk (Bm.row (Cm.ones 10)).toArray := rfl
    rw [e, cat_row]
end Go.Proofs.YthkaekpoicodeaaGreatDoor
