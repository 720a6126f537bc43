/- What Text of package frame answers, over the program's own text. -/
import Derived.Test.YtfnbkehabadpmabDoorGa
import Derived.Test.YtfnbkehabadpmabDoorGh
namespace Go.Proofs.YtfnbkehabadpmabDoor
open Go.RowKit
theorem app_nil (T : ByteArray) : T ++ ByteArray.mk (Fm.hexB []).toArray = T := by
  show T ++ ByteArray.empty = T
  simp
set_option maxRecDepth 100000 in
set_option maxHeartbeats 1000000 in
theorem fText_any (x : Bool) (n : Nat) (r : Bool) (d : ByteArray) (w : World) (hT : Tab w) (hn : n < 4294967296) :
    Calls Tryd.prog 9 #[.agg #[.bool x, .int .u32 n, .bool r, .string d]] w fun e w' => e = .returned (.string ⟨(Fm.text x n r d.data.toList).toArray⟩) ∧ Below w.heap.size w w' := by
  have HI : Hid (∀ w, Tab w → Calls Tryd.prog 8 #[.agg #[.bool x, .int .u32 n, .bool r, .string d]] w fun e w' => e = .returned (.bool (Fm.isF x n r d.data.toList)) ∧ Below w.heap.size w w') := fun w hT => fIs_any x n r d w hT
  have HA : Hid (Fm.text x n r d.data.toList = if Fm.isF x n r d.data.toList then Fm.text0 x n r d.data.toList else []) := rfl
  have HQ : Hid (Fm.isF x n r d.data.toList = true → d.size ≤ 8 ∧ (r = true → d = ByteArray.empty)) := fun h => ⟨by simpa using (Fm.isF_parts h).2.1, fun hr => by
    have := (Fm.isF_parts h).2.2 hr
    apply ByteArray.ext
    apply Array.toList_inj.1
    rw [this]; rfl⟩
  have hT1 := hT.alloc (.cells #[.bool x, .int .u32 n, .bool r, .string d] 25)
  generalize Fm.text x n r d.data.toList = res at *
  generalize Fm.isF x n r d.data.toList = b at *
  cases b
  · have HE : Hid (res = []) := HA.out
    go_enter Tryd.func9, Tryd.ntmps9
    go_wp2_with fail
    refine (HI.out _ hT1).mono ?_
    rintro e w1 ⟨rfl, hb1⟩
    have hb2 := below_join ((Below.refl _ _).alloc (Nat.le_refl _) _) hb1
    go_wp2
    go_ret
    exact ⟨by rw [HE.out]; rfl, hb2⟩
  · have HE : Hid (res = Fm.text0 x n r d.data.toList) := HA.out
    obtain ⟨h8, hrd⟩ := HQ.out rfl
    have HW : Hid (∀ w, Tab w → Calls Tryd.prog 14 #[.bool x] w fun e w' => e = .returned (.int .i64 (if x then 29 else 11)) ∧ w' = w) := fun w hT => idWidth_any x w hT
    have HX : Hid (∀ w, Calls Tryd.prog 15 #[.int .u32 (n : Int), .int .i64 (if x then 8 else 3)] w fun e w' => e = .returned (.string ⟨(Fm.hexs n (Fm.hexW x)).toArray⟩) ∧ Below w.heap.size w w') := fun w => hex_any n (Fm.hexW x) hn (by cases x <;> decide) w _ _ rfl (by cases x <;> rfl)
    have HB : Hid (ByteArray.mk (Fm.text0 x n r d.data.toList).toArray = (ByteArray.mk (Fm.hexs n (Fm.hexW x)).toArray ++ ByteArray.mk #[35]) ++ ByteArray.mk (if r then [82] else Fm.hexB d.data.toList).toArray) := by
      show _ = _
      rw [show ByteArray.mk #[35] = ByteArray.mk [35].toArray from rfl, Bm.str_app, Bm.str_app]
      unfold Fm.text0
      simp
    have hsz : (ByteArray.mk (Fm.hexs n (Fm.hexW x)).toArray).size ≤ 8 := by rw [size_str, Fm.length_hexs]; cases x <;> decide
    generalize ByteArray.mk (Fm.hexs n (Fm.hexW x)).toArray = A at *
    have hsB : (A ++ ByteArray.mk #[35]).size ≤ 9 := by rw [ByteArray.size_append]; show A.size + 1 ≤ 9; omega
    clear HA HQ
    have hdig : ((if x then (29 : Int) else 11) + 3) / 4 = if x then 8 else 3 := by cases x <;> rfl
    have hr1 : (if x then (29 : Int) else 11) ≤ 29 := by cases x <;> decide
    have hr2 : 11 ≤ (if x then (29 : Int) else 11) := by cases x <;> decide
    generalize (if x then (29 : Int) else 11) = iw at *
    generalize (if x then (8 : Int) else 3) = dg at *
    go_enter Tryd.func9, Tryd.ntmps9
    go_wp2_with fail
    refine (HI.out _ hT1).mono ?_
    rintro e w1 ⟨rfl, hb1⟩
    have HG : Hid (w1.heap[w.heap.size]? = some (.cells #[.bool x, .int .u32 n, .bool r, .string d] 25 (0, 0))) := (hb1.block w.heap.size (by simp)).trans (heap_alloc_new _ _)
    obtain ⟨c0, c1, c2, c3, _, _, _, _⟩ := four_cells HG.out
    have hT2 : Hid (Tab w1) := hT1.below hb1
    have hb2 := below_join ((Below.refl _ _).alloc (Nat.le_refl _) _) hb1
    clear hb1 HI hT hT1
    go_wp2_with fail
    refine (HW.out _ hT2.out).mono ?_
    rintro e w2 ⟨rfl, rfl⟩
    go_wp2_with fail
    refine (HX.out _).mono ?_
    rintro e w3 ⟨rfl, hb3⟩
    have HG3 : Hid (_) := block_on (Array.getElem?_eq_some_iff.1 HG.out).1 hb3 HG.out
    have hb4 := below_join hb2 hb3
    clear hb2 hb3 HG c0 c1 c2 c3 hT2 HX HW hdig hr1 hr2
    obtain ⟨c0, c1, c2, c3, _, _, _, _⟩ := four_cells HG3.out
    cases r
    · go_wp2_with fail
      generalize A ++ ByteArray.mk #[35] = T at *
      go_loopw [4, 26] (fun t i wr => ∃ k : Nat, k ≤ d.size ∧ i = .int .i64 k ∧ t = .string (T ++ ⟨(Fm.hexB (d.data.toList.take k)).toArray⟩) ∧ Hid (wr.heap[w.heap.size]? = some (.cells #[.bool x, .int .u32 n, .bool false, .string d] 25 (0, 0))) ∧ Below w.heap.size w wr) (fun _ i _ => d.size - (intOf i).toNat)
      case atStart => exact ⟨0, Nat.zero_le _, rfl, by rw [List.take_zero]; exact congrArg Value.string (app_nil T).symm, HG3, hb4⟩
      case round =>
        clear HG3 hb4 c0 c1 c2 c3
        obtain ⟨k, hk, rfl, rfl, HG, hb⟩ := hrel
        by_cases hlt : k < d.size
        · have hlen : (Fm.hexB (d.data.toList.take k)).length ≤ 16 := by rw [Fm.length_hexB, List.length_take]; simp; omega
          have hby := d[k].toNat_lt
          have H2 : Hid (∀ w, Calls Tryd.prog 15 #[.int .u32 (d[k].toNat : Int), .int .i64 2] w fun e w' => e = .returned (.string ⟨(Fm.hexs d[k].toNat 2).toArray⟩) ∧ Below w.heap.size w w') := fun w => hex_any d[k].toNat 2 (by omega) (by decide) w _ _ rfl rfl
          have HS : Hid (ByteArray.mk (Fm.hexB (d.data.toList.take (k + 1))).toArray = ByteArray.mk (Fm.hexB (d.data.toList.take k)).toArray ++ ByteArray.mk (Fm.hexs d[k].toNat 2).toArray) := by
            show _ = _
            rw [Bm.take_snoc d k hlt, Fm.hexB_snoc, Bm.str_app]
          have hl2 : (ByteArray.mk (Fm.hexs d[k].toNat 2).toArray).size = 2 := by rw [size_str, Fm.length_hexs]
          have hl3 : (ByteArray.mk (Fm.hexB (d.data.toList.take k)).toArray).size ≤ 16 := by rw [size_str]; exact hlen
          generalize ByteArray.mk (Fm.hexs d[k].toNat 2).toArray = C at *
          generalize ByteArray.mk (Fm.hexB (d.data.toList.take k)).toArray = D at *
          clear hlen
          obtain ⟨c0, c1, c2, c3, _, _, _, _⟩ := four_cells HG.out
          go_wp2_with fail
          refine (H2.out _).mono ?_
          rintro e w5 ⟨rfl, hb5⟩
          have HG5 : Hid (_) := block_on (Array.getElem?_eq_some_iff.1 HG.out).1 hb5 HG.out
          have hb6 := below_join hb hb5
          clear hb hb5 HG
          go_wp2
          go_roundw
          case rel => exact ⟨k + 1, by omega, by go_num, by rw [HS.out, ByteArray.append_assoc], HG5, hb6⟩
          case measure => simp [intOf]; omega
        · go_wp2
          go_ret
          refine ⟨?_, hb⟩
          rw [HE.out, HB.out, if_neg (by decide), Bm.take_all d k (by omega)]
          rfl
    · obtain rfl := hrd rfl
      go_wp2_with fail
      go_loopw [4, 26] (fun t i wr => i = .int .i64 0 ∧ t = .string (A ++ ByteArray.mk #[35] ++ ByteArray.mk #[82]) ∧ Below w.heap.size w wr) (fun _ _ _ => 0)
      case atStart => exact ⟨rfl, rfl, hb4⟩
      case round =>
        obtain ⟨rfl, rfl, hb⟩ := hrel
        go_wp2
        go_ret
        refine ⟨?_, hb⟩
        rw [HE.out, HB.out]
        rfl
end Go.Proofs.YtfnbkehabadpmabDoor
