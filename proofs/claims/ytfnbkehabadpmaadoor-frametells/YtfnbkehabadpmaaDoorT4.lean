/- What the document's own Text of frames answers, over its text. -/
import Derived.Test.YtfnbkehabadpmaaDoorT3
import Derived.Test.YtfnbkehabadpmaaDoorLi
namespace Go.Proofs.YtfnbkehabadpmaaDoor
open Go.RowKit
theorem refHex_k (n k : Nat) (hk : k ≤ 8) (hn : n < 18446744073709551616) (w : World) (x : Int) (hx : x = (k : Int)) (y : Int) (hy : y = (n : Int)) :
    Calls Tryd.prog 32 #[.int .u64 y, .int .i64 x] w fun e w' => e = .returned (.string ⟨(Fm.hexs n k).toArray⟩) ∧ w' = w := by
  subst hx hy
  exact refHex_any n k w hn hk
theorem app_nil (T : ByteArray) : T ++ ByteArray.mk (Fm.hexB []).toArray = T := by
  apply ByteArray.ext
  rw [ByteArray.data_append]
  simp [Fm.hexB]
set_option maxRecDepth 100000 in
set_option maxHeartbeats 1000000 in
theorem refFText_any (x : Bool) (n : Nat) (r : Bool) (d : ByteArray) (w : World) (hn : n < 4294967296) :
    Calls Tryd.prog 18 #[.agg #[.bool x, .int .u32 n, .bool r, .string d]] w fun e w' => e = .returned (.string ⟨(Fm.text x n r d.data.toList).toArray⟩) ∧ Below w.heap.size w w' := by
  have HI : Hid (∀ w, Calls Tryd.prog 12 #[.agg #[.bool x, .int .u32 n, .bool r, .string d]] w fun e w' => e = .returned (.bool (Fm.isF x n r d.data.toList)) ∧ Below w.heap.size w w') := fun w => refFIs_any x n r d w
  have HA : Hid (Fm.text x n r d.data.toList = if Fm.isF x n r d.data.toList then Fm.text0 x n r d.data.toList else []) := rfl
  have HQ : Hid (Fm.isF x n r d.data.toList = true → d.size ≤ 8) := fun h => by simpa using (Fm.isF_parts h).2.1
  generalize Fm.text x n r d.data.toList = res at *
  generalize Fm.isF x n r d.data.toList = b at *
  cases b
  · have HE : Hid (res = []) := HA.out
    go_enter Tryd.func18, Tryd.ntmps18
    go_wp2_with fail
    refine (HI.out _).mono ?_
    rintro e w1 ⟨rfl, hb1⟩
    have hb2 := below_join ((Below.refl _ _).alloc (Nat.le_refl _) _) hb1
    go_wp2
    go_ret
    exact ⟨by rw [HE.out]; rfl, hb2⟩
  · have HE : Hid (res = Fm.text0 x n r d.data.toList) := HA.out
    have h8 : d.size ≤ 8 := HQ.out rfl
    clear HA HQ
    have HT : Hid (Fm.text0 x n r d.data.toList = Fm.hexs n (Fm.hexW x) ++ (35 :: (if r then [82] else Fm.hexB d.data.toList))) := rfl
    have H1 : Hid (∀ w, Calls Tryd.prog 32 #[.int .u64 (n : Int), .int .i64 (if x then 8 else 3)] w fun e w' => e = .returned (.string ⟨(Fm.hexs n (Fm.hexW x)).toArray⟩) ∧ w' = w) := fun w => refHex_k n (Fm.hexW x) (by unfold Fm.hexW; split <;> omega) (by omega) w _ (by unfold Fm.hexW; cases x <;> rfl) _ rfl
    have hl := Fm.length_hexs n (Fm.hexW x)
    have hW : Fm.hexW x ≤ 8 := by unfold Fm.hexW; split <;> omega
    go_enter Tryd.func18, Tryd.ntmps18
    go_wp2_with fail
    refine (HI.out _).mono ?_
    rintro e w1 ⟨rfl, hb1⟩
    have c0 : w1.cell? ⟨w.heap.size, 0, none⟩ = some (.bool x) := (hb1.cell (p := ⟨w.heap.size, 0, none⟩) (by simp)).trans (by rw [cell_of_row _ _ _ _ _ _ (heap_alloc_new _ _)]; rfl)
    have c1 : w1.cell? ⟨w.heap.size, 1, none⟩ = some (.int .u32 n) := (hb1.cell (p := ⟨w.heap.size, 1, none⟩) (by simp)).trans (by rw [cell_of_row _ _ _ _ _ _ (heap_alloc_new _ _)]; rfl)
    have c2 : w1.cell? ⟨w.heap.size, 2, none⟩ = some (.bool r) := (hb1.cell (p := ⟨w.heap.size, 2, none⟩) (by simp)).trans (by rw [cell_of_row _ _ _ _ _ _ (heap_alloc_new _ _)]; rfl)
    have c3 : w1.cell? ⟨w.heap.size, 3, none⟩ = some (.string d) := (hb1.cell (p := ⟨w.heap.size, 3, none⟩) (by simp)).trans (by rw [cell_of_row _ _ _ _ _ _ (heap_alloc_new _ _)]; rfl)
    have hb2 := below_join ((Below.refl _ _).alloc (Nat.le_refl _) _) hb1
    clear hb1 HI
    have HB : Hid (ByteArray.mk (Fm.text0 x n r d.data.toList).toArray = (ByteArray.mk (Fm.hexs n (Fm.hexW x)).toArray ++ ByteArray.mk #[35]) ++ ByteArray.mk (if r then [82] else Fm.hexB d.data.toList).toArray) := by
      show _ = _
      rw [HT.out, show ByteArray.mk #[35] = ByteArray.mk [35].toArray from rfl, Bm.str_app, Bm.str_app]
      simp
    have hsz : (ByteArray.mk (Fm.hexs n (Fm.hexW x)).toArray).size ≤ 8 := by rw [size_str, hl]; exact hW
    clear hl HT
    generalize ByteArray.mk (Fm.hexs n (Fm.hexW x)).toArray = A at *
    have hsB : (A ++ ByteArray.mk #[35]).size ≤ 9 := by rw [ByteArray.size_append]; show A.size + 1 ≤ 9; omega
    cases x
    · rw [if_neg (by decide)] at H1
      go_wp2_with fail
      refine (H1.out _).mono ?_
      rintro e w2 ⟨rfl, rfl⟩
      clear H1 hW
      cases r
      · go_wp2_with fail
        generalize A ++ ByteArray.mk #[35] = T at *
        go_loop [4, 5] (fun t i => ∃ k : Nat, k ≤ d.size ∧ i = .int .i64 k ∧ t = .string (T ++ ⟨(Fm.hexB (d.data.toList.take k)).toArray⟩)) (fun _ i => d.size - (intOf i).toNat)
        case atStart => exact ⟨0, Nat.zero_le _, rfl, by rw [List.take_zero]; exact congrArg Value.string (app_nil T).symm⟩
        case round =>
          obtain ⟨k, hk, rfl, rfl⟩ := hrel
          by_cases hlt : k < d.size
          · have hlen : (Fm.hexB (d.data.toList.take k)).length ≤ 16 := by rw [Fm.length_hexB, List.length_take]; simp; omega
            have hby := d[k].toNat_lt
            have H2 : Hid (∀ w, Calls Tryd.prog 32 #[.int .u64 (d[k].toNat : Int), .int .i64 2] w fun e w' => e = .returned (.string ⟨(Fm.hexs d[k].toNat 2).toArray⟩) ∧ w' = w) := fun w => refHex_k d[k].toNat 2 (by decide) (by omega) w _ rfl _ rfl
            have HS : Hid (ByteArray.mk (Fm.hexB (d.data.toList.take (k + 1))).toArray = ByteArray.mk (Fm.hexB (d.data.toList.take k)).toArray ++ ByteArray.mk (Fm.hexs d[k].toNat 2).toArray) := by
              show _ = _
              rw [Bm.take_snoc d k hlt, Fm.hexB_snoc, Bm.str_app]
            have hl2 : (ByteArray.mk (Fm.hexs d[k].toNat 2).toArray).size = 2 := by rw [size_str, Fm.length_hexs]
            have hl3 : (ByteArray.mk (Fm.hexB (d.data.toList.take k)).toArray).size ≤ 16 := by rw [size_str]; exact hlen
            generalize ByteArray.mk (Fm.hexs d[k].toNat 2).toArray = C at *
            generalize ByteArray.mk (Fm.hexB (d.data.toList.take k)).toArray = D at *
            clear hlen
            go_wp2_with (go_at_call 32; refine (H2.out _).mono ?_; rintro e w' ⟨rfl, rfl⟩)
            go_round
            case rel => exact ⟨k + 1, by omega, by go_num, by rw [HS.out, ByteArray.append_assoc]⟩
            case measure => simp [intOf]; omega
          · go_wp2
            go_ret
            refine ⟨?_, hb2⟩
            rw [HE.out, HB.out, if_neg (by decide), Bm.take_all d k (by omega)]
            rfl
      · go_wp2
        go_ret
        refine ⟨?_, hb2⟩
        rw [HE.out, HB.out]
        rfl
    · rw [if_pos rfl] at H1
      go_wp2_with fail
      refine (H1.out _).mono ?_
      rintro e w2 ⟨rfl, rfl⟩
      clear H1 hW
      cases r
      · go_wp2_with fail
        generalize A ++ ByteArray.mk #[35] = T at *
        go_loop [4, 5] (fun t i => ∃ k : Nat, k ≤ d.size ∧ i = .int .i64 k ∧ t = .string (T ++ ⟨(Fm.hexB (d.data.toList.take k)).toArray⟩)) (fun _ i => d.size - (intOf i).toNat)
        case atStart => exact ⟨0, Nat.zero_le _, rfl, by rw [List.take_zero]; exact congrArg Value.string (app_nil T).symm⟩
        case round =>
          obtain ⟨k, hk, rfl, rfl⟩ := hrel
          by_cases hlt : k < d.size
          · have hlen : (Fm.hexB (d.data.toList.take k)).length ≤ 16 := by rw [Fm.length_hexB, List.length_take]; simp; omega
            have hby := d[k].toNat_lt
            have H2 : Hid (∀ w, Calls Tryd.prog 32 #[.int .u64 (d[k].toNat : Int), .int .i64 2] w fun e w' => e = .returned (.string ⟨(Fm.hexs d[k].toNat 2).toArray⟩) ∧ w' = w) := fun w => refHex_k d[k].toNat 2 (by decide) (by omega) w _ rfl _ rfl
            have HS : Hid (ByteArray.mk (Fm.hexB (d.data.toList.take (k + 1))).toArray = ByteArray.mk (Fm.hexB (d.data.toList.take k)).toArray ++ ByteArray.mk (Fm.hexs d[k].toNat 2).toArray) := by
              show _ = _
              rw [Bm.take_snoc d k hlt, Fm.hexB_snoc, Bm.str_app]
            have hl2 : (ByteArray.mk (Fm.hexs d[k].toNat 2).toArray).size = 2 := by rw [size_str, Fm.length_hexs]
            have hl3 : (ByteArray.mk (Fm.hexB (d.data.toList.take k)).toArray).size ≤ 16 := by rw [size_str]; exact hlen
            generalize ByteArray.mk (Fm.hexs d[k].toNat 2).toArray = C at *
            generalize ByteArray.mk (Fm.hexB (d.data.toList.take k)).toArray = D at *
            clear hlen
            go_wp2_with (go_at_call 32; refine (H2.out _).mono ?_; rintro e w' ⟨rfl, rfl⟩)
            go_round
            case rel => exact ⟨k + 1, by omega, by go_num, by rw [HS.out, ByteArray.append_assoc]⟩
            case measure => simp [intOf]; omega
          · go_wp2
            go_ret
            refine ⟨?_, hb2⟩
            rw [HE.out, HB.out, if_neg (by decide), Bm.take_all d k (by omega)]
            rfl
      · go_wp2
        go_ret
        refine ⟨?_, hb2⟩
        rw [HE.out, HB.out]
        rfl
end Go.Proofs.YtfnbkehabadpmaaDoor
