/- What front, placeOf and formBreak of package code answer, over the program's own text. -/
import Derived.Test.YthkaekpoicodeaaGreatDoorU7
import Derived.Test.YthkaekpoicodeaaGreatDoorU1
import Derived.Test.YthkaekpoicodeaaGreatDoorU6
namespace Go.Proofs.YthkaekpoicodeaaGreatDoor
open Go.RowKit
set_option maxHeartbeats 400000 in
theorem front_any (s : ByteArray) (hs : s.size ≤ 1048576) (w : World) : Calls Tryz.prog 110 #[.string s] w fun e w' => e = .returned (.string (s.extract 0 (min s.size 157))) ∧ w' = w := by
  have hmin : min (s.size : Int) 157 = ((min s.size 157 : Nat) : Int) := by omega
  have hle : min s.size 157 ≤ s.size := by omega
  generalize min s.size 157 = m at *
  go_enter Tryz.func110, Tryz.ntmps110
  go_wp2
  go_ret
  exact ⟨rfl, rfl⟩
theorem read_front (s : ByteArray) (k : Nat) : Bm.read (s.extract 0 k).data.toList = (Bm.read s.data.toList).take k := by
  rw [Fm.read_extract]
  unfold Fm.cut
  rw [List.drop_zero, Nat.sub_zero]
set_option maxHeartbeats 400000 in
theorem placeOf_any (s : ByteArray) (k : Nat) (hk : k ≤ s.size) (hs : s.size ≤ 1048576) (w : World) (y : Int) (hy : y = (k : Int)) : Calls Tryz.prog 118 #[.string s, .int .i64 y] w fun e w' => e = .returned (.int .i64 (Cm.place (Bm.read s.data.toList) k : Int)) ∧ Below w.heap.size w w' := by
  subst hy
  have HS : Hid (∀ w, Calls Tryz.prog 51 #[.string (s.extract 0 k)] w fun e w' => e = .returned (.string ⟨(Bm.row (Sm.stuff ((Bm.read s.data.toList).take k))).toArray⟩) ∧ Below w.heap.size w w') := fun w => by
    have h := stuff_any (s.extract 0 k) w (by simp; omega)
    rw [read_front] at h
    exact h
  have hz : (ByteArray.mk (Bm.row (Sm.stuff ((Bm.read s.data.toList).take k))).toArray).size = Cm.place (Bm.read s.data.toList) k := row_size _
  rw [← hz]
  clear hz
  generalize ByteArray.mk (Bm.row (Sm.stuff ((Bm.read s.data.toList).take k))).toArray = E at *
  go_enter Tryz.func118, Tryz.ntmps118
  go_wp2_with fail
  refine (HS.out _).mono ?_
  rintro e w1 ⟨rfl, hb1⟩
  go_wp2
  go_ret
  exact ⟨rfl, hb1⟩
set_option maxRecDepth 100000 in
set_option maxHeartbeats 1000000 in
theorem formBreak_any (s : ByteArray) (hs : s.size ≤ 1000000) (w : World) (hT : Tab w) : Calls Tryz.prog 117 #[.string s] w fun e w' => e = .returned (.int .i64 (Cm.fbreak (Bm.read s.data.toList) : Int)) ∧ Below w.heap.size w w' := by
  have HT : Hid (∀ w', Below w.heap.size w w' → Tab w') := fun w' hb => hT.below hb
  have hlen : (Bm.read s.data.toList).length = s.size := by rw [Bm.length_read]; simp
  have HP : Hid (∀ k w, Tab w → Calls Tryz.prog 116 #[.string (s.extract 0 (k + 1))] w fun e w' => e = .returned (pfv (Fm.parse ((Bm.read s.data.toList).take (k + 1)))) ∧ Below w.heap.size w w') := fun k w hT => by
    have h := fParse_any (s.extract 0 (k + 1)) w hT (by simp; omega)
    rw [read_front] at h
    exact h
  have HO : Hid (∀ (k : Nat) w, k ≤ s.size → Calls Tryz.prog 118 #[.string s, .int .i64 (k : Int)] w fun e w' => e = .returned (.int .i64 (Cm.place (Bm.read s.data.toList) k : Int)) ∧ Below w.heap.size w w') := fun k w hk => placeOf_any s k hk (by omega) w _ rfl
  have HF : Hid (Cm.fbreak (Bm.read s.data.toList) = Cm.place (Bm.read s.data.toList) (Cm.brk (Bm.read s.data.toList) s.size 0)) := by show _ = _; unfold Cm.fbreak; rw [hlen]
  generalize Cm.fbreak (Bm.read s.data.toList) = res at *
  generalize Bm.read s.data.toList = L at *
  clear hT hlen
  go_enter Tryz.func117, Tryz.ntmps117
  go_wp2_with fail
  go_loopw [3] (fun i wr => ∃ k : Nat, k ≤ s.size ∧ i = .int .i64 k ∧ Hid (Cm.brk L s.size 0 = Cm.brk L (s.size - k) k) ∧ Below w.heap.size w wr) (fun i _ => s.size - (intOf i).toNat)
  case atStart => exact ⟨0, Nat.zero_le _, rfl, rfl, Below.refl _ _⟩
  case round =>
    obtain ⟨k, hk, rfl, HI, hb⟩ := hrel
    by_cases hlt : k < s.size
    · have HB : Hid (Cm.brk L s.size 0 = if (Fm.parse (L.take (k + 1))).2.2 = 12 then k else Cm.brk L (s.size - (k + 1)) (k + 1)) := by
        show _ = _
        rw [HI.out, show s.size - k = (s.size - (k + 1)) + 1 from by omega]
        rfl
      have HPk : Hid (_) := HP.out k _ (HT.out _ hb)
      unfold pfv at HPk
      generalize Fm.parse (L.take (k + 1)) = R at *
      obtain ⟨⟨x, n, r, d⟩, q, e0⟩ := R
      simp only at HPk HB
      clear HI HP
      go_wp2_with fail
      refine Calls.mono HPk.out ?_
      rintro e w1 ⟨rfl, hb1⟩
      have hb2 := below_join hb hb1
      clear hb hb1 HPk
      by_cases c : e0 = 12
      · subst c
        rw [if_pos rfl] at HB
        rw [HB.out] at HF
        go_wp2_with fail
        refine (HO.out k _ (by omega)).mono ?_
        rintro e w3 ⟨rfl, hb3⟩
        have hb4 := below_join (hb2.alloc hb2.size _) hb3
        go_wp2
        go_ret
        exact ⟨by rw [HF.out]; rfl, hb4⟩
      · have c0 : ((e0 : Int) == 12) = false := by rw [beq_eq_false_iff_ne]; omega
        rw [if_neg c] at HB
        go_wp2_with fail
        go_roundw
        case rel => exact ⟨k + 1, by omega, by go_num, HB, hb2.alloc hb2.size _⟩
        case measure => simp [intOf]; omega
    · obtain rfl : k = s.size := by omega
      have HB : Hid (Cm.brk L s.size 0 = s.size) := by
        show _ = _
        rw [HI.out, Nat.sub_self]
        rfl
      rw [HB.out] at HF
      clear HI HP
      go_wp2_with fail
      refine (HO.out s.size _ (Nat.le_refl _)).mono ?_
      rintro e w3 ⟨rfl, hb3⟩
      have hb4 := below_join hb hb3
      go_wp2
      go_ret
      exact ⟨by rw [HF.out]; rfl, hb4⟩
end Go.Proofs.YthkaekpoicodeaaGreatDoor
