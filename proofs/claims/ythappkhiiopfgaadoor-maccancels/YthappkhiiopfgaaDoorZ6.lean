/- What Len and Acked of package code answer, over the program's own text. -/
import Derived.Test.YthappkhiiopfgaaDoorZ5
import Derived.Test.YthappkhiiopfgaaDoorU3
namespace Go.Proofs.YthappkhiiopfgaaDoor
open Go.RowKit
set_option maxRecDepth 100000 in
set_option maxHeartbeats 1000000 in
theorem cLen_any (x : Bool) (n : Nat) (r : Bool) (d : ByteArray) (w : World) (hT : Tab w) (hn : n < 4294967296) :
    Calls Tryd.prog 16 #[.agg #[.bool x, .int .u32 n, .bool r, .string d]] w fun e w' => e = .returned (.int .i64 ((Cm.enc x n r d.data.toList).length : Int)) ∧ Below w.heap.size w w' := by
  have HE : Hid (∀ w, Tab w → Calls Tryd.prog 21 #[.agg #[.bool x, .int .u32 n, .bool r, .string d]] w fun e w' => e = .returned (.string ⟨(Bm.row (Cm.enc x n r d.data.toList)).toArray⟩) ∧ Below w.heap.size w w') := fun w hT => cEnc_any x n r d w hT hn
  have hz : (ByteArray.mk (Bm.row (Cm.enc x n r d.data.toList)).toArray).size = (Cm.enc x n r d.data.toList).length := row_size _
  rw [← hz]
  generalize ByteArray.mk (Bm.row (Cm.enc x n r d.data.toList)).toArray = E at *
  have hT1 : Hid (Tab _) := hT.alloc (.cells #[.bool x, .int .u32 n, .bool r, .string d] 24)
  clear hz hT
  go_enter Tryd.func16, Tryd.ntmps16
  go_wp2_with fail
  refine (HE.out _ hT1.out).mono ?_
  rintro e w1 ⟨rfl, hb1⟩
  go_wp2
  go_ret
  exact ⟨rfl, below_join ((Below.refl _ _).alloc (Nat.le_refl _) _) hb1⟩
set_option maxRecDepth 100000 in
set_option maxHeartbeats 1000000 in
theorem cAck_any (x : Bool) (n : Nat) (r : Bool) (d : ByteArray) (w : World) (hT : Tab w) (hn : n < 4294967296) :
    Calls Tryd.prog 9 #[.agg #[.bool x, .int .u32 n, .bool r, .string d]] w fun e w' => e = .returned (.string ⟨(Bm.row (Cm.ack x n r d.data.toList)).toArray⟩) ∧ Below w.heap.size w w' := by
  have HE : Hid (∀ w, Tab w → Calls Tryd.prog 21 #[.agg #[.bool x, .int .u32 n, .bool r, .string d]] w fun e w' => e = .returned (.string ⟨(Bm.row (Cm.enc x n r d.data.toList)).toArray⟩) ∧ Below w.heap.size w w') := fun w hT => cEnc_any x n r d w hT hn
  have hz : (ByteArray.mk (Bm.row (Cm.enc x n r d.data.toList)).toArray).size = (Cm.enc x n r d.data.toList).length := row_size _
  have hle : (Cm.enc x n r d.data.toList).length ≤ 200 := by
    cases hi : Fm.isF x n r d.data.toList
    · unfold Cm.enc; rw [hi, if_neg (by decide)]; exact Nat.zero_le _
    · have h := (Cm.enc_len hi).2.2
      unfold Cm.enc; rw [hi]; exact h
  have hA : Bm.turn (Cm.enc x n r d.data.toList) (((Cm.enc x n r d.data.toList).length : Int) - 10 + 1) = Cm.ack x n r d.data.toList := by
    cases hi : Fm.isF x n r d.data.toList
    · have h0 : Cm.enc x n r d.data.toList = [] := by unfold Cm.enc; rw [hi]; rfl
      have h1 : Cm.ack x n r d.data.toList = [] := by unfold Cm.ack; rw [hi]; rfl
      rw [h0, h1]
      rfl
    · have h0 : Cm.enc x n r d.data.toList = Cm.enc0 x n r d.data.toList := by unfold Cm.enc; rw [hi]; rfl
      have h1 : Cm.ack x n r d.data.toList = Cm.ack0 x n r d.data.toList := by unfold Cm.ack; rw [hi]; rfl
      rw [h0, h1, show ((Cm.enc0 x n r d.data.toList).length : Int) - 10 + 1 = ((Cm.enc0 x n r d.data.toList).length : Int) - 9 from by omega, Cm.turn_ack]
  have HT : Hid (∀ w, Calls Tryd.prog 22 #[.string ⟨(Bm.row (Cm.enc x n r d.data.toList)).toArray⟩, .int .i64 (((ByteArray.mk (Bm.row (Cm.enc x n r d.data.toList)).toArray).size : Int) - 10 + 1)] w fun e w' => e = .returned (.string ⟨(Bm.row (Cm.ack x n r d.data.toList)).toArray⟩) ∧ Below w.heap.size w w') := fun w => by
    have h := turn_any ⟨(Bm.row (Cm.enc x n r d.data.toList)).toArray⟩ (((ByteArray.mk (Bm.row (Cm.enc x n r d.data.toList)).toArray).size : Int) - 10 + 1) w (by rw [hz]; omega)
    rw [row_data] at h
    rw [hz] at h ⊢
    rw [hA] at h
    exact h
  rw [← hz] at hle
  clear hA hz
  generalize ByteArray.mk (Bm.row (Cm.enc x n r d.data.toList)).toArray = E at *
  generalize ByteArray.mk (Bm.row (Cm.ack x n r d.data.toList)).toArray = A at *
  have hT1 : Hid (Tab _) := hT.alloc (.cells #[.bool x, .int .u32 n, .bool r, .string d] 24)
  clear hT
  go_enter Tryd.func9, Tryd.ntmps9
  go_wp2_with fail
  refine (HE.out _ hT1.out).mono ?_
  rintro e w1 ⟨rfl, hb1⟩
  have hb2 : Hid (Below w.heap.size w w1) := below_join ((Below.refl _ _).alloc (Nat.le_refl _) _) hb1
  clear hb1
  go_wp2_with (go_at_call 22; refine (HT.out _).mono ?_; rintro e w2 ⟨rfl, hb3⟩)
  all_goals
    go_ret
    exact ⟨rfl, below_join hb2.out hb3⟩
end Go.Proofs.YthappkhiiopfgaaDoor
