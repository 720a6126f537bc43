/- What the document's own FromBytes answers, over its text. -/
import Derived.Test.YtfnbkehabadpmaaDoorRo
import Derived.Test.YtfnbkehabadpmaaDoorBm5
namespace Go.Proofs.YtfnbkehabadpmaaDoor
open Go.RowKit
theorem refOf_8 (n : Nat) (w : World) (hn : n < 256) :
    Calls Tryd.prog 25 #[.int .u64 n, .int .i64 8] w fun e w' => e = .returned (.string ⟨(Bm.row (Bm.ofB n 8)).toArray⟩) ∧ w' = w := refOf_any n 8 w (by omega)
theorem str_app (x y : List UInt8) : (ByteArray.mk x.toArray ++ ByteArray.mk y.toArray) = ByteArray.mk (x ++ y).toArray := by
  apply ByteArray.ext
  rw [ByteArray.data_append]
  simp
set_option maxHeartbeats 400000 in
theorem refFrom_any (s : ByteArray) (w : World) (hs : s.size ≤ 1048576) :
    Calls Tryd.prog 26 #[.string s] w fun e w' => e = .returned (.string ⟨(Bm.row (Bm.fromB s.data.toList)).toArray⟩) ∧ w' = w := by
  go_enter Tryd.func26, Tryd.ntmps26
  go_wp2
  go_loop [3, 4] (fun t i => ∃ k : Nat, k ≤ s.size ∧ i = .int .i64 k ∧ t = .string ⟨(Bm.row (Bm.fromB (s.data.toList.take k))).toArray⟩) (fun _ i => s.size - (intOf i).toNat)
  case atStart => exact ⟨0, Nat.zero_le _, rfl, rfl⟩
  case round =>
    obtain ⟨k, hk, rfl, rfl⟩ := hrel
    by_cases hlt : k < s.size
    · have hl := Bm.length_from_take s k hk
      have hby := s[k].toNat_lt
      have HF : Hid (Bm.row (Bm.fromB (s.data.toList.take (k + 1))) = Bm.row (Bm.fromB (s.data.toList.take k)) ++ Bm.row (Bm.ofB s[k].toNat 8)) := by
        show _ = _
        rw [Bm.take_snoc s k hlt, Bm.fromB_snoc]
        simp [Bm.row]
      generalize Bm.row (Bm.fromB (s.data.toList.take k)) = l at *
      have hl8 : (Bm.row (Bm.ofB s[k].toNat 8)).length = 8 := by rw [Bm.length_row, Bm.length_ofB]
      go_wp2_with (go_at_call 25; refine (refOf_8 _ _ (by omega)).mono ?_; rintro e w' ⟨rfl, rfl⟩)
      go_round
      case rel => exact ⟨k + 1, by omega, by go_num, by rw [str_app, HF.out]⟩
      case measure => simp [intOf]; omega
    · go_wp2
      go_ret
      exact ⟨ret_str (by rw [Bm.take_all s k (by omega)]), rfl⟩
end Go.Proofs.YtfnbkehabadpmaaDoor
