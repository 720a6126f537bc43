/- What the document's own Num answers, over its text. -/
import Derived.Test.YtfnbkehabadpmaaDoorRo
import Derived.Test.YtfnbkehabadpmaaDoorBm5
namespace Go.Proofs.YtfnbkehabadpmaaDoor
open Go.RowKit
set_option maxHeartbeats 400000 in
theorem refNum_any (s : ByteArray) (w : World) (hs : s.size ≤ maxLen) :
    Calls Tryd.prog 38 #[.string s] w fun e w' => e = .returned (.int .u64 (Bm.num (Bm.read s.data.toList))) ∧ w' = w := by
  unfold maxLen at hs
  go_enter Tryd.func38, Tryd.ntmps38
  go_wp2
  go_loop [3, 4] (fun n i => ∃ k : Nat, k ≤ s.size ∧ i = .int .i64 k ∧ n = .int .u64 (Bm.num (Bm.read (s.data.toList.take k)))) (fun _ i => s.size - (intOf i).toNat)
  case atStart => exact ⟨0, Nat.zero_le _, rfl, rfl⟩
  case round =>
    obtain ⟨k, hk, rfl, rfl⟩ := hrel
    by_cases hlt : k < s.size
    · have HS : Hid (Bm.num (Bm.read (s.data.toList.take (k + 1))) = Bm.numStep (Bm.num (Bm.read (s.data.toList.take k))) (Bm.isOne s[k])) := by
        rw [Bm.read_take_succ s k hlt]; exact Bm.num_snoc _ _
      have hm := Bm.num_lt (Bm.read (s.data.toList.take k))
      generalize Bm.num (Bm.read (s.data.toList.take k)) = m at *
      go_wp2
      all_goals
        go_round
        case rel => exact ⟨k + 1, by omega, by go_num, by rw [HS.out]; first | rw [Bm.num_yes _ _ hm ‹_›] | rw [Bm.num_no _ _ hm ‹_›]⟩
        case measure => simp [intOf]; omega
    · go_wp2
      go_ret
      exact ⟨ret_int (by rw [Bm.take_all s k (by omega)]), rfl⟩
end Go.Proofs.YtfnbkehabadpmaaDoor
