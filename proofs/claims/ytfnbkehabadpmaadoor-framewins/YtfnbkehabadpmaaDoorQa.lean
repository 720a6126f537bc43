/- What the document's own And answers, over its text. -/
import Derived.Test.YtfnbkehabadpmaaDoorRo
import Derived.Test.YtfnbkehabadpmaaDoorBm5
namespace Go.Proofs.YtfnbkehabadpmaaDoor
open Go.RowKit
set_option maxHeartbeats 400000 in
theorem refAnd_any (s t : ByteArray) (w : World) (hs : s.size ≤ 1048576) :
    Calls Tryd.prog 23 #[.string s, .string t] w fun e w' => e = .returned (.string ⟨(Bm.row (Bm.both (Bm.read s.data.toList) (Bm.read t.data.toList))).toArray⟩) ∧ w' = w := by
  go_enter Tryd.func23, Tryd.ntmps23
  go_wp2
  go_loop [5, 6] (fun n i => ∃ k : Nat, k ≤ s.size ∧ k ≤ t.size ∧ i = .int .i64 k ∧ n = .string ⟨((Bm.row (Bm.both (Bm.read s.data.toList) (Bm.read t.data.toList))).take k).toArray⟩) (fun _ i => s.size - (intOf i).toNat)
  case atStart => exact ⟨0, Nat.zero_le _, Nat.zero_le _, rfl, rfl⟩
  case round =>
    obtain ⟨k, hk, hk2, rfl, rfl⟩ := hrel
    by_cases hlt : k < s.size
    · by_cases hlt2 : k < t.size
      · have HT := Bm.both_get s t k hlt hlt2
        rw [← Bm.isOne_dec, ← Bm.isOne_dec] at HT
        have HT' : Hid (_) := HT
        clear HT
        generalize Bm.row (Bm.both (Bm.read s.data.toList) (Bm.read t.data.toList)) = l at *
        cases h1 : ((s[k].toNat : Int) == 49)
        · rw [h1] at HT'
          go_wp2_with (go_at_call 24; refine (refBit_any _ _).mono ?_; rintro e w' ⟨rfl, rfl⟩)
          go_round
          case rel => exact ⟨k + 1, by omega, by omega, by go_num, by rw [← Bm.str_snoc _ _ _ HT'.out]; rfl⟩
          case measure => simp [intOf]; omega
        · rw [h1] at HT'
          go_wp2_with (go_at_call 24; refine (refBit_any _ _).mono ?_; rintro e w' ⟨rfl, rfl⟩)
          go_round
          case rel => exact ⟨k + 1, by omega, by omega, by go_num, by rw [← Bm.str_snoc _ _ _ HT'.out]; rfl⟩
          case measure => simp [intOf]; omega
      · go_wp2
        go_ret
        exact ⟨ret_str (Bm.take_row_all _ _ _ (Bm.length_row_both s t) (by omega)), rfl⟩
    · go_wp2
      go_ret
      exact ⟨ret_str (Bm.take_row_all _ _ _ (Bm.length_row_both s t) (by omega)), rfl⟩
end Go.Proofs.YtfnbkehabadpmaaDoor
