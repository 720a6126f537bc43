/- What the document's own Is answers, over its text. -/
import Derived.Test.YthappkhiiopfgaaDoorU5
import Derived.Test.YthappkhiiopfgaaDoorU1
namespace Go.Proofs.YthappkhiiopfgaaDoor
open Go.RowKit
set_option maxHeartbeats 400000 in
theorem refIs_any (s : ByteArray) (w : World) (hs : s.size ≤ maxLen) :
    Calls Tryd.prog 19 #[.string s] w fun e w' => e = .returned (.bool (Bm.okAll s.data.toList)) ∧ w' = w := by
  unfold maxLen at hs
  go_enter Tryd.func19, Tryd.ntmps19
  go_wp2
  go_loop [3] (fun i => ∃ k : Nat, k ≤ s.size ∧ i = .int .i64 k ∧ Bm.okAll (s.data.toList.take k) = true) (fun i => s.size - (intOf i).toNat)
  case atStart => exact ⟨0, Nat.zero_le _, rfl, rfl⟩
  case round =>
    obtain ⟨k, hk, rfl, hall⟩ := hrel
    by_cases hlt : k < s.size
    · have HS : Hid (Bm.okAll (s.data.toList.take (k + 1)) = (Bm.okAll (s.data.toList.take k) && Bm.signOk s[k])) := Bm.okAll_take_succ s k hlt
      have HA : Hid (Bm.okAll (s.data.toList.take k) = true) := hall
      have HI : Hid (Bm.signOk s[k] = true ↔ ((s[k].toNat : Int) = 48 ∨ (s[k].toNat : Int) = 49)) := Bm.signOk_iff _
      have HF : Hid (Bm.signOk s[k] = false → Bm.okAll s.data.toList = false) := Bm.okAll_false s k hlt
      clear hall
      by_cases h48 : (s[k].toNat : Int) = 48
      · have hb : ((s[k].toNat : Int) != 48) = false := by simp [h48]
        have HO : Hid (Bm.signOk s[k] = true) := HI.out.2 (Or.inl h48)
        clear h48
        go_wp2
        go_round
        case rel => exact ⟨k + 1, by omega, by go_num, by rw [HS.out, HA.out, HO.out]; rfl⟩
        case measure => simp [intOf]; omega
      · have hb : ((s[k].toNat : Int) != 48) = true := by simp [h48]
        by_cases h49 : (s[k].toNat : Int) = 49
        · have hc : ((s[k].toNat : Int) != 49) = false := by simp [h49]
          have HO : Hid (Bm.signOk s[k] = true) := HI.out.2 (Or.inr h49)
          clear h48 h49
          go_wp2
          go_round
          case rel => exact ⟨k + 1, by omega, by go_num, by rw [HS.out, HA.out, HO.out]; rfl⟩
          case measure => simp [intOf]; omega
        · have hc : ((s[k].toNat : Int) != 49) = true := by simp [h49]
          have HO : Hid (Bm.okAll s.data.toList = false) := HF.out (by
            cases h : Bm.signOk s[k]
            · rfl
            · rcases HI.out.1 h with h | h
              · exact absurd h h48
              · exact absurd h h49)
          clear h48 h49
          go_wp2
          go_ret
          exact ⟨ret_bool HO.out.symm, rfl⟩
    · go_wp2
      go_ret
      exact ⟨ret_bool (by rw [← hall, Bm.take_all s k (by omega)]), rfl⟩
end Go.Proofs.YthappkhiiopfgaaDoor
