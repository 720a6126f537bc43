import Derived.Test.YtloafndmfeopgabRows
import Derived.Test.YtloafndmfeopgabBm
import Derived.WalkKit
import Derived.WalkSpells
import Derived.WalkLawsBesides
namespace Go.Proofs.Ytloafndmfeopgab
open Go.RowKit

theorem ret_int {k : IntKind} {a b : Int} (h : a = b) : Ending.returned (.int k a) = .returned (.int k b) := by rw [h]
set_option maxHeartbeats 400000 in
theorem bit_any (c : Int) (w : World) :
    Calls Try.prog 15 #[.int .u8 c] w fun e w' => e = .returned (.int .u8 (Bm.bitI c)) ∧ w' = w := by
  unfold Bm.bitI
  by_cases h : c = 49
  · have hb : (c == 49) = true := by simp [h]
    rw [if_pos h]
    clear h
    go_enter Try.func15, Try.ntmps15
    go_wp2
    go_ret
    exact ⟨rfl, rfl⟩
  · have hb : (c == 49) = false := by simp [h]
    rw [if_neg h]
    go_enter Try.func15, Try.ntmps15
    go_wp2
    go_ret
    exact ⟨rfl, rfl⟩

set_option maxHeartbeats 400000 in
theorem num_any (s : ByteArray) (w : World) (hs : s.size ≤ maxLen) :
    Calls Try.prog 7 #[.string s] w fun e w' => e = .returned (.int .u64 (Bm.num (Bm.read s.data.toList))) ∧ w' = w := by
  unfold maxLen at hs
  go_enter Try.func7, Try.ntmps7
  go_wp2
  go_loop [3, 7] (fun n i => ∃ k : Nat, k ≤ s.size ∧ i = .int .i64 k ∧ n = .int .u64 (Bm.num (Bm.read (s.data.toList.take k)))) (fun _ i => s.size - (intOf i).toNat)
  case atStart => exact ⟨0, Nat.zero_le _, rfl, rfl⟩
  case round =>
    obtain ⟨k, hk, rfl, rfl⟩ := hrel
    by_cases hlt : k < s.size
    · have HS : Hid (Bm.num (Bm.read (s.data.toList.take (k + 1))) = Bm.numStep (Bm.num (Bm.read (s.data.toList.take k))) (Bm.isOne s[k])) := by
        rw [Bm.read_take_succ s k hlt]; exact Bm.num_snoc _ _
      have hm := Bm.num_lt (Bm.read (s.data.toList.take k))
      generalize Bm.num (Bm.read (s.data.toList.take k)) = m at *
      have h0 := Bm.bitI_ge (s[k].toNat : Int)
      have h1 := Bm.bitI_le (s[k].toNat : Int)
      go_wp2_with (go_at_call 15; refine (bit_any _ _).mono ?_; rintro e w' ⟨rfl, rfl⟩)
      go_round
      case rel => exact ⟨k + 1, by omega, by go_num, by rw [HS.out, Bm.bitI_byte, Bm.or_step _ _ hm]⟩
      case measure => simp [intOf]; omega
    · go_wp2
      go_ret
      exact ⟨ret_int (by rw [Bm.take_all s k (by omega)]), rfl⟩

theorem ret_bool {a b : Bool} (h : a = b) : Ending.returned (.bool a) = .returned (.bool b) := by rw [h]
set_option maxHeartbeats 400000 in
theorem crc_any (s : ByteArray) (w : World) (hs : s.size ≤ maxLen) :
    Calls Try.prog 9 #[.string s] w fun e w' => e = .returned (.int .u16 (Bm.crc (Bm.read s.data.toList))) ∧ w' = w := by
  unfold maxLen at hs
  go_enter Try.func9, Try.ntmps9
  go_wp2
  go_loop [3, 8] (fun n i => ∃ k : Nat, k ≤ s.size ∧ i = .int .i64 k ∧ n = .int .u16 (Bm.crc (Bm.read (s.data.toList.take k)))) (fun _ i => s.size - (intOf i).toNat)
  case atStart => exact ⟨0, Nat.zero_le _, rfl, rfl⟩
  case round =>
    obtain ⟨k, hk, rfl, rfl⟩ := hrel
    by_cases hlt : k < s.size
    · have HS : Hid (Bm.crc (Bm.read (s.data.toList.take (k + 1))) = Bm.crcStep (Bm.crc (Bm.read (s.data.toList.take k))) (Bm.isOne s[k])) := by
        rw [Bm.read_take_succ s k hlt]; exact Bm.crc_snoc _ _
      have hm := Bm.crc_lt (Bm.read (s.data.toList.take k))
      generalize Bm.crc (Bm.read (s.data.toList.take k)) = m at *
      have h0 := Bm.bitI_ge (s[k].toNat : Int)
      have h1 := Bm.bitI_le (s[k].toNat : Int)
      go_wp2_with (go_at_call 15; refine (bit_any _ _).mono ?_; rintro e w' ⟨rfl, rfl⟩)
      all_goals
        go_round
        case rel => exact ⟨k + 1, by omega, by go_num, by rw [HS.out]; first | rw [Bm.crc_yes _ _ hm ‹_›] | rw [Bm.crc_no _ _ hm ‹_›]⟩
        case measure => simp [intOf]; omega
    · go_wp2
      go_ret
      exact ⟨ret_int (by rw [Bm.take_all s k (by omega)]), rfl⟩

set_option maxHeartbeats 400000 in
theorem is_any (s : ByteArray) (w : World) (hs : s.size ≤ maxLen) :
    Calls Try.prog 8 #[.string s] w fun e w' => e = .returned (.bool (Bm.okAll s.data.toList)) ∧ w' = w := by
  unfold maxLen at hs
  go_enter Try.func8, Try.ntmps8
  go_wp2
  go_loop [6] (fun i => ∃ k : Nat, k ≤ s.size ∧ i = .int .i64 k ∧ Bm.okAll (s.data.toList.take k) = true) (fun i => s.size - (intOf i).toNat)
  case atStart => exact ⟨0, Nat.zero_le _, rfl, rfl⟩
  case round =>
    obtain ⟨k, hk, rfl, hall⟩ := hrel
    by_cases hlt : k < s.size
    · have HS : Hid (Bm.okAll (s.data.toList.take (k + 1)) = (Bm.okAll (s.data.toList.take k) && Bm.signOk s[k])) := Bm.okAll_take_succ s k hlt
      have HA : Hid (Bm.okAll (s.data.toList.take k) = true) := hall
      have HI : Hid (Bm.signOk s[k] = true ↔ ((s[k].toNat : Int) = 48 ∨ (s[k].toNat : Int) = 49)) := Bm.signOk_iff _
      have HF : Hid (Bm.signOk s[k] = false → Bm.okAll s.data.toList = false) := Bm.okAll_false s k hlt
      clear hall
      by_cases h48 : (s[k].toNat : Int) = 48
      · have hb : ((s[k].toNat : Int) != 48) = false := by simp [h48]
        have HO : Hid (Bm.signOk s[k] = true) := HI.out.2 (Or.inl h48)
        clear h48
        go_wp2
        go_round
        case rel => exact ⟨k + 1, by omega, by go_num, by rw [HS.out, HA.out, HO.out]; rfl⟩
        case measure => simp [intOf]; omega
      · have hb : ((s[k].toNat : Int) != 48) = true := by simp [h48]
        by_cases h49 : (s[k].toNat : Int) = 49
        · have hc : ((s[k].toNat : Int) != 49) = false := by simp [h49]
          have HO : Hid (Bm.signOk s[k] = true) := HI.out.2 (Or.inr h49)
          clear h48 h49
          go_wp2
          go_round
          case rel => exact ⟨k + 1, by omega, by go_num, by rw [HS.out, HA.out, HO.out]; rfl⟩
          case measure => simp [intOf]; omega
        · have hc : ((s[k].toNat : Int) != 49) = true := by simp [h49]
          have HO : Hid (Bm.okAll s.data.toList = false) := HF.out (by
            cases h : Bm.signOk s[k]
            · rfl
            · rcases HI.out.1 h with h | h
              · exact absurd h h48
              · exact absurd h h49)
          clear h48 h49
          go_wp2
          go_ret
          exact ⟨ret_bool HO.out.symm, rfl⟩
    · go_wp2
      go_ret
      exact ⟨ret_bool (by rw [← hall, Bm.take_all s k (by omega)]), rfl⟩
end Go.Proofs.Ytloafndmfeopgab
