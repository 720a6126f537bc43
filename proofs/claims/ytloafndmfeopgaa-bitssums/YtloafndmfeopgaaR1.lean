/- What the document's own Bit, CRC, Is, Num, Turn, And answer, over their text. -/
import Derived.Test.YtloafndmfeopgaaLc
import Derived.Test.YtloafndmfeopgaaBm5
namespace Go.Proofs.Ytloafndmfeopgaa
open Go.RowKit
set_option maxHeartbeats 400000 in
theorem refBit_any (b : Bool) (w : World) :
    Calls Try.prog 27 #[.bool b] w fun e w' => e = .returned (.string ⟨#[Bm.sign b]⟩) ∧ w' = w := by
  cases b
  · go_enter Try.func27, Try.ntmps27
    go_wp2
    go_ret
    exact ⟨rfl, rfl⟩
  · go_enter Try.func27, Try.ntmps27
    go_wp2
    go_ret
    exact ⟨rfl, rfl⟩
set_option maxHeartbeats 400000 in
theorem refCrc_any (s : ByteArray) (w : World) (hs : s.size ≤ maxLen) :
    Calls Try.prog 25 #[.string s] w fun e w' => e = .returned (.int .u16 (Bm.crc (Bm.read s.data.toList))) ∧ w' = w := by
  unfold maxLen at hs
  go_enter Try.func25, Try.ntmps25
  go_wp2
  go_loop [3, 4] (fun n i => ∃ k : Nat, k ≤ s.size ∧ i = .int .i64 k ∧ n = .int .u16 (Bm.crc (Bm.read (s.data.toList.take k)))) (fun _ i => s.size - (intOf i).toNat)
  case atStart => exact ⟨0, Nat.zero_le _, rfl, rfl⟩
  case round =>
    obtain ⟨k, hk, rfl, rfl⟩ := hrel
    by_cases hlt : k < s.size
    · have HS : Hid (Bm.crc (Bm.read (s.data.toList.take (k + 1))) = Bm.crcStep (Bm.crc (Bm.read (s.data.toList.take k))) (Bm.isOne s[k])) := by
        rw [Bm.read_take_succ s k hlt]; exact Bm.crc_snoc _ _
      have hm := Bm.crc_lt (Bm.read (s.data.toList.take k))
      generalize Bm.crc (Bm.read (s.data.toList.take k)) = m at *
      go_wp2
      all_goals
        go_round
        case rel => exact ⟨k + 1, by omega, by go_num, by rw [HS.out]; first | rw [Bm.refcrc_yes _ _ hm ‹_›] | rw [Bm.refcrc_no _ _ hm ‹_›]⟩
        case measure => simp [intOf]; omega
    · go_wp2
      go_ret
      exact ⟨ret_int (by rw [Bm.take_all s k (by omega)]), rfl⟩

set_option maxHeartbeats 400000 in
theorem refIs_any (s : ByteArray) (w : World) (hs : s.size ≤ maxLen) :
    Calls Try.prog 11 #[.string s] w fun e w' => e = .returned (.bool (Bm.okAll s.data.toList)) ∧ w' = w := by
  unfold maxLen at hs
  go_enter Try.func11, Try.ntmps11
  go_wp2
  go_loop [3] (fun i => ∃ k : Nat, k ≤ s.size ∧ i = .int .i64 k ∧ Bm.okAll (s.data.toList.take k) = true) (fun i => s.size - (intOf i).toNat)
  case atStart => exact ⟨0, Nat.zero_le _, rfl, rfl⟩
  case round =>
    obtain ⟨k, hk, rfl, hall⟩ := hrel
    by_cases hlt : k < s.size
    · have HS : Hid (Bm.okAll (s.data.toList.take (k + 1)) = (Bm.okAll (s.data.toList.take k) && Bm.signOk s[k])) := Bm.okAll_take_succ s k hlt
      have HA : Hid (Bm.okAll (s.data.toList.take k) = true) := hall
      have HI : Hid (Bm.signOk s[k] = true ↔ ((s[k].toNat : Int) = 48 ∨ (s[k].toNat : Int) = 49)) := Bm.signOk_iff _
      have HF : Hid (Bm.signOk s[k] = false → Bm.okAll s.data.toList = false) := Bm.okAll_false s k hlt
      clear hall
      by_cases h48 : (s[k].toNat : Int) = 48
      · have hb : ((s[k].toNat : Int) != 48) = false := by simp [h48]
        have HO : Hid (Bm.signOk s[k] = true) := HI.out.2 (Or.inl h48)
        clear h48
        go_wp2
        go_round
        case rel => exact ⟨k + 1, by omega, by go_num, by rw [HS.out, HA.out, HO.out]; rfl⟩
        case measure => simp [intOf]; omega
      · have hb : ((s[k].toNat : Int) != 48) = true := by simp [h48]
        by_cases h49 : (s[k].toNat : Int) = 49
        · have hc : ((s[k].toNat : Int) != 49) = false := by simp [h49]
          have HO : Hid (Bm.signOk s[k] = true) := HI.out.2 (Or.inr h49)
          clear h48 h49
          go_wp2
          go_round
          case rel => exact ⟨k + 1, by omega, by go_num, by rw [HS.out, HA.out, HO.out]; rfl⟩
          case measure => simp [intOf]; omega
        · have hc : ((s[k].toNat : Int) != 49) = true := by simp [h49]
          have HO : Hid (Bm.okAll s.data.toList = false) := HF.out (by
            cases h : Bm.signOk s[k]
            · rfl
            · rcases HI.out.1 h with h | h
              · exact absurd h h48
              · exact absurd h h49)
          clear h48 h49
          go_wp2
          go_ret
          exact ⟨ret_bool HO.out.symm, rfl⟩
    · go_wp2
      go_ret
      exact ⟨ret_bool (by rw [← hall, Bm.take_all s k (by omega)]), rfl⟩

set_option maxHeartbeats 400000 in
theorem refNum_any (s : ByteArray) (w : World) (hs : s.size ≤ maxLen) :
    Calls Try.prog 15 #[.string s] w fun e w' => e = .returned (.int .u64 (Bm.num (Bm.read s.data.toList))) ∧ w' = w := by
  unfold maxLen at hs
  go_enter Try.func15, Try.ntmps15
  go_wp2
  go_loop [3, 4] (fun n i => ∃ k : Nat, k ≤ s.size ∧ i = .int .i64 k ∧ n = .int .u64 (Bm.num (Bm.read (s.data.toList.take k)))) (fun _ i => s.size - (intOf i).toNat)
  case atStart => exact ⟨0, Nat.zero_le _, rfl, rfl⟩
  case round =>
    obtain ⟨k, hk, rfl, rfl⟩ := hrel
    by_cases hlt : k < s.size
    · have HS : Hid (Bm.num (Bm.read (s.data.toList.take (k + 1))) = Bm.numStep (Bm.num (Bm.read (s.data.toList.take k))) (Bm.isOne s[k])) := by
        rw [Bm.read_take_succ s k hlt]; exact Bm.num_snoc _ _
      have hm := Bm.num_lt (Bm.read (s.data.toList.take k))
      generalize Bm.num (Bm.read (s.data.toList.take k)) = m at *
      go_wp2
      all_goals
        go_round
        case rel => exact ⟨k + 1, by omega, by go_num, by rw [HS.out]; first | rw [Bm.num_yes _ _ hm ‹_›] | rw [Bm.num_no _ _ hm ‹_›]⟩
        case measure => simp [intOf]; omega
    · go_wp2
      go_ret
      exact ⟨ret_int (by rw [Bm.take_all s k (by omega)]), rfl⟩

theorem ret_str {a b : List UInt8} (h : a = b) : Ending.returned (.string ⟨a.toArray⟩) = .returned (.string ⟨b.toArray⟩) := by rw [h]
set_option maxHeartbeats 400000 in
theorem refTurn_any (s : ByteArray) (p : Int) (w : World) (hs : s.size ≤ 1048576) :
    Calls Try.prog 19 #[.string s, .int .i64 p] w fun e w' => e = .returned (.string ⟨(Bm.row (Bm.turn (Bm.read s.data.toList) p)).toArray⟩) ∧ w' = w := by
  go_enter Try.func19, Try.ntmps19
  go_wp2
  go_loop [5, 6] (fun n i => ∃ k : Nat, k ≤ s.size ∧ i = .int .i64 k ∧ n = .string ⟨((Bm.row (Bm.turn (Bm.read s.data.toList) p)).take k).toArray⟩) (fun _ i => s.size - (intOf i).toNat)
  case atStart => exact ⟨0, Nat.zero_le _, rfl, rfl⟩
  case round =>
    obtain ⟨k, hk, rfl, rfl⟩ := hrel
    by_cases hlt : k < s.size
    · have HT : Hid (_) := Bm.turn_get s p k hlt
      generalize Bm.row (Bm.turn (Bm.read s.data.toList) p) = l at *
      go_wp2_with (go_at_call 27; refine (refBit_any _ _).mono ?_; rintro e w' ⟨rfl, rfl⟩)
      go_round
      case rel => exact ⟨k + 1, by omega, by go_num, by rw [Bm.str_snoc _ _ _ HT.out]⟩
      case measure => simp [intOf]; omega
    · go_wp2
      go_ret
      exact ⟨ret_str (Bm.take_row_all _ _ _ (Bm.length_row_turn s p) (by omega)), rfl⟩

set_option maxHeartbeats 400000 in
theorem refAnd_any (s t : ByteArray) (w : World) (hs : s.size ≤ 1048576) :
    Calls Try.prog 17 #[.string s, .string t] w fun e w' => e = .returned (.string ⟨(Bm.row (Bm.both (Bm.read s.data.toList) (Bm.read t.data.toList))).toArray⟩) ∧ w' = w := by
  go_enter Try.func17, Try.ntmps17
  go_wp2
  go_loop [5, 6] (fun n i => ∃ k : Nat, k ≤ s.size ∧ k ≤ t.size ∧ i = .int .i64 k ∧ n = .string ⟨((Bm.row (Bm.both (Bm.read s.data.toList) (Bm.read t.data.toList))).take k).toArray⟩) (fun _ i => s.size - (intOf i).toNat)
  case atStart => exact ⟨0, Nat.zero_le _, Nat.zero_le _, rfl, rfl⟩
  case round =>
    obtain ⟨k, hk, hk2, rfl, rfl⟩ := hrel
    by_cases hlt : k < s.size
    · by_cases hlt2 : k < t.size
      · have HT := Bm.both_get s t k hlt hlt2
        rw [← Bm.isOne_dec, ← Bm.isOne_dec] at HT
        have HT' : Hid (_) := HT
        clear HT
        generalize Bm.row (Bm.both (Bm.read s.data.toList) (Bm.read t.data.toList)) = l at *
        cases h1 : ((s[k].toNat : Int) == 49)
        · rw [h1] at HT'
          go_wp2_with (go_at_call 27; refine (refBit_any _ _).mono ?_; rintro e w' ⟨rfl, rfl⟩)
          go_round
          case rel => exact ⟨k + 1, by omega, by omega, by go_num, by rw [← Bm.str_snoc _ _ _ HT'.out]; rfl⟩
          case measure => simp [intOf]; omega
        · rw [h1] at HT'
          go_wp2_with (go_at_call 27; refine (refBit_any _ _).mono ?_; rintro e w' ⟨rfl, rfl⟩)
          go_round
          case rel => exact ⟨k + 1, by omega, by omega, by go_num, by rw [← Bm.str_snoc _ _ _ HT'.out]; rfl⟩
          case measure => simp [intOf]; omega
      · go_wp2
        go_ret
        exact ⟨ret_str (Bm.take_row_all _ _ _ (Bm.length_row_both s t) (by omega)), rfl⟩
    · go_wp2
      go_ret
      exact ⟨ret_str (Bm.take_row_all _ _ _ (Bm.length_row_both s t) (by omega)), rfl⟩
end Go.Proofs.Ytloafndmfeopgaa
