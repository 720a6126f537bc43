/- What the document's own Bit and Of answer, over their text. -/
import Derived.Test.YthappkhiiopfgabDoorU2
import Derived.Test.YthappkhiiopfgabDoorU1
namespace Go.Proofs.YthappkhiiopfgabDoor
open Go.RowKit
set_option maxHeartbeats 400000 in
theorem refBit_any (b : Bool) (w : World) :
    Calls Tryd.prog 34 #[.bool b] w fun e w' => e = .returned (.string ⟨#[Bm.sign b]⟩) ∧ w' = w := by
  cases b
  · go_enter Tryd.func34, Tryd.ntmps34
    go_wp2
    go_ret
    exact ⟨rfl, rfl⟩
  · go_enter Tryd.func34, Tryd.ntmps34
    go_wp2
    go_ret
    exact ⟨rfl, rfl⟩
set_option maxHeartbeats 400000 in
theorem refOf_any (n : Nat) (width : Int) (w : World) (hn : n < 18446744073709551616) :
    Calls Tryd.prog 19 #[.int .u64 n, .int .i64 width] w fun e w' => e = .returned (.string ⟨(Bm.row (Bm.ofB n (Bm.clamp width))).toArray⟩) ∧ w' = w := by
  have hK := Bm.clamp_le width
  have hmm : max 0 (min width 64) = (Bm.clamp width : Int) := by unfold Bm.clamp; omega
  have HG : Hid (∀ k, k < Bm.clamp width → (Bm.row (Bm.ofB n (Bm.clamp width)))[k]? = some (Bm.sign (n.testBit (Bm.clamp width - 1 - k)))) := fun k h => Bm.ofB_get n _ k h
  have HL : Hid ((Bm.row (Bm.ofB n (Bm.clamp width))).length = Bm.clamp width) := by
    show _ = _
    rw [Bm.length_row, Bm.length_ofB]
  generalize Bm.row (Bm.ofB n (Bm.clamp width)) = l at *
  generalize Bm.clamp width = K at *
  go_enter Tryd.func19, Tryd.ntmps19
  go_wp2
  go_loop [5, 6] (fun t i => ∃ k : Nat, k ≤ K ∧ i = .int .i64 ((K : Int) - 1 - k) ∧ t = .string ⟨(l.take k).toArray⟩) (fun _ i => (intOf i + 1).toNat)
  case atStart => exact ⟨0, Nat.zero_le _, by go_num, rfl⟩
  case round =>
    obtain ⟨k, hk, rfl, rfl⟩ := hrel
    by_cases hlt : k < K
    · have HT := HG.out k hlt
      rw [← Bm.bit_dec n _ hn] at HT
      have HT' : Hid (_) := HT
      have hll : (l.take k).length ≤ 64 := by rw [List.length_take]; omega
      clear HT
      go_wp2_with (go_at_call 34; refine (refBit_any _ _).mono ?_; rintro e w' ⟨rfl, rfl⟩)
      go_round
      case rel => exact ⟨k + 1, by omega, by go_num, by rw [Bm.str_snoc _ _ _ HT'.out]⟩
      case measure => simp [intOf]; omega
    · go_wp2
      go_ret
      exact ⟨ret_str (Bm.take_row_all _ _ _ HL.out (by omega)), rfl⟩

end Go.Proofs.YthappkhiiopfgabDoor
/- What the document's own Turn answers, over its text. -/
namespace Go.Proofs.YthappkhiiopfgabDoor
open Go.RowKit
set_option maxHeartbeats 400000 in
theorem refTurn_any (s : ByteArray) (p : Int) (w : World) (hs : s.size ≤ 1048576) :
    Calls Tryd.prog 16 #[.string s, .int .i64 p] w fun e w' => e = .returned (.string ⟨(Bm.row (Bm.turn (Bm.read s.data.toList) p)).toArray⟩) ∧ w' = w := by
  go_enter Tryd.func16, Tryd.ntmps16
  go_wp2
  go_loop [5, 6] (fun n i => ∃ k : Nat, k ≤ s.size ∧ i = .int .i64 k ∧ n = .string ⟨((Bm.row (Bm.turn (Bm.read s.data.toList) p)).take k).toArray⟩) (fun _ i => s.size - (intOf i).toNat)
  case atStart => exact ⟨0, Nat.zero_le _, rfl, rfl⟩
  case round =>
    obtain ⟨k, hk, rfl, rfl⟩ := hrel
    by_cases hlt : k < s.size
    · have HT : Hid (_) := Bm.turn_get s p k hlt
      generalize Bm.row (Bm.turn (Bm.read s.data.toList) p) = l at *
      go_wp2_with (go_at_call 34; refine (refBit_any _ _).mono ?_; rintro e w' ⟨rfl, rfl⟩)
      go_round
      case rel => exact ⟨k + 1, by omega, by go_num, by rw [Bm.str_snoc _ _ _ HT.out]⟩
      case measure => simp [intOf]; omega
    · go_wp2
      go_ret
      exact ⟨ret_str (Bm.take_row_all _ _ _ (Bm.length_row_turn s p) (by omega)), rfl⟩
end Go.Proofs.YthappkhiiopfgabDoor
/- What the document's own CRC answers, over its text. -/
namespace Go.Proofs.YthappkhiiopfgabDoor
open Go.RowKit
set_option maxHeartbeats 400000 in
theorem refCrc_any (s : ByteArray) (w : World) (hs : s.size ≤ maxLen) :
    Calls Tryd.prog 21 #[.string s] w fun e w' => e = .returned (.int .u16 (Bm.crc (Bm.read s.data.toList))) ∧ w' = w := by
  unfold maxLen at hs
  go_enter Tryd.func21, Tryd.ntmps21
  go_wp2
  go_loop [3, 4] (fun n i => ∃ k : Nat, k ≤ s.size ∧ i = .int .i64 k ∧ n = .int .u16 (Bm.crc (Bm.read (s.data.toList.take k)))) (fun _ i => s.size - (intOf i).toNat)
  case atStart => exact ⟨0, Nat.zero_le _, rfl, rfl⟩
  case round =>
    obtain ⟨k, hk, rfl, rfl⟩ := hrel
    by_cases hlt : k < s.size
    · have HS : Hid (Bm.crc (Bm.read (s.data.toList.take (k + 1))) = Bm.crcStep (Bm.crc (Bm.read (s.data.toList.take k))) (Bm.isOne s[k])) := by
        rw [Bm.read_take_succ s k hlt]; exact Bm.crc_snoc _ _
      have hm := Bm.crc_lt (Bm.read (s.data.toList.take k))
      generalize Bm.crc (Bm.read (s.data.toList.take k)) = m at *
      go_wp2
      all_goals
        go_round
        case rel => exact ⟨k + 1, by omega, by go_num, by rw [HS.out]; first | rw [Bm.refcrc_yes _ _ hm ‹_›] | rw [Bm.refcrc_no _ _ hm ‹_›]⟩
        case measure => simp [intOf]; omega
    · go_wp2
      go_ret
      exact ⟨ret_int (by rw [Bm.take_all s k (by omega)]), rfl⟩
end Go.Proofs.YthappkhiiopfgabDoor
