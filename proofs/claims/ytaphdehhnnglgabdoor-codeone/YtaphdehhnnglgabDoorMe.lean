/- What the document's own Bit and Of answer, over their text. -/
import Derived.Test.YtaphdehhnnglgabDoorMb
import Derived.Test.YtaphdehhnnglgabDoorMa
namespace Go.Proofs.YtaphdehhnnglgabDoor
open Go.RowKit
set_option maxHeartbeats 400000 in
theorem refBit_any (b : Bool) (w : World) :
    Calls Tryd.prog 26 #[.bool b] w fun e w' => e = .returned (.string ⟨#[Bm.sign b]⟩) ∧ w' = w := by
  cases b
  · go_enter Tryd.func26, Tryd.ntmps26
    go_wp2
    go_ret
    exact ⟨rfl, rfl⟩
  · go_enter Tryd.func26, Tryd.ntmps26
    go_wp2
    go_ret
    exact ⟨rfl, rfl⟩
set_option maxHeartbeats 400000 in
theorem refOf_any (n : Nat) (width : Int) (w : World) (hn : n < 18446744073709551616) :
    Calls Tryd.prog 29 #[.int .u64 n, .int .i64 width] w fun e w' => e = .returned (.string ⟨(Bm.row (Bm.ofB n (Bm.clamp width))).toArray⟩) ∧ w' = w := by
  have hK := Bm.clamp_le width
  have hmm : max 0 (min width 64) = (Bm.clamp width : Int) := by unfold Bm.clamp; omega
  have HG : Hid (∀ k, k < Bm.clamp width → (Bm.row (Bm.ofB n (Bm.clamp width)))[k]? = some (Bm.sign (n.testBit (Bm.clamp width - 1 - k)))) := fun k h => Bm.ofB_get n _ k h
  have HL : Hid ((Bm.row (Bm.ofB n (Bm.clamp width))).length = Bm.clamp width) := by
    show _ = _
    rw [Bm.length_row, Bm.length_ofB]
  generalize Bm.row (Bm.ofB n (Bm.clamp width)) = l at *
  generalize Bm.clamp width = K at *
  go_enter Tryd.func29, Tryd.ntmps29
  go_wp2
  go_loop [5, 6] (fun t i => ∃ k : Nat, k ≤ K ∧ i = .int .i64 ((K : Int) - 1 - k) ∧ t = .string ⟨(l.take k).toArray⟩) (fun _ i => (intOf i + 1).toNat)
  case atStart => exact ⟨0, Nat.zero_le _, by go_num, rfl⟩
  case round =>
    obtain ⟨k, hk, rfl, rfl⟩ := hrel
    by_cases hlt : k < K
    · have HT := HG.out k hlt
      rw [← Bm.bit_dec n _ hn] at HT
      have HT' : Hid (_) := HT
      have hll : (l.take k).length ≤ 64 := by rw [List.length_take]; omega
      clear HT
      go_wp2_with (go_at_call 26; refine (refBit_any _ _).mono ?_; rintro e w' ⟨rfl, rfl⟩)
      go_round
      case rel => exact ⟨k + 1, by omega, by go_num, by rw [Bm.str_snoc _ _ _ HT'.out]⟩
      case measure => simp [intOf]; omega
    · go_wp2
      go_ret
      exact ⟨ret_str (Bm.take_row_all _ _ _ HL.out (by omega)), rfl⟩

end Go.Proofs.YtaphdehhnnglgabDoor
/- What the document's own Turn answers, over its text. -/
namespace Go.Proofs.YtaphdehhnnglgabDoor
open Go.RowKit
set_option maxHeartbeats 400000 in
theorem refTurn_any (s : ByteArray) (p : Int) (w : World) (hs : s.size ≤ 1048576) :
    Calls Tryd.prog 13 #[.string s, .int .i64 p] w fun e w' => e = .returned (.string ⟨(Bm.row (Bm.turn (Bm.read s.data.toList) p)).toArray⟩) ∧ w' = w := by
  go_enter Tryd.func13, Tryd.ntmps13
  go_wp2
  go_loop [5, 6] (fun n i => ∃ k : Nat, k ≤ s.size ∧ i = .int .i64 k ∧ n = .string ⟨((Bm.row (Bm.turn (Bm.read s.data.toList) p)).take k).toArray⟩) (fun _ i => s.size - (intOf i).toNat)
  case atStart => exact ⟨0, Nat.zero_le _, rfl, rfl⟩
  case round =>
    obtain ⟨k, hk, rfl, rfl⟩ := hrel
    by_cases hlt : k < s.size
    · have HT : Hid (_) := Bm.turn_get s p k hlt
      generalize Bm.row (Bm.turn (Bm.read s.data.toList) p) = l at *
      go_wp2_with (go_at_call 26; refine (refBit_any _ _).mono ?_; rintro e w' ⟨rfl, rfl⟩)
      go_round
      case rel => exact ⟨k + 1, by omega, by go_num, by rw [Bm.str_snoc _ _ _ HT.out]⟩
      case measure => simp [intOf]; omega
    · go_wp2
      go_ret
      exact ⟨ret_str (Bm.take_row_all _ _ _ (Bm.length_row_turn s p) (by omega)), rfl⟩
end Go.Proofs.YtaphdehhnnglgabDoor
