/- What the document's own Bit and Of answer, over their text. -/
import Derived.Test.YtoohmpkhljfpbaaDoorU2
import Derived.Test.YtoohmpkhljfpbaaDoorU1
namespace Go.Proofs.YtoohmpkhljfpbaaDoor
open Go.RowKit
set_option maxHeartbeats 400000 in
theorem refBit_any (b : Bool) (w : World) :
    Calls Tryd.prog 33 #[.bool b] w fun e w' => e = .returned (.string ⟨#[Bm.sign b]⟩) ∧ w' = w := by
  cases b
  · go_enter Tryd.func33, Tryd.ntmps33
    go_wp2
    go_ret
    exact ⟨rfl, rfl⟩
  · go_enter Tryd.func33, Tryd.ntmps33
    go_wp2
    go_ret
    exact ⟨rfl, rfl⟩
set_option maxHeartbeats 400000 in
theorem refOf_any (n : Nat) (width : Int) (w : World) (hn : n < 18446744073709551616) :
    Calls Tryd.prog 34 #[.int .u64 n, .int .i64 width] w fun e w' => e = .returned (.string ⟨(Bm.row (Bm.ofB n (Bm.clamp width))).toArray⟩) ∧ w' = w := by
  have hK := Bm.clamp_le width
  have hmm : max 0 (min width 64) = (Bm.clamp width : Int) := by unfold Bm.clamp; omega
  have HG : Hid (∀ k, k < Bm.clamp width → (Bm.row (Bm.ofB n (Bm.clamp width)))[k]? = some (Bm.sign (n.testBit (Bm.clamp width - 1 - k)))) := fun k h => Bm.ofB_get n _ k h
  have HL : Hid ((Bm.row (Bm.ofB n (Bm.clamp width))).length = Bm.clamp width) := by
    show _ = _
    rw [Bm.length_row, Bm.length_ofB]
  generalize Bm.row (Bm.ofB n (Bm.clamp width)) = l at *
  generalize Bm.clamp width = K at *
  go_enter Tryd.func34, Tryd.ntmps34
  go_wp2
  go_loop [5, 6] (fun t i => ∃ k : Nat, k ≤ K ∧ i = .int .i64 ((K : Int) - 1 - k) ∧ t = .string ⟨(l.take k).toArray⟩) (fun _ i => (intOf i + 1).toNat)
  case atStart => exact ⟨0, Nat.zero_le _, by go_num, rfl⟩
  case round =>
    obtain ⟨k, hk, rfl, rfl⟩ := hrel
    by_cases hlt : k < K
    · have HT := HG.out k hlt
      rw [← Bm.bit_dec n _ hn] at HT
      have HT' : Hid (_) := HT
      have hll : (l.take k).length ≤ 64 := by rw [List.length_take]; omega
      clear HT
      go_wp2_with (go_at_call 33; refine (refBit_any _ _).mono ?_; rintro e w' ⟨rfl, rfl⟩)
      go_round
      case rel => exact ⟨k + 1, by omega, by go_num, by rw [Bm.str_snoc _ _ _ HT'.out]⟩
      case measure => simp [intOf]; omega
    · go_wp2
      go_ret
      exact ⟨ret_str (Bm.take_row_all _ _ _ HL.out (by omega)), rfl⟩

end Go.Proofs.YtoohmpkhljfpbaaDoor
/- What the document's own FromBytes answers, over its text. -/
namespace Go.Proofs.YtoohmpkhljfpbaaDoor
open Go.RowKit
theorem refOf_8 (n : Nat) (w : World) (hn : n < 256) :
    Calls Tryd.prog 34 #[.int .u64 n, .int .i64 8] w fun e w' => e = .returned (.string ⟨(Bm.row (Bm.ofB n 8)).toArray⟩) ∧ w' = w := refOf_any n 8 w (by omega)
theorem str_app (x y : List UInt8) : (ByteArray.mk x.toArray ++ ByteArray.mk y.toArray) = ByteArray.mk (x ++ y).toArray := by
  apply ByteArray.ext
  rw [ByteArray.data_append]
  simp
end Go.Proofs.YtoohmpkhljfpbaaDoor
