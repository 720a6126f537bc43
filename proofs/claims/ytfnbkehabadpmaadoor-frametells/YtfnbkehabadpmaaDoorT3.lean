/- What the document's own hex, Text, Cmp of frames answer, over their text. -/
import Derived.Test.YtfnbkehabadpmaaDoorT2
namespace Go.Proofs.YtfnbkehabadpmaaDoor
open Go.RowKit
theorem hex_bits (n k : Nat) (hn : n < 18446744073709551616) : bits .and .u64 ((n : Int) / 2 ^ (4 * k)) 15 = ((n / 16 ^ k % 16 : Nat) : Int) := by
  have e1 : ((n : Int) / 2 ^ (4 * k)) = ((n / 2 ^ (4 * k) : Nat) : Int) := by simp
  have e2 : (2 : Nat) ^ (4 * k) = 16 ^ k := by rw [Nat.pow_mul]
  have e3 : n / 16 ^ k &&& 15 = n / 16 ^ k % 16 := Nat.and_two_pow_sub_one_eq_mod (n / 16 ^ k) 4
  have hle : n / 16 ^ k ≤ n := Nat.div_le_self _ _
  rw [e1, e2, ← e3]
  exact u64_and_nat _ 15 (by omega) (by decide)
theorem hex_digit : ∀ q, q < 16 → (ByteArray.mk #[48, 49, 50, 51, 52, 53, 54, 55, 56, 57, 65, 66, 67, 68, 69, 70]).extract q (q + 1) = ByteArray.mk #[Fm.hexd q] := by decide
set_option maxRecDepth 100000 in
set_option maxHeartbeats 1000000 in
theorem refHex_any (n K : Nat) (w : World) (hn : n < 18446744073709551616) (hK : K ≤ 8) :
    Calls Tryd.prog 32 #[.int .u64 n, .int .i64 K] w fun e w' => e = .returned (.string ⟨(Fm.hexs n K).toArray⟩) ∧ w' = w := by
  go_enter Tryd.func32, Tryd.ntmps32
  go_wp2
  go_loop [6, 7] (fun t i => ∃ k : Nat, k ≤ K ∧ i = .int .i64 k ∧ t = .string ⟨(Fm.hexs n k).toArray⟩) (fun _ i => K - (intOf i).toNat)
  case atStart => exact ⟨0, Nat.zero_le _, rfl, rfl⟩
  case round =>
    obtain ⟨k, hk, rfl, rfl⟩ := hrel
    by_cases hlt : k < K
    · have HB : bits .and .u64 ((n : Int) / 2 ^ (4 * k)) 15 = ((n / 16 ^ k % 16 : Nat) : Int) := hex_bits n k hn
      have hq : n / 16 ^ k % 16 < 16 := Nat.mod_lt _ (by decide)
      have HS : Hid (Fm.hexs n (k + 1) = Fm.hexd (n / 16 ^ k % 16) :: Fm.hexs n k) := rfl
      have hl := Fm.length_hexs n k
      generalize n / 16 ^ k % 16 = q at *
      have hd := hex_digit q hq
      go_wp2
      go_round
      case rel => exact ⟨k + 1, by omega, by go_num, by rw [HS.out]; first | rfl | (rw [hd]; rw [Bm.str_app]; rfl) | (rw [Bm.str_app]; rfl)⟩
      case measure => simp [intOf]; omega
    · go_wp2
      go_ret
      exact ⟨ret_str (by rw [show k = K by omega]), rfl⟩
end Go.Proofs.YtfnbkehabadpmaaDoor
