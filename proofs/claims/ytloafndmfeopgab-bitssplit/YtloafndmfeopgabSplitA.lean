/- BitsSplit at the cuts below 64: parts of the proof. -/
import Derived.Test.YtloafndmfeopgabRows
import Derived.Test.YtloafndmfeopgabLc
import Derived.Test.YtloafndmfeopgabBm5
import Derived.WalkKit
import Derived.Deep.RegionWith
import Derived.ProofKit
import Derived.OpenShut
import Derived.ShutString
namespace Go.Proofs.Ytloafndmfeopgab.bitsSplit
open Go.ChangeShapes Go.WideShapes Go.ChangeAt Go.RowKit
open Go.ChangeMaps (open_string shut_string)
set_option linter.unusedVariables false
theorem of_m3 (n : Nat) (w : World) :
    Calls Try.prog 6 #[.int .u64 n, .int .i64 (-3)] w fun e w' => e = .returned (.string ⟨#[]⟩) ∧ Below w.heap.size w w' :=
  (of_any n (-3) w).mono fun e w' ⟨he, hw⟩ => ⟨he.trans (by rw [show Bm.clamp (-3) = 0 from by decide]; rfl), hw⟩
theorem of_99 (n : Nat) (w : World) :
    Calls Try.prog 6 #[.int .u64 n, .int .i64 99] w fun e w' => e = .returned (.string ⟨(Bm.row (Bm.ofB n 64)).toArray⟩) ∧ Below w.heap.size w w' :=
  (of_any n 99 w).mono fun e w' ⟨he, hw⟩ => ⟨he.trans (by rw [show Bm.clamp 99 = 64 from by decide]), hw⟩
theorem num_low (n k : Nat) (hk : k ≤ 64) (w : World) :
    Calls Try.prog 7 #[.string ⟨(Bm.row (Bm.ofB n k)).toArray⟩] w fun e w' => e = .returned (.int .u64 ((n : Int) % 2 ^ k)) ∧ w' = w :=
  (num_row _ w (by rw [Bm.length_ofB]; omega)).mono fun e w' ⟨he, hw⟩ => ⟨he.trans (ret_int (by rw [Bm.num_ofB k hk]; simp)), hw⟩
theorem ofB_high (n k : Nat) (hk : k ≤ 64) : (Bm.ofB n 64).take (64 - k) = Bm.ofB (n / 2 ^ k) (64 - k) := by
  apply List.ext_getElem
  · simp [Bm.length_ofB]
  · intro i h1 h2
    have hi : i < 64 - k := by simpa [Bm.length_ofB] using h2
    simp only [Bm.ofB, List.getElem_map, List.getElem_range, List.getElem_take]
    rw [Nat.testBit_div_two_pow]
    congr 1
    omega
theorem div_lt (n k : Nat) (hn : n < 18446744073709551616) (hk : k ≤ 64) : n / 2 ^ k < 2 ^ (64 - k) := by
  rw [Nat.div_lt_iff_lt_mul (Nat.two_pow_pos _), ← Nat.pow_add, show 64 - k + k = 64 by omega]
  have h3 : (2 : Nat) ^ 64 = 18446744073709551616 := by decide
  omega
theorem num_high (n k : Nat) (hn : n < 18446744073709551616) (hk : k ≤ 64) (w : World) :
    Calls Try.prog 7 #[.string ⟨(Bm.row (Bm.ofB (n / 2 ^ k) (64 - k))).toArray⟩] w fun e w' => e = .returned (.int .u64 ((n : Int) / 2 ^ k)) ∧ w' = w :=
  (num_row _ w (by rw [Bm.length_ofB]; omega)).mono fun e w' ⟨he, hw⟩ => ⟨he.trans (ret_int (by rw [Bm.num_ofB (64 - k) (by omega), Nat.mod_eq_of_lt (div_lt n k hn hk)]; simp)), hw⟩
theorem slice_low (n k : Nat) (hk : k ≤ 64) (x : Int) (hx : x = 64 - (k : Int)) (W : World) :
    (Instr.slice 9 (.string ⟨(Bm.row (Bm.ofB n 64)).toArray⟩) (some (.int .i64 x)) none none).run Try.prog W = .ok (.string ⟨(Bm.row (Bm.ofB n k)).toArray⟩) W := by
  have hsz : (ByteArray.mk (Bm.row (Bm.ofB n 64)).toArray).size = 64 := by rw [size_str, Bm.length_row, Bm.length_ofB]
  rw [run_slice_string_l (P := Try.prog) W 9 _ Try.underlying9 .i64 x (by omega) (by rw [hsz]; omega), hsz]
  congr 2
  apply ByteArray.ext
  apply Array.toList_inj.1
  rw [Lib.extract_data, show x.toNat = 64 - k by omega]
  show List.take (64 - (64 - k)) (List.drop (64 - k) (Bm.row (Bm.ofB n 64))) = Bm.row (Bm.ofB n k)
  rw [Bm.row_drop n k hk, List.take_of_length_le (by rw [Bm.length_row, Bm.length_ofB]; omega)]
theorem slice_high (n k : Nat) (hk : k ≤ 64) (x : Int) (hx : x = 64 - (k : Int)) (W : World) :
    (Instr.slice 9 (.string ⟨(Bm.row (Bm.ofB n 64)).toArray⟩) none (some (.int .i64 x)) none).run Try.prog W = .ok (.string ⟨(Bm.row (Bm.ofB (n / 2 ^ k) (64 - k))).toArray⟩) W := by
  have hsz : (ByteArray.mk (Bm.row (Bm.ofB n 64)).toArray).size = 64 := by rw [size_str, Bm.length_row, Bm.length_ofB]
  rw [run_slice_string_h (P := Try.prog) W 9 _ Try.underlying9 .i64 x (by omega) (by rw [hsz]; omega)]
  congr 2
  apply ByteArray.ext
  apply Array.toList_inj.1
  rw [Lib.extract_data, show x.toNat = 64 - k by omega]
  show List.take (64 - k - 0) (List.drop 0 (Bm.row (Bm.ofB n 64))) = Bm.row (Bm.ofB (n / 2 ^ k) (64 - k))
  rw [List.drop_zero, Nat.sub_zero, ← ofB_high n k hk]
  unfold Bm.row
  rw [List.map_take]
theorem low_mask (n k : Nat) (hn : n < 18446744073709551616) (hk : k < 64) : bits .and .u64 (n : Int) (IntKind.u64.wrap (IntKind.u64.wrap (2 ^ k) - 1)) = ((n % 2 ^ k : Nat) : Int) := by
  have hp : 2 ^ k < 2 ^ 64 := Nat.pow_lt_pow_right (by decide) hk
  have hp0 : 0 < 2 ^ k := Nat.two_pow_pos k
  have h3 : (2 : Nat) ^ 64 = 18446744073709551616 := by decide
  have e : ((2 : Int) ^ k) = ((2 ^ k : Nat) : Int) := by simp
  have e2 : n &&& (2 ^ k - 1) = n % 2 ^ k := Nat.and_two_pow_sub_one_eq_mod n k
  rw [IntKind.wrap_u64, IntKind.wrap_u64, e, ← e2]
  generalize 2 ^ k = z at *
  rw [show (((z : Int) % 18446744073709551616 - 1) % 18446744073709551616) = ((z - 1 : Nat) : Int) from by omega]
  exact u64_and_nat _ _ hn (by omega)

theorem shift_two (n k : Nat) (hk : 0 < k) : ((n : Int) / 2 ^ k == (n : Int) / 2 / 2 ^ (k - 1)) = true := by
  rw [beq_iff_eq]
  have e1 : ((n : Int) / 2 ^ k) = ((n / 2 ^ k : Nat) : Int) := by simp
  have e2 : ((n : Int) / 2 / 2 ^ (k - 1)) = ((n / 2 / 2 ^ (k - 1) : Nat) : Int) := by simp
  rw [e1, e2, Nat.div_div_eq_div_mul, show k = (k - 1) + 1 by omega, Nat.pow_succ, Nat.mul_comm (2 ^ (k - 1)) 2]
  simp
theorem num_full (n k : Nat) (hn : n < 18446744073709551616) (hk : k ≤ 64) (hk2 : 64 ≤ k) (w : World) :
    Calls Try.prog 7 #[.string ⟨(Bm.row (Bm.ofB n k)).toArray⟩] w fun e w' => e = .returned (.int .u64 (n : Int)) ∧ w' = w := by
  obtain rfl : k = 64 := by omega
  exact (num_row _ w (by rw [Bm.length_ofB]; omega)).mono fun e w' ⟨he, hw⟩ => ⟨he.trans (ret_int (by rw [Bm.num_ofB_64 n hn])), hw⟩

set_option maxRecDepth 100000 in
set_option maxHeartbeats 1000000 in
theorem mid (n k : Nat) (hn : n < 18446744073709551616) (hk0 : 0 < k) (hk : k < 64) (c : Nat) (hc : c < 256) (hck : c % 65 = k) (w : World) :
    Calls Try.prog 3 #[.int .u64 n, .int .u8 c] w fun e w' => e = .returned (.bool true) ∧ Below w.heap.size w w' := by
  have hx : (c : Int) % 65 = (k : Int) := by omega
  clear hck
  have hlow := low_mask n k hn hk
  have hk00 : ((k : Int) == 0) = false := by simp; omega
  have hsh := shift_two n k hk0
  go_enter Try.func3, Try.ntmps3
  go_wp2_with fail
  refine (known_any _).mono ?_; rintro e w1 ⟨rfl, hb1⟩
  go_wp2_with fail
  refine (of_nat n 64 (by omega) _ (by omega) _).mono ?_; rintro e w2 ⟨rfl, hb2⟩
  go_wp2_with fail
  clear hlow hx hc
  have hs1 : ∀ W : World, (Instr.slice 9 (.string ⟨(Bm.row (Bm.ofB n 64)).toArray⟩) (some (.int .i64 (64 - (k : Int)))) none none).run Try.prog W = .ok (.string ⟨(Bm.row (Bm.ofB n k)).toArray⟩) W :=
    fun W => slice_low n k (by omega) _ rfl W
  have hs2 : ∀ W : World, (Instr.slice 9 (.string ⟨(Bm.row (Bm.ofB n 64)).toArray⟩) none (some (.int .i64 (64 - (k : Int)))) none).run Try.prog W = .ok (.string ⟨(Bm.row (Bm.ofB (n / 2 ^ k) (64 - k))).toArray⟩) W :=
    fun W => slice_high n k (by omega) _ rfl W
  refine Lw.wp_region_quiet_below (by kernel_rfl) (by kernel_rfl) ?_
  repeat (first
    | go_big_quiet_skip
    | (go_big_quiet_want; go_big_quiet_op; go_big_quiet_on)
    | (go_big_quiet_want; go_big_quiet_op; apply Exists.intro; refine ⟨fun _ hb' => ?_, ?_⟩; (first
      | (go_at_call_of 6 (Value.int IntKind.i64 99); exact Lw.calls_below hb' (of_99 n _))
      | (go_at_call_of 6 (Value.int IntKind.i64 (k : Int)); exact Lw.calls_below hb' (of_nat n k (by omega) _ rfl _))
      | (go_at_call 6; exact Lw.calls_below hb' (of_m3 n _))
      | (go_at_call_of 7 (Value.string ⟨(Bm.row (Bm.ofB n k)).toArray⟩); exact Lw.calls_same hb' (num_low n k (by omega) _))
      | (go_at_call 7; exact Lw.calls_same hb' (num_high n k hn (by omega) _))
      | exact Lw.val_rfl _); go_big_quiet_on))
  refine wpQuiet_nil ?_
  intro w3 hb3
  go_wp2
  go_ret
  exact ⟨rfl, below_join (below_join hb1 hb2) hb3⟩

set_option maxRecDepth 100000 in
set_option maxHeartbeats 1000000 in
theorem bot (n k : Nat) (hn : n < 18446744073709551616) (hk0 : k ≤ 0) (c : Nat) (hc : c < 256) (hck : c % 65 = k) (w : World) :
    Calls Try.prog 3 #[.int .u64 n, .int .u8 c] w fun e w' => e = .returned (.bool true) ∧ Below w.heap.size w w' := by
  have hx : (c : Int) % 65 = (k : Int) := by omega
  clear hck
  have hlow := low_mask n k hn (by omega)
  have hk00 : ((k : Int) == 0) = true := by simp; omega
  go_enter Try.func3, Try.ntmps3
  go_wp2_with fail
  refine (known_any _).mono ?_; rintro e w1 ⟨rfl, hb1⟩
  go_wp2_with fail
  refine (of_nat n 64 (by omega) _ (by omega) _).mono ?_; rintro e w2 ⟨rfl, hb2⟩
  go_wp2_with fail
  clear hlow hx hc
  have hs1 : ∀ W : World, (Instr.slice 9 (.string ⟨(Bm.row (Bm.ofB n 64)).toArray⟩) (some (.int .i64 (64 - (k : Int)))) none none).run Try.prog W = .ok (.string ⟨(Bm.row (Bm.ofB n k)).toArray⟩) W :=
    fun W => slice_low n k (by omega) _ rfl W
  have hs2 : ∀ W : World, (Instr.slice 9 (.string ⟨(Bm.row (Bm.ofB n 64)).toArray⟩) none (some (.int .i64 (64 - (k : Int)))) none).run Try.prog W = .ok (.string ⟨(Bm.row (Bm.ofB (n / 2 ^ k) (64 - k))).toArray⟩) W :=
    fun W => slice_high n k (by omega) _ rfl W
  refine Lw.wp_region_quiet_below (by kernel_rfl) (by kernel_rfl) ?_
  repeat (first
    | go_big_quiet_skip
    | (go_big_quiet_want; go_big_quiet_op; go_big_quiet_on)
    | (go_big_quiet_want; go_big_quiet_op; apply Exists.intro; refine ⟨fun _ hb' => ?_, ?_⟩; (first
      | (go_at_call_of 6 (Value.int IntKind.i64 99); exact Lw.calls_below hb' (of_99 n _))
      | (go_at_call_of 6 (Value.int IntKind.i64 (k : Int)); exact Lw.calls_below hb' (of_nat n k (by omega) _ rfl _))
      | (go_at_call 6; exact Lw.calls_below hb' (of_m3 n _))
      | (go_at_call_of 7 (Value.string ⟨(Bm.row (Bm.ofB n k)).toArray⟩); exact Lw.calls_same hb' (num_low n k (by omega) _))
      | (go_at_call 7; exact Lw.calls_same hb' (num_high n k hn (by omega) _))
      | exact Lw.val_rfl _); go_big_quiet_on))
  refine wpQuiet_nil ?_
  intro w3 hb3
  go_wp2
  go_ret
  exact ⟨rfl, below_join (below_join hb1 hb2) hb3⟩

end Go.Proofs.Ytloafndmfeopgab.bitsSplit
