/- The law's own 'known': the calls of package bits at its constants answer as they must. -/
import Derived.Test.YtloafndmfeopgabW3
import Derived.Test.YtloafndmfeopgabW4
import Derived.Test.YtloafndmfeopgabW5
import Derived.Test.YtloafndmfeopgabW6
namespace Go.Proofs.Ytloafndmfeopgab
open Go.RowKit
theorem k_crc (w : World) : Calls Try.prog 9 #[.string ⟨#[49]⟩] w fun e w' => e = .returned (.int .u16 17817) ∧ w' = w :=
  (crc_any _ w (by decide)).mono fun e w' ⟨he, hw⟩ => ⟨he.trans (ret_int (by decide +kernel)), hw⟩
theorem k_of (w : World) : Calls Try.prog 6 #[.int .u64 5, .int .i64 4] w fun e w' => e = .returned (.string ⟨#[48, 49, 48, 49]⟩) ∧ Below w.heap.size w w' :=
  (of_any 5 4 w).mono fun e w' ⟨he, hw⟩ => ⟨he.trans (by rw [show Bm.row (Bm.ofB 5 (Bm.clamp 4)) = [48, 49, 48, 49] from by decide +kernel]), hw⟩
theorem k_num (w : World) : Calls Try.prog 7 #[.string ⟨#[48, 49, 48, 49]⟩] w fun e w' => e = .returned (.int .u64 5) ∧ w' = w :=
  (num_any _ w (by decide)).mono fun e w' ⟨he, hw⟩ => ⟨he.trans (ret_int (by decide +kernel)), hw⟩
theorem k_and (w : World) : Calls Try.prog 10 #[.string ⟨#[49, 49, 48]⟩, .string ⟨#[49, 48]⟩] w fun e w' => e = .returned (.string ⟨#[49, 48]⟩) ∧ Below w.heap.size w w' :=
  (and_any _ _ w (by decide)).mono fun e w' ⟨he, hw⟩ => ⟨he.trans (by rw [show Bm.row _ = [49, 48] from by decide +kernel]), hw⟩
theorem k_turn (w : World) : Calls Try.prog 12 #[.string ⟨#[48, 48]⟩, .int .i64 1] w fun e w' => e = .returned (.string ⟨#[48, 49]⟩) ∧ Below w.heap.size w w' :=
  (turn_any _ _ w (by decide)).mono fun e w' ⟨he, hw⟩ => ⟨he.trans (by rw [show Bm.row _ = [48, 49] from by decide +kernel]), hw⟩
theorem k_from (w : World) : Calls Try.prog 13 #[.string ⟨#[15]⟩] w fun e w' => e = .returned (.string ⟨#[48, 48, 48, 48, 49, 49, 49, 49]⟩) ∧ Below w.heap.size w w' :=
  (from_any _ w (by decide)).mono fun e w' ⟨he, hw⟩ => ⟨he.trans (by rw [show Bm.row _ = [48, 48, 48, 48, 49, 49, 49, 49] from by decide +kernel]), hw⟩
theorem k_bytes (w : World) : Calls Try.prog 11 #[.string ⟨#[48, 48, 48, 48, 49, 49, 49, 49, 49]⟩] w fun e w' => e = .returned (.string ⟨#[15]⟩) ∧ Below w.heap.size w w' :=
  (bytes_any _ w (by decide)).mono fun e w' ⟨he, hw⟩ => ⟨he.trans (by rw [show Bm.bytes _ = [15] from by decide +kernel]), hw⟩
theorem k_is (w : World) : Calls Try.prog 8 #[.string ⟨#[48, 49]⟩] w fun e w' => e = .returned (.bool true) ∧ w' = w :=
  (is_any _ w (by decide)).mono fun e w' ⟨he, hw⟩ => ⟨he.trans (ret_bool (by decide +kernel)), hw⟩
theorem k_isnot (w : World) : Calls Try.prog 8 #[.string ⟨#[50]⟩] w fun e w' => e = .returned (.bool false) ∧ w' = w :=
  (is_any _ w (by decide)).mono fun e w' ⟨he, hw⟩ => ⟨he.trans (ret_bool (by decide +kernel)), hw⟩

theorem below_join {a b c : World} (h : Below a.heap.size a b) (k : Below b.heap.size b c) : Below a.heap.size a c := h.trans (k.mono h.size)

set_option maxRecDepth 100000 in
set_option maxHeartbeats 1000000 in
theorem known_any (w : World) : Calls Try.prog 5 #[] w fun e w' => e = .returned (.bool true) ∧ Below w.heap.size w w' := by
  go_enter Try.func5, Try.ntmps5
  go_wp2_with fail
  refine (k_crc _).mono ?_; rintro e w1 ⟨rfl, rfl⟩
  go_wp2_with fail
  refine (k_of _).mono ?_; rintro e w2 ⟨rfl, hb2⟩
  go_wp2_with fail
  refine (k_num _).mono ?_; rintro e w3 ⟨rfl, rfl⟩
  go_wp2_with fail
  refine (k_and _).mono ?_; rintro e w4 ⟨rfl, hb4⟩
  go_wp2_with fail
  refine (k_turn _).mono ?_; rintro e w5 ⟨rfl, hb5⟩
  go_wp2_with fail
  refine (k_from _).mono ?_; rintro e w6 ⟨rfl, hb6⟩
  go_wp2_with fail
  refine (k_bytes _).mono ?_; rintro e w7 ⟨rfl, hb7⟩
  go_wp2_with fail
  refine (k_is _).mono ?_; rintro e w8 ⟨rfl, rfl⟩
  go_wp2_with fail
  refine (k_isnot _).mono ?_; rintro e w9 ⟨rfl, rfl⟩
  go_wp2_with fail
  go_ret
  exact ⟨rfl, below_join (below_join (below_join (below_join hb2 hb4) hb5) hb6) hb7⟩
end Go.Proofs.Ytloafndmfeopgab
