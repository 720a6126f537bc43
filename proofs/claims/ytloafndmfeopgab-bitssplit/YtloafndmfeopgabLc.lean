/- The contracts of package bits at rows that were made of bits. -/
import Derived.Test.YtloafndmfeopgabKn
import Derived.Test.YtloafndmfeopgabBm3
import Derived.OpenShut
namespace Go.Proofs.Ytloafndmfeopgab
open Go.RowKit
theorem size_str (l : List UInt8) : (ByteArray.mk l.toArray).size = l.length := by show l.toArray.size = _; simp
theorem crc_row (bs : List Bool) (w : World) (h : bs.length ≤ 1048576) :
    Calls Try.prog 9 #[.string ⟨(Bm.row bs).toArray⟩] w fun e w' => e = .returned (.int .u16 (Bm.crc bs)) ∧ w' = w :=
  (crc_any _ w (by rw [size_str, Bm.length_row]; unfold maxLen; omega)).mono fun e w' ⟨he, hw⟩ => ⟨he.trans (ret_int (by simp [Bm.read_row])), hw⟩
theorem is_row (bs : List Bool) (w : World) (h : bs.length ≤ 1048576) :
    Calls Try.prog 8 #[.string ⟨(Bm.row bs).toArray⟩] w fun e w' => e = .returned (.bool true) ∧ w' = w :=
  (is_any _ w (by rw [size_str, Bm.length_row]; unfold maxLen; omega)).mono fun e w' ⟨he, hw⟩ => ⟨he.trans (ret_bool (by simp [Bm.okAll_row])), hw⟩
theorem num_row (bs : List Bool) (w : World) (h : bs.length ≤ 1048576) :
    Calls Try.prog 7 #[.string ⟨(Bm.row bs).toArray⟩] w fun e w' => e = .returned (.int .u64 (Bm.num bs)) ∧ w' = w :=
  (num_any _ w (by rw [size_str, Bm.length_row]; unfold maxLen; omega)).mono fun e w' ⟨he, hw⟩ => ⟨he.trans (ret_int (by simp [Bm.read_row])), hw⟩
theorem turn_row (bs : List Bool) (p : Int) (w : World) (h : bs.length ≤ 1048576) :
    Calls Try.prog 12 #[.string ⟨(Bm.row bs).toArray⟩, .int .i64 p] w fun e w' => e = .returned (.string ⟨(Bm.row (Bm.turn bs p)).toArray⟩) ∧ Below w.heap.size w w' :=
  (turn_any _ p w (by rw [size_str, Bm.length_row]; omega)).mono fun e w' ⟨he, hw⟩ => ⟨he.trans (by simp [Bm.read_row]), hw⟩
theorem and_row (cs bs : List Bool) (w : World) (h : cs.length ≤ 1048576) :
    Calls Try.prog 10 #[.string ⟨(Bm.row cs).toArray⟩, .string ⟨(Bm.row bs).toArray⟩] w fun e w' => e = .returned (.string ⟨(Bm.row (Bm.both cs bs)).toArray⟩) ∧ Below w.heap.size w w' :=
  (and_any _ _ w (by rw [size_str, Bm.length_row]; omega)).mono fun e w' ⟨he, hw⟩ => ⟨he.trans (by simp [Bm.read_row]), hw⟩
theorem bytes_row (bs : List Bool) (w : World) (h : bs.length ≤ 1048576) :
    Calls Try.prog 11 #[.string ⟨(Bm.row bs).toArray⟩] w fun e w' => e = .returned (.string ⟨(Bm.bytes bs).toArray⟩) ∧ Below w.heap.size w w' :=
  (bytes_any _ w (by rw [size_str, Bm.length_row]; omega)).mono fun e w' ⟨he, hw⟩ => ⟨he.trans (by simp [Bm.read_row]), hw⟩

theorem u64_nat {x : Int} (h : (Lit.int .u64 x).wf = true) : ∃ n : Nat, x = (n : Int) ∧ n < 18446744073709551616 := by
  obtain ⟨h1, h2⟩ := bounds_u64 h
  obtain ⟨n, rfl⟩ := Int.eq_ofNat_of_zero_le h1
  exact ⟨n, rfl, by omega⟩
theorem u8_nat {x : Int} (h : (Lit.int .u8 x).wf = true) : ∃ n : Nat, x = (n : Int) ∧ n < 256 := by
  obtain ⟨h1, h2⟩ := bounds_u8 h
  obtain ⟨n, rfl⟩ := Int.eq_ofNat_of_zero_le h1
  exact ⟨n, rfl, by omega⟩
theorem clamp_nat (k : Nat) (h : k ≤ 64) : Bm.clamp (k : Int) = k := by unfold Bm.clamp; omega
theorem of_nat (n k : Nat) (hk : k ≤ 64) (x : Int) (hx : x = (k : Int)) (w : World) :
    Calls Try.prog 6 #[.int .u64 n, .int .i64 x] w fun e w' => e = .returned (.string ⟨(Bm.row (Bm.ofB n k)).toArray⟩) ∧ Below w.heap.size w w' := by
  subst hx
  have h := of_any n (k : Int) w
  rw [clamp_nat k hk] at h
  exact h
theorem cat_row (x y : List Bool) : (ByteArray.mk (Bm.row x).toArray ++ ByteArray.mk (Bm.row y).toArray) = ByteArray.mk (Bm.row (x ++ y)).toArray := by
  apply ByteArray.ext
  rw [ByteArray.data_append]
  simp [Bm.row]
end Go.Proofs.Ytloafndmfeopgab
