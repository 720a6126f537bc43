/- Plain mathematics of frames: cuts of a row, numbers below a power of two. -/
import Derived.Test.YtfnbkehabadpmabDoorFm3
import Derived.Test.YtfnbkehabadpmabDoorBm5
import Derived.Lib.SlBytesRow
namespace Go.Proofs.YtfnbkehabadpmabDoor.Fm
open Go.Proofs.YtfnbkehabadpmabDoor.Bm
theorem num_val_from (bs : List Bool) : ∀ a, bs.foldl numStep (a % 18446744073709551616) = (bs.foldl (fun a b => 2 * a + bv b) a) % 18446744073709551616 := by
  induction bs with
  | nil => intro a; rfl
  | cons b t ih =>
    intro a
    rw [List.foldl_cons, List.foldl_cons, ← ih]
    congr 1
    unfold numStep
    omega
theorem num_val (bs : List Bool) : num bs = val bs % 18446744073709551616 := num_val_from bs 0
theorem num_lt_pow (bs : List Bool) : num bs < 2 ^ bs.length := by
  rw [num_val]
  exact Nat.lt_of_le_of_lt (Nat.mod_le _ _) (val_lt bs)
theorem read_extract (s : ByteArray) (i j : Nat) : read (s.extract i j).data.toList = cut (read s.data.toList) i (j - i) := by
  rw [Lib.extract_data]
  unfold Bm.read cut
  rw [List.map_take, List.map_drop]
theorem length_cut (bs : List Bool) (i l : Nat) : (cut bs i l).length ≤ l := by unfold cut; rw [List.length_take]; omega
theorem num_cut (bs : List Bool) (i l : Nat) : num (cut bs i l) < 2 ^ l :=
  Nat.lt_of_lt_of_le (num_lt_pow _) (Nat.pow_le_pow_right (by decide) (length_cut bs i l))
theorem getD_read (s : ByteArray) (k : Nat) (h : k < s.size) : (read s.data.toList).getD k false = isOne s[k] := by
  have h2 : k < (read s.data.toList).length := by rw [length_read]; simpa using h
  rw [List.getD_eq_getElem?_getD, List.getElem?_eq_getElem h2]
  show (List.map isOne s.data.toList)[k]'(by simpa [Bm.read] using h2) = isOne s[k]
  rw [List.getElem_map]
  rfl
theorem one_dec (s : ByteArray) (k : Nat) (h : k < s.size) : ((s[k].toNat : Int) == 49) = (read s.data.toList).getD k false := by
  rw [isOne_dec, getD_read s k h]
end Go.Proofs.YtfnbkehabadpmabDoor.Fm
