/- More plain mathematics of rows of bits: a bit turned, both rows, eight by eight; nothing of the program is in it. -/
import Derived.Test.YtfnbkehabadpmabDoorBm
import Derived.Lib.Strings
namespace Go.Proofs.YtfnbkehabadpmabDoor.Bm

theorem get_cells_row (bs : List Bool) (q : Nat) (h : q < bs.length) : (cellsOf (row bs)).toArray[q]? = some (Value.int .u8 ((sign bs[q]).toNat : Int)) := by
  simp [cellsOf, row, h]
theorem xor_sign (b : Bool) : bits .xor .u8 ((sign b).toNat : Int) 1 = ((sign (!b)).toNat : Int) := by
  cases b <;> decide
theorem set_turn (bs : List Bool) (q : Nat) (h : q < bs.length) : (cellsOf (row bs)).toArray.setIfInBounds q (Value.int .u8 (bits .xor .u8 ((sign bs[q]).toNat : Int) 1)) = (cellsOf (row (turn bs (q : Int)))).toArray := by
  rw [xor_sign, List.setIfInBounds_toArray]
  congr 1
  unfold turn
  rw [if_pos (by omega), Int.toNat_natCast]
  unfold cellsOf row
  rw [List.map_map, List.map_map]
  apply List.ext_getElem?
  intro i
  rw [List.getElem?_set, List.getElem?_map, List.getElem?_map, List.getElem?_modify]
  by_cases e : q = i
  · subst e
    simp [h]
  · simp [e]
theorem turn_low (bs : List Bool) (p : Int) (h : p < 0) : turn bs p = bs := by unfold turn; rw [if_neg (by omega)]
theorem turn_high (bs : List Bool) (p : Int) (h : (bs.length : Int) ≤ p) : turn bs p = bs := by
  unfold turn
  rw [if_pos (by omega), List.modify_eq_self (by omega)]

/-- the k-th byte of a row of bits -/
def byteAt (bs : List Bool) (k : Nat) : UInt8 := UInt8.ofNat (num ((bs.drop (8 * k)).take 8))
def bytesTo (bs : List Bool) (k : Nat) : List UInt8 := (List.range k).map (byteAt bs)
def bytes (bs : List Bool) : List UInt8 := bytesTo bs (bs.length / 8)
theorem length_bytesTo (bs : List Bool) (k : Nat) : (bytesTo bs k).length = k := by simp [bytesTo]
theorem bytesTo_succ (bs : List Bool) (k : Nat) : bytesTo bs (k + 1) = bytesTo bs k ++ [byteAt bs k] := by simp [bytesTo, List.range_succ]
theorem read_window (l : List UInt8) (k : Nat) : read ((l.drop (8 * k)).take 8) = ((read l).drop (8 * k)).take 8 := by
  unfold read
  rw [List.map_take, List.map_drop]
theorem byteAt_val (bs : List Bool) (k : Nat) : ((num ((bs.drop (8 * k)).take 8) : Nat) : Int) % 256 = ((byteAt bs k).toNat : Int) := by
  unfold byteAt
  simp

/-- the bits of bytes -/
def fromB (l : List UInt8) : List Bool := l.flatMap fun c => ofB c.toNat 8
theorem fromB_snoc (l : List UInt8) (c : UInt8) : fromB (l ++ [c]) = fromB l ++ ofB c.toNat 8 := by simp [fromB]
theorem length_fromB (l : List UInt8) : (fromB l).length = 8 * l.length := by
  induction l with
  | nil => rfl
  | cons c r ih =>
    have e : fromB (c :: r) = ofB c.toNat 8 ++ fromB r := by simp [fromB]
    rw [e, List.length_append, ih, length_ofB, List.length_cons]
    omega
theorem take_snoc (s : ByteArray) (k : Nat) (h : k < s.size) : s.data.toList.take (k + 1) = s.data.toList.take k ++ [s[k]] := by
  rw [List.take_succ_eq_append_getElem (by simpa using h)]; rfl
theorem length_from_take (s : ByteArray) (k : Nat) (h : k ≤ s.size) : (row (fromB (s.data.toList.take k))).length = 8 * k := by
  rw [length_row, length_fromB, List.length_take]
  have : s.data.toList.length = s.size := by simp
  omega
theorem splice_from (s : ByteArray) (k : Nat) (h : k < s.size) : splice (fillV (row (fromB (s.data.toList.take k))) (8 * s.size)) (8 * k) (octV s[k].toNat) = fillV (row (fromB (s.data.toList.take (k + 1)))) (8 * s.size) := by
  have hr : (cellsOf (row (fromB (s.data.toList.take k)))).length = 8 * k := by rw [length_cellsOf, length_from_take s k (by omega)]
  have hl : (octV s[k].toNat).length = 8 := by simp [octV, length_cellsOf, length_row, length_ofB]
  have e1 : (List.replicate (8 * s.size - 8 * k) (0 : UInt8)).drop 8 = List.replicate (8 * s.size - 8 * (k + 1)) 0 := by
    rw [List.drop_replicate]; congr 1
  unfold splice
  rw [hl]
  unfold fillV
  rw [length_from_take s k (by omega), length_from_take s (k + 1) (by omega)]
  rw [show cellsOf (row (fromB (s.data.toList.take k)) ++ List.replicate (8 * s.size - 8 * k) 0) = cellsOf (row (fromB (s.data.toList.take k))) ++ cellsOf (List.replicate (8 * s.size - 8 * k) 0) from List.map_append]
  rw [List.take_left' hr, List.drop_append, List.drop_of_length_le (by omega), hr, List.nil_append]
  have e2 : (cellsOf (List.replicate (8 * s.size - 8 * k) (0 : UInt8))).drop (8 * k + 8 - 8 * k) = cellsOf (List.replicate (8 * s.size - 8 * (k + 1)) 0) := by
    rw [show 8 * k + 8 - 8 * k = 8 by omega]
    unfold cellsOf
    rw [← List.map_drop, e1]
  rw [e2, take_snoc s k h, fromB_snoc]
  unfold octV
  simp only [cellsOf, row, List.map_append, List.append_assoc]
theorem fillV_from (s : ByteArray) (k : Nat) (h : s.size ≤ k) : fillV (row (fromB (s.data.toList.take k))) (8 * s.size) = cellsOf (row (fromB s.data.toList)) := by
  rw [take_all s k h, fillV_full]
  rw [length_row, length_fromB]
  have : s.data.toList.length = s.size := by simp
  omega

/-- both rows, bit by bit -/
def both (a b : List Bool) : List Bool := List.zipWith (· && ·) a b
theorem length_both (a b : List Bool) : (both a b).length = min a.length b.length := by simp [both]
theorem and_bits (c d : UInt8) : 48 + bits .and .u8 (bitI (c.toNat : Int)) (bitI (d.toNat : Int)) = ((sign (isOne c && isOne d)).toNat : Int) := by
  rw [bitI_byte, bitI_byte]
  cases isOne c <;> cases isOne d <;> decide
theorem and_wrap (c d : UInt8) : IntKind.u8.wrap (48 + bits .and .u8 (bitI (c.toNat : Int)) (bitI (d.toNat : Int))) = ((sign (isOne c && isOne d)).toNat : Int) := by
  rw [and_bits]
  cases (isOne c && isOne d) <;> decide
theorem both_take_succ (s t : ByteArray) (k : Nat) (h : k < s.size) (g : k < t.size) : row (both (read (s.data.toList.take (k + 1))) (read (t.data.toList.take (k + 1)))) = row (both (read (s.data.toList.take k)) (read (t.data.toList.take k))) ++ [sign (isOne s[k] && isOne t[k])] := by
  rw [read_take_succ s k h, read_take_succ t k g]
  unfold both row
  rw [List.zipWith_append (by simp [length_read]; omega)]
  simp
theorem length_both_take (s t : ByteArray) (k : Nat) (h : k ≤ s.size) (g : k ≤ t.size) : (row (both (read (s.data.toList.take k)) (read (t.data.toList.take k)))).length = k := by
  have h1 : s.data.toList.length = s.size := by simp
  have h2 : t.data.toList.length = t.size := by simp
  rw [length_row, length_both, length_read, length_read, List.length_take, List.length_take]
  omega
theorem both_take_all (s t : ByteArray) : both (read (s.data.toList.take (min s.size t.size))) (read (t.data.toList.take (min s.size t.size))) = both (read s.data.toList) (read t.data.toList) := by
  have h1 : s.data.toList.length = s.size := by simp
  have h2 : t.data.toList.length = t.size := by simp
  have e : min s.size t.size = min (read s.data.toList).length (read t.data.toList).length := by rw [length_read, length_read, h1, h2]
  unfold both
  unfold read at *
  rw [List.map_take, List.map_take, e]
  apply List.ext_getElem?
  intro i
  simp only [List.getElem?_zipWith, List.getElem?_take]
  by_cases hi : i < min (List.map isOne s.data.toList).length (List.map isOne t.data.toList).length
  · simp only [hi, if_true]
  · simp only [hi, if_false]
    have : (List.map isOne s.data.toList)[i]? = none ∨ (List.map isOne t.data.toList)[i]? = none := by
      rcases Nat.lt_or_ge i (List.map isOne s.data.toList).length with h | h
      · right; rw [List.getElem?_eq_none_iff]; omega
      · left; rw [List.getElem?_eq_none_iff]; omega
    rcases this with h | h
    · rw [h]
    · rw [h]; cases (List.map isOne s.data.toList)[i]? <;> rfl
end Go.Proofs.YtfnbkehabadpmabDoor.Bm
