/- Plain mathematics of rows of bits: numbers and bits, the 15 bit sum, chunks of eight; nothing of the program is in it. -/
import Derived.Laws.BitsAllLaws
import Derived.Laws.CopyOwn
import Derived.Lib.Strings
namespace Go.Proofs.YtnbfnipdiffphaaDoor.Bm

def isOne (c : UInt8) : Bool := c == 49
def sign (b : Bool) : UInt8 := if b then 49 else 48
def read (l : List UInt8) : List Bool := l.map isOne
def row (bs : List Bool) : List UInt8 := bs.map sign
/-- what 'bit' answers for a byte, over Int -/
def bitI (c : Int) : Int := if c = 49 then 1 else 0
def bv (b : Bool) : Nat := if b then 1 else 0

theorem bitI_ge (c : Int) : 0 ≤ bitI c := by unfold bitI; split <;> omega
theorem bitI_le (c : Int) : bitI c ≤ 1 := by unfold bitI; split <;> omega
theorem bitI_byte (c : UInt8) : bitI (c.toNat : Int) = (bv (isOne c) : Int) := by
  unfold bitI bv isOne
  by_cases h : c = 49
  · subst h; rfl
  · have h2 : ¬ ((c.toNat : Int) = 49) := by
      intro e
      apply h
      apply UInt8.toNat_inj.1
      have : c.toNat = 49 := by omega
      rw [this]; rfl
    rw [if_neg h2]
    simp [h]
theorem bv_le (b : Bool) : bv b ≤ 1 := by cases b <;> decide

def numStep (n : Nat) (b : Bool) : Nat := (2 * n + bv b) % 18446744073709551616
def num (bs : List Bool) : Nat := bs.foldl numStep 0
theorem num_lt (bs : List Bool) : num bs < 18446744073709551616 := by
  unfold num
  rcases List.eq_nil_or_concat bs with rfl | ⟨l, b, rfl⟩
  · decide
  · rw [List.concat_eq_append, List.foldl_append]; exact Nat.mod_lt _ (by decide)
theorem num_snoc (bs : List Bool) (b : Bool) : num (bs ++ [b]) = numStep (num bs) b := by
  unfold num; rw [List.foldl_append]; rfl

theorem read_take_succ (s : ByteArray) (k : Nat) (h : k < s.size) : read (s.data.toList.take (k + 1)) = read (s.data.toList.take k) ++ [isOne s[k]] := by
  rw [List.take_succ_eq_append_getElem (by simpa using h)]
  simp only [read, List.map_append, List.map_cons, List.map_nil]
  rfl
theorem take_all (s : ByteArray) (k : Nat) (h : s.size ≤ k) : s.data.toList.take k = s.data.toList := List.take_of_length_le (by simpa using h)

/-- the walk's form of n shifted up by one -/
theorem or_step (n : Nat) (b : Bool) (_h : n < 18446744073709551616) :
    bits .or .u64 (IntKind.u64.wrap ((n : Int) * 2)) (bv b : Int) = (numStep n b : Int) := by
  have e : IntKind.u64.wrap ((n : Int) * 2) = ((n * 2 % 18446744073709551616 : Nat) : Int) := by
    rw [IntKind.wrap_u64]; omega
  have hb := bv_le b
  rw [e, u64_or_nat _ _ (Nat.mod_lt _ (by decide)) (by omega), nat_join 1 _ _ (by omega) (by omega)]
  unfold numStep
  omega

def crcStep (s : Nat) (b : Bool) : Nat := if (b != decide (16384 ≤ s)) = true then (2 * s % 32768) ^^^ 17817 else 2 * s % 32768
def crc (bs : List Bool) : Nat := bs.foldl crcStep 0
theorem crcStep_lt (s : Nat) (b : Bool) : crcStep s b < 32768 := by
  unfold crcStep
  split
  · exact Nat.xor_lt_two_pow (n := 15) (Nat.mod_lt _ (by decide)) (by decide)
  · exact Nat.mod_lt _ (by decide)
theorem crc_lt (bs : List Bool) : crc bs < 32768 := by
  unfold crc
  rcases List.eq_nil_or_concat bs with rfl | ⟨l, b, rfl⟩
  · decide
  · rw [List.concat_eq_append, List.foldl_append]; exact crcStep_lt _ _
theorem crc_snoc (bs : List Bool) (b : Bool) : crc (bs ++ [b]) = crcStep (crc bs) b := by
  unfold crc; rw [List.foldl_append]; rfl
theorem and_mask (m : Nat) (h : m < 32768) : bits .and .u16 ((m : Int) * 2) 32767 = ((2 * m % 32768 : Nat) : Int) := by
  have e : ((m : Int) * 2) = ((m * 2 : Nat) : Int) := by omega
  have e2 : (32767 : Int) = ((32767 : Nat) : Int) := rfl
  have e3 : m * 2 &&& 32767 = m * 2 % 32768 := Nat.and_two_pow_sub_one_eq_mod (m * 2) 15
  rw [e, e2, u16_and_nat _ _ (by omega) (by decide), e3]
  omega
theorem test_crc (c : UInt8) (m : Nat) (h : m < 32768) : (bitI (c.toNat : Int) != (m : Int) / 16384) = (isOne c != decide (16384 ≤ m)) := by
  rw [bitI_byte, Bool.eq_iff_iff]
  cases isOne c <;> by_cases h2 : 16384 ≤ m <;> simp [bv, h2] <;> omega
theorem crc_yes (c : UInt8) (m : Nat) (h : m < 32768) (t : (bitI (c.toNat : Int) != (m : Int) / 16384) = true) :
    bits .xor .u16 (bits .and .u16 ((m : Int) * 2) 32767) 17817 = (crcStep m (isOne c) : Int) := by
  rw [test_crc c m h] at t
  have e2 : (17817 : Int) = ((17817 : Nat) : Int) := rfl
  rw [and_mask m h, e2, u16_xor_nat _ _ (by omega) (by decide)]
  unfold crcStep
  rw [if_pos t]
theorem crc_no (c : UInt8) (m : Nat) (h : m < 32768) (t : (bitI (c.toNat : Int) != (m : Int) / 16384) = false) :
    bits .and .u16 ((m : Int) * 2) 32767 = (crcStep m (isOne c) : Int) := by
  rw [test_crc c m h] at t
  rw [and_mask m h]
  unfold crcStep
  rw [if_neg (by simp [t])]

/-- no other signs than the two -/
def signOk (c : UInt8) : Bool := c == 48 || c == 49
theorem signOk_iff (c : UInt8) : signOk c = true ↔ ((c.toNat : Int) = 48 ∨ (c.toNat : Int) = 49) := by
  unfold signOk
  have h48 : (c == 48) = true ↔ (c.toNat : Int) = 48 := by
    rw [beq_iff_eq, ← UInt8.toNat_inj]; simp; omega
  have h49 : (c == 49) = true ↔ (c.toNat : Int) = 49 := by
    rw [beq_iff_eq, ← UInt8.toNat_inj]; simp; omega
  rw [Bool.or_eq_true, h48, h49]
theorem isOne_iff (c : UInt8) : isOne c = true ↔ (c.toNat : Int) = 49 := by
  unfold isOne
  rw [beq_iff_eq, ← UInt8.toNat_inj]; simp; omega
def okAll (l : List UInt8) : Bool := l.all signOk
theorem okAll_take_succ (s : ByteArray) (k : Nat) (h : k < s.size) : okAll (s.data.toList.take (k + 1)) = (okAll (s.data.toList.take k) && signOk s[k]) := by
  unfold okAll
  rw [List.take_succ_eq_append_getElem (by simpa using h)]
  simp only [List.all_append, List.all_cons, List.all_nil, Bool.and_true]
  rfl
theorem okAll_false (s : ByteArray) (k : Nat) (h : k < s.size) (hp : signOk s[k] = false) : okAll s.data.toList = false := by
  have e := okAll_take_succ s k h
  rw [hp, Bool.and_false] at e
  unfold okAll at *
  rw [← List.take_append_drop (k + 1) s.data.toList, List.all_append, e, Bool.false_and]

/-! bits of a number -/
def ofB (n k : Nat) : List Bool := (List.range k).map fun i => n.testBit (k - 1 - i)
theorem length_ofB (n k : Nat) : (ofB n k).length = k := by simp [ofB]
def cellsOf (l : List UInt8) : List Value := l.map fun c => Value.int .u8 (c.toNat : Int)
theorem length_cellsOf (l : List UInt8) : (cellsOf l).length = l.length := by simp [cellsOf]
theorem length_row (bs : List Bool) : (row bs).length = bs.length := by simp [row]
theorem length_read (l : List UInt8) : (read l).length = l.length := by simp [read]
def octV (b : Nat) : List Value := cellsOf (row (ofB b 8))
theorem oneCell_cellsOf (l : List UInt8) : ∀ u ∈ cellsOf l, u.oneCell' = true := by
  intro u hu
  unfold cellsOf at hu
  obtain ⟨c, _, rfl⟩ := List.mem_map.1 hu
  rfl
theorem oneCell_all (l : List UInt8) : (cellsOf l).toArray.all (·.oneCell') = true := by
  rw [Array.all_eq_true']
  intro u hu
  exact oneCell_cellsOf l u (by simpa using hu)
theorem sg_eq (b d j : Nat) (hb : b < 256) (hd : d = 2 ^ j) : (48 + bits .and .u8 ((b : Int) / (d : Int)) 1) % 256 = ((sign (b.testBit j)).toNat : Int) := by
  have e : ((b : Int) / (d : Int)) = ((b / d : Nat) : Int) := by omega
  have e1 : (1 : Int) = ((1 : Nat) : Int) := rfl
  have hlt : b / d < 256 := Nat.lt_of_le_of_lt (Nat.div_le_self _ _) hb
  rw [e, e1, u8_and_nat _ _ hlt (by decide), nat_mask1]
  have t : b.testBit j = decide (b / d % 2 = 1) := by rw [Nat.testBit_eq_decide_div_mod_eq, hd]
  rw [t]
  rcases Nat.mod_two_eq_zero_or_one (b / d) with h | h <;> simp [h, sign]
theorem octV_lit (b : Nat) (hb : b < 256) : octV b = [Value.int .u8 ((48 + bits .and .u8 ((b : Int) / 128) 1) % 256), Value.int .u8 ((48 + bits .and .u8 ((b : Int) / 64) 1) % 256),
    Value.int .u8 ((48 + bits .and .u8 ((b : Int) / 32) 1) % 256), Value.int .u8 ((48 + bits .and .u8 ((b : Int) / 16) 1) % 256), Value.int .u8 ((48 + bits .and .u8 ((b : Int) / 8) 1) % 256),
    Value.int .u8 ((48 + bits .and .u8 ((b : Int) / 4) 1) % 256), Value.int .u8 ((48 + bits .and .u8 ((b : Int) / 2) 1) % 256), Value.int .u8 ((48 + bits .and .u8 (b : Int) 1) % 256)] := by
  have h7 := sg_eq b 128 7 hb rfl
  have h6 := sg_eq b 64 6 hb rfl
  have h5 := sg_eq b 32 5 hb rfl
  have h4 := sg_eq b 16 4 hb rfl
  have h3 := sg_eq b 8 3 hb rfl
  have h2 := sg_eq b 4 2 hb rfl
  have h1 := sg_eq b 2 1 hb rfl
  have h0 := sg_eq b 1 0 hb rfl
  have e0 : ((b : Int) / ((1 : Nat) : Int)) = (b : Int) := by omega
  rw [e0] at h0
  rw [show ((128 : Nat) : Int) = 128 from rfl] at h7
  rw [show ((64 : Nat) : Int) = 64 from rfl] at h6
  rw [show ((32 : Nat) : Int) = 32 from rfl] at h5
  rw [show ((16 : Nat) : Int) = 16 from rfl] at h4
  rw [show ((8 : Nat) : Int) = 8 from rfl] at h3
  rw [show ((4 : Nat) : Int) = 4 from rfl] at h2
  rw [show ((2 : Nat) : Int) = 2 from rfl] at h1
  rw [h7, h6, h5, h4, h3, h2, h1, h0]
  rfl

/-! the 64 signs of a number, eight by eight -/
def wcur (n k : Nat) : List Value := cellsOf (row ((ofB n 64).take (8 * k)) ++ List.replicate (64 - 8 * k) 0)
theorem length_wcur (n k : Nat) (h : k ≤ 8) : (wcur n k).length = 64 := by
  simp [wcur, length_cellsOf, length_row, length_ofB]; omega
theorem wcur_full (n : Nat) : wcur n 8 = cellsOf (row (ofB n 64)) := by
  unfold wcur
  rw [List.take_of_length_le (by rw [length_ofB]; decide)]
  simp
theorem testBit_byte (n m j : Nat) (hj : j < 8) : (n / 2 ^ m % 256).testBit j = n.testBit (m + j) := by
  rw [show (256 : Nat) = 2 ^ 8 from rfl, Nat.testBit_mod_two_pow, Nat.testBit_div_two_pow]
  simp [hj, Nat.add_comm]
theorem ofB_byte (n k : Nat) (hk : k < 8) : ofB (n / 2 ^ (56 - 8 * k) % 256) 8 = ((ofB n 64).drop (8 * k)).take 8 := by
  apply List.ext_getElem
  · simp [length_ofB]; omega
  · intro i h1 h2
    have hi : i < 8 := by simpa [length_ofB] using h1
    simp only [ofB, List.getElem_map, List.getElem_range, List.getElem_take, List.getElem_drop]
    rw [testBit_byte _ _ _ (by omega)]
    congr 1
    omega
theorem splice_wcur (n k : Nat) (hk : k < 8) : splice (wcur n k) (8 * k) (octV (n / 2 ^ (56 - 8 * k) % 256)) = wcur n (k + 1) := by
  have hl : (octV (n / 2 ^ (56 - 8 * k) % 256)).length = 8 := by simp [octV, length_cellsOf, length_row, length_ofB]
  have hr : (cellsOf (row ((ofB n 64).take (8 * k)))).length = 8 * k := by
    simp [length_cellsOf, length_row, length_ofB]; omega
  have e1 : (List.replicate (64 - 8 * k) (0 : UInt8)).drop 8 = List.replicate (64 - 8 * (k + 1)) 0 := by
    rw [List.drop_replicate]; congr 1
  unfold splice
  rw [hl]
  unfold wcur
  rw [show cellsOf (row ((ofB n 64).take (8 * k)) ++ List.replicate (64 - 8 * k) 0) = cellsOf (row ((ofB n 64).take (8 * k))) ++ cellsOf (List.replicate (64 - 8 * k) 0) from List.map_append]
  rw [List.take_left' hr, List.drop_append, List.drop_of_length_le (by omega), hr, List.nil_append]
  have e2 : (cellsOf (List.replicate (64 - 8 * k) (0 : UInt8))).drop (8 * k + 8 - 8 * k) = cellsOf (List.replicate (64 - 8 * (k + 1)) 0) := by
    rw [show 8 * k + 8 - 8 * k = 8 by omega]
    unfold cellsOf
    rw [← List.map_drop, e1]
  rw [e2]
  unfold octV
  rw [ofB_byte n k hk]
  rw [show 8 * (k + 1) = 8 * k + 8 by omega, List.take_add]
  simp only [cellsOf, row, List.map_append, List.append_assoc]
theorem octV_shift (n m : Nat) : octV (((n : Int) / 2 ^ m % 256).toNat) = octV (n / 2 ^ m % 256) := by
  have : ((n : Int) / 2 ^ m % 256) = ((n / 2 ^ m % 256 : Nat) : Int) := by simp
  rw [this, Int.toNat_natCast]
theorem size_octV (b : Nat) : (octV b).toArray.size = 8 := by simp [octV, length_cellsOf, length_row, length_ofB]
theorem length_octV (b : Nat) : (octV b).length = 8 := by simp [octV, length_cellsOf, length_row, length_ofB]
theorem size_wcur (n k : Nat) (h : k ≤ 8) : (wcur n k).toArray.size = 64 := by simp [length_wcur n k h]

def clamp (width : Int) : Nat := (min (max width 0) 64).toNat
theorem clamp_le (width : Int) : clamp width ≤ 64 := by unfold clamp; omega
theorem ofB_drop (n k : Nat) (h : k ≤ 64) : (ofB n 64).drop (64 - k) = ofB n k := by
  apply List.ext_getElem
  · simp [length_ofB]; omega
  · intro i h1 h2
    have hi : i < k := by simpa [length_ofB] using h2
    simp only [ofB, List.getElem_map, List.getElem_range, List.getElem_drop]
    congr 1
    omega
theorem row_drop (n k : Nat) (h : k ≤ 64) : (row (ofB n 64)).drop (64 - k) = row (ofB n k) := by
  unfold row
  rw [← List.map_drop, ofB_drop n k h]

/-! a row that is filled from its head on -/
def fillV (d : List UInt8) (m : Nat) : List Value := cellsOf (d ++ List.replicate (m - d.length) 0)
theorem length_fillV (d : List UInt8) (m : Nat) (h : d.length ≤ m) : (fillV d m).length = m := by
  simp [fillV, length_cellsOf]; omega
theorem fillV_full (d : List UInt8) (m : Nat) (h : d.length = m) : fillV d m = cellsOf d := by
  unfold fillV; rw [h]; simp
theorem fillV_get (d : List UInt8) (m : Nat) (h : d.length < m) : (fillV d m)[d.length]? = some (Value.int .u8 0) := by
  unfold fillV cellsOf
  have e : List.replicate (m - d.length) (0 : UInt8) = 0 :: List.replicate (m - d.length - 1) 0 := by
    rw [← List.replicate_succ]; congr 1; omega
  rw [e]
  simp
theorem fillV_set (d : List UInt8) (m : Nat) (c : UInt8) (h : d.length < m) : (fillV d m).toArray.setIfInBounds d.length (Value.int .u8 (c.toNat : Int)) = (fillV (d ++ [c]) m).toArray := by
  unfold fillV cellsOf
  rw [List.setIfInBounds_toArray]
  congr 1
  have e : List.replicate (m - d.length) (0 : UInt8) = 0 :: List.replicate (m - (d ++ [c]).length) 0 := by
    rw [← List.replicate_succ]; congr 1; simp; omega
  rw [e]
  simp
theorem fillV_nil (m : Nat) : (fillV [] m) = List.replicate m (Value.int .u8 0) := by
  unfold fillV cellsOf; simp
theorem sign_bit (c : UInt8) : 48 + bitI (c.toNat : Int) = ((sign (isOne c)).toNat : Int) := by
  rw [bitI_byte]; cases isOne c <;> rfl
/-- the bit at 'at' is the other one -/
def turn (bs : List Bool) (p : Int) : List Bool := if 0 ≤ p then bs.modify p.toNat not else bs
theorem length_turn (bs : List Bool) (p : Int) : (turn bs p).length = bs.length := by unfold turn; split <;> simp
theorem row_read_take_succ (s : ByteArray) (k : Nat) (h : k < s.size) : row (read (s.data.toList.take (k + 1))) = row (read (s.data.toList.take k)) ++ [sign (isOne s[k])] := by
  rw [read_take_succ s k h]; simp [row]
theorem length_rr_take (s : ByteArray) (k : Nat) (h : k ≤ s.size) : (row (read (s.data.toList.take k))).length = k := by
  simp [length_row, length_read]; exact Nat.min_eq_left h
end Go.Proofs.YtnbfnipdiffphaaDoor.Bm
/- More plain mathematics of rows of bits: a bit turned, both rows, eight by eight; nothing of the program is in it. -/
namespace Go.Proofs.YtnbfnipdiffphaaDoor.Bm

theorem get_cells_row (bs : List Bool) (q : Nat) (h : q < bs.length) : (cellsOf (row bs)).toArray[q]? = some (Value.int .u8 ((sign bs[q]).toNat : Int)) := by
  simp [cellsOf, row, h]
theorem xor_sign (b : Bool) : bits .xor .u8 ((sign b).toNat : Int) 1 = ((sign (!b)).toNat : Int) := by
  cases b <;> decide
theorem set_turn (bs : List Bool) (q : Nat) (h : q < bs.length) : (cellsOf (row bs)).toArray.setIfInBounds q (Value.int .u8 (bits .xor .u8 ((sign bs[q]).toNat : Int) 1)) = (cellsOf (row (turn bs (q : Int)))).toArray := by
  rw [xor_sign, List.setIfInBounds_toArray]
  congr 1
  unfold turn
  rw [if_pos (by omega), Int.toNat_natCast]
  unfold cellsOf row
  rw [List.map_map, List.map_map]
  apply List.ext_getElem?
  intro i
  rw [List.getElem?_set, List.getElem?_map, List.getElem?_map, List.getElem?_modify]
  by_cases e : q = i
  · subst e
    simp [h]
  · simp [e]
theorem turn_low (bs : List Bool) (p : Int) (h : p < 0) : turn bs p = bs := by unfold turn; rw [if_neg (by omega)]
theorem turn_high (bs : List Bool) (p : Int) (h : (bs.length : Int) ≤ p) : turn bs p = bs := by
  unfold turn
  rw [if_pos (by omega), List.modify_eq_self (by omega)]

/-- the k-th byte of a row of bits -/
def byteAt (bs : List Bool) (k : Nat) : UInt8 := UInt8.ofNat (num ((bs.drop (8 * k)).take 8))
def bytesTo (bs : List Bool) (k : Nat) : List UInt8 := (List.range k).map (byteAt bs)
def bytes (bs : List Bool) : List UInt8 := bytesTo bs (bs.length / 8)
theorem length_bytesTo (bs : List Bool) (k : Nat) : (bytesTo bs k).length = k := by simp [bytesTo]
theorem bytesTo_succ (bs : List Bool) (k : Nat) : bytesTo bs (k + 1) = bytesTo bs k ++ [byteAt bs k] := by simp [bytesTo, List.range_succ]
theorem read_window (l : List UInt8) (k : Nat) : read ((l.drop (8 * k)).take 8) = ((read l).drop (8 * k)).take 8 := by
  unfold read
  rw [List.map_take, List.map_drop]
theorem byteAt_val (bs : List Bool) (k : Nat) : ((num ((bs.drop (8 * k)).take 8) : Nat) : Int) % 256 = ((byteAt bs k).toNat : Int) := by
  unfold byteAt
  simp

/-- the bits of bytes -/
def fromB (l : List UInt8) : List Bool := l.flatMap fun c => ofB c.toNat 8
theorem fromB_snoc (l : List UInt8) (c : UInt8) : fromB (l ++ [c]) = fromB l ++ ofB c.toNat 8 := by simp [fromB]
theorem length_fromB (l : List UInt8) : (fromB l).length = 8 * l.length := by
  induction l with
  | nil => rfl
  | cons c r ih =>
    have e : fromB (c :: r) = ofB c.toNat 8 ++ fromB r := by simp [fromB]
    rw [e, List.length_append, ih, length_ofB, List.length_cons]
    omega
theorem take_snoc (s : ByteArray) (k : Nat) (h : k < s.size) : s.data.toList.take (k + 1) = s.data.toList.take k ++ [s[k]] := by
  rw [List.take_succ_eq_append_getElem (by simpa using h)]; rfl
theorem length_from_take (s : ByteArray) (k : Nat) (h : k ≤ s.size) : (row (fromB (s.data.toList.take k))).length = 8 * k := by
  rw [length_row, length_fromB, List.length_take]
  have : s.data.toList.length = s.size := by simp
  omega
theorem splice_from (s : ByteArray) (k : Nat) (h : k < s.size) : splice (fillV (row (fromB (s.data.toList.take k))) (8 * s.size)) (8 * k) (octV s[k].toNat) = fillV (row (fromB (s.data.toList.take (k + 1)))) (8 * s.size) := by
  have hr : (cellsOf (row (fromB (s.data.toList.take k)))).length = 8 * k := by rw [length_cellsOf, length_from_take s k (by omega)]
  have hl : (octV s[k].toNat).length = 8 := by simp [octV, length_cellsOf, length_row, length_ofB]
  have e1 : (List.replicate (8 * s.size - 8 * k) (0 : UInt8)).drop 8 = List.replicate (8 * s.size - 8 * (k + 1)) 0 := by
    rw [List.drop_replicate]; congr 1
  unfold splice
  rw [hl]
  unfold fillV
  rw [length_from_take s k (by omega), length_from_take s (k + 1) (by omega)]
  rw [show cellsOf (row (fromB (s.data.toList.take k)) ++ List.replicate (8 * s.size - 8 * k) 0) = cellsOf (row (fromB (s.data.toList.take k))) ++ cellsOf (List.replicate (8 * s.size - 8 * k) 0) from List.map_append]
  rw [List.take_left' hr, List.drop_append, List.drop_of_length_le (by omega), hr, List.nil_append]
  have e2 : (cellsOf (List.replicate (8 * s.size - 8 * k) (0 : UInt8))).drop (8 * k + 8 - 8 * k) = cellsOf (List.replicate (8 * s.size - 8 * (k + 1)) 0) := by
    rw [show 8 * k + 8 - 8 * k = 8 by omega]
    unfold cellsOf
    rw [← List.map_drop, e1]
  rw [e2, take_snoc s k h, fromB_snoc]
  unfold octV
  simp only [cellsOf, row, List.map_append, List.append_assoc]
theorem fillV_from (s : ByteArray) (k : Nat) (h : s.size ≤ k) : fillV (row (fromB (s.data.toList.take k))) (8 * s.size) = cellsOf (row (fromB s.data.toList)) := by
  rw [take_all s k h, fillV_full]
  rw [length_row, length_fromB]
  have : s.data.toList.length = s.size := by simp
  omega

/-- both rows, bit by bit -/
def both (a b : List Bool) : List Bool := List.zipWith (· && ·) a b
theorem length_both (a b : List Bool) : (both a b).length = min a.length b.length := by simp [both]
theorem and_bits (c d : UInt8) : 48 + bits .and .u8 (bitI (c.toNat : Int)) (bitI (d.toNat : Int)) = ((sign (isOne c && isOne d)).toNat : Int) := by
  rw [bitI_byte, bitI_byte]
  cases isOne c <;> cases isOne d <;> decide
theorem and_wrap (c d : UInt8) : IntKind.u8.wrap (48 + bits .and .u8 (bitI (c.toNat : Int)) (bitI (d.toNat : Int))) = ((sign (isOne c && isOne d)).toNat : Int) := by
  rw [and_bits]
  cases (isOne c && isOne d) <;> decide
theorem both_take_succ (s t : ByteArray) (k : Nat) (h : k < s.size) (g : k < t.size) : row (both (read (s.data.toList.take (k + 1))) (read (t.data.toList.take (k + 1)))) = row (both (read (s.data.toList.take k)) (read (t.data.toList.take k))) ++ [sign (isOne s[k] && isOne t[k])] := by
  rw [read_take_succ s k h, read_take_succ t k g]
  unfold both row
  rw [List.zipWith_append (by simp [length_read]; omega)]
  simp
theorem length_both_take (s t : ByteArray) (k : Nat) (h : k ≤ s.size) (g : k ≤ t.size) : (row (both (read (s.data.toList.take k)) (read (t.data.toList.take k)))).length = k := by
  have h1 : s.data.toList.length = s.size := by simp
  have h2 : t.data.toList.length = t.size := by simp
  rw [length_row, length_both, length_read, length_read, List.length_take, List.length_take]
  omega
theorem both_take_all (s t : ByteArray) : both (read (s.data.toList.take (min s.size t.size))) (read (t.data.toList.take (min s.size t.size))) = both (read s.data.toList) (read t.data.toList) := by
  have h1 : s.data.toList.length = s.size := by simp
  have h2 : t.data.toList.length = t.size := by simp
  have e : min s.size t.size = min (read s.data.toList).length (read t.data.toList).length := by rw [length_read, length_read, h1, h2]
  unfold both
  unfold read at *
  rw [List.map_take, List.map_take, e]
  apply List.ext_getElem?
  intro i
  simp only [List.getElem?_zipWith, List.getElem?_take]
  by_cases hi : i < min (List.map isOne s.data.toList).length (List.map isOne t.data.toList).length
  · simp only [hi, if_true]
  · simp only [hi, if_false]
    have : (List.map isOne s.data.toList)[i]? = none ∨ (List.map isOne t.data.toList)[i]? = none := by
      rcases Nat.lt_or_ge i (List.map isOne s.data.toList).length with h | h
      · right; rw [List.getElem?_eq_none_iff]; omega
      · left; rw [List.getElem?_eq_none_iff]; omega
    rcases this with h | h
    · rw [h]
    · rw [h]; cases (List.map isOne s.data.toList)[i]? <;> rfl
end Go.Proofs.YtnbfnipdiffphaaDoor.Bm
/- Plain mathematics of the 15 bit sum and of numbers as bits; nothing of the program is in it. -/
namespace Go.Proofs.YtnbfnipdiffphaaDoor.Bm

theorem isOne_sign (b : Bool) : isOne (sign b) = b := by cases b <;> rfl
theorem read_row (bs : List Bool) : read (row bs) = bs := by
  unfold read row
  rw [List.map_map]
  have : (isOne ∘ sign) = id := funext isOne_sign
  rw [this, List.map_id]
theorem okAll_row (bs : List Bool) : okAll (row bs) = true := by
  unfold okAll row
  rw [List.all_map, List.all_eq_true]
  intro b _
  cases b <;> rfl

/-! the sum is linear -/
def poly (b : Bool) : Nat := if b then 17817 else 0
theorem poly_xor (a b : Bool) : poly (a ^^ b) = poly a ^^^ poly b := by cases a <;> cases b <;> decide
theorem top_bit (s : Nat) (h : s < 32768) : decide (16384 ≤ s) = s.testBit 14 := by
  rw [Nat.testBit_eq_decide_div_mod_eq, decide_eq_decide, show (2 : Nat) ^ 14 = 16384 from rfl]
  omega
theorem crcStep_eq (s : Nat) (b : Bool) (h : s < 32768) : crcStep s b = (2 * s % 32768) ^^^ poly (b ^^ s.testBit 14) := by
  unfold crcStep poly
  rw [top_bit s h]
  cases b <;> cases s.testBit 14 <;> simp
theorem shift_xor (s t : Nat) : 2 * (s ^^^ t) % 32768 = (2 * s % 32768) ^^^ (2 * t % 32768) := by
  rw [show (32768 : Nat) = 2 ^ 15 from rfl, ← Nat.xor_mod_two_pow]
  congr 1
  rw [Nat.mul_comm 2, Nat.mul_comm 2, Nat.mul_comm 2]
  have e : ∀ x : Nat, x * 2 = x <<< 1 := fun x => by rw [Nat.shiftLeft_eq]
  rw [e, e, e, Nat.shiftLeft_xor_distrib]
theorem xor_lt (s t : Nat) (hs : s < 32768) (ht : t < 32768) : s ^^^ t < 32768 := Nat.xor_lt_two_pow (n := 15) hs ht
theorem crcStep_xor (s t : Nat) (a b : Bool) (hs : s < 32768) (ht : t < 32768) : crcStep (s ^^^ t) (a ^^ b) = crcStep s a ^^^ crcStep t b := by
  rw [crcStep_eq _ _ (xor_lt s t hs ht), crcStep_eq s a hs, crcStep_eq t b ht, shift_xor, Nat.testBit_xor]
  have e : ((a ^^ b) ^^ (s.testBit 14 ^^ t.testBit 14)) = ((a ^^ s.testBit 14) ^^ (b ^^ t.testBit 14)) := by
    cases a <;> cases b <;> cases s.testBit 14 <;> cases t.testBit 14 <;> rfl
  rw [e, poly_xor]
  generalize 2 * s % 32768 = x
  generalize 2 * t % 32768 = y
  generalize poly (a ^^ s.testBit 14) = p
  generalize poly (b ^^ t.testBit 14) = q
  rw [Nat.xor_assoc, Nat.xor_assoc, ← Nat.xor_assoc y p q, Nat.xor_comm y p, Nat.xor_assoc p y q]
def crcFrom (s : Nat) (bs : List Bool) : Nat := bs.foldl crcStep s
theorem crcFrom_lt (s : Nat) (bs : List Bool) (h : s < 32768) : crcFrom s bs < 32768 := by
  induction bs generalizing s with
  | nil => exact h
  | cons b r ih => exact ih _ (crcStep_lt _ _)
theorem crcFrom_xor (as bs : List Bool) (h : as.length = bs.length) : ∀ s t, s < 32768 → t < 32768 → crcFrom (s ^^^ t) (List.zipWith Bool.xor as bs) = crcFrom s as ^^^ crcFrom t bs := by
  induction as generalizing bs with
  | nil =>
    intro s t _ _
    cases bs with
    | nil => rfl
    | cons b r => simp at h
  | cons a r ih =>
    intro s t hs ht
    cases bs with
    | nil => simp at h
    | cons b q =>
      show crcFrom (crcStep (s ^^^ t) (a ^^ b)) (List.zipWith Bool.xor r q) = crcFrom (crcStep s a) r ^^^ crcFrom (crcStep t b) q
      rw [crcStep_xor s t a b hs ht]
      exact ih q (by simpa using h) _ _ (crcStep_lt _ _) (crcStep_lt _ _)
theorem crc_xor (as bs : List Bool) (h : as.length = bs.length) : crc (List.zipWith Bool.xor as bs) = crc as ^^^ crc bs := crcFrom_xor as bs h 0 0 (by decide) (by decide)
theorem ofB_xor (a b k : Nat) : ofB (a ^^^ b) k = List.zipWith Bool.xor (ofB a k) (ofB b k) := by
  unfold ofB
  apply List.ext_getElem
  · simp
  · intro i h1 h2
    simp [Nat.testBit_xor]
theorem crc_lin (a b k : Nat) : crc (ofB (a ^^^ b) k) = crc (ofB a k) ^^^ crc (ofB b k) := by
  rw [ofB_xor, crc_xor _ _ (by rw [length_ofB, length_ofB])]

/-! a row with its sum behind it -/
theorem ofB_succ (n k : Nat) : ofB n (k + 1) = n.testBit k :: ofB n k := by
  unfold ofB
  rw [List.range_succ_eq_map, List.map_cons, List.map_map]
  congr 1
  apply List.map_congr_left
  intro i _
  simp only [Function.comp, Nat.succ_eq_add_one]
  congr 1
  omega
theorem crc_eats (c : Nat) : ∀ k, k ≤ 15 → crcFrom (c * 2 ^ (15 - k) % 32768) (ofB c k) = 0 := by
  intro k
  induction k with
  | zero =>
    intro _
    show c * 32768 % 32768 = 0
    omega
  | succ k ih =>
    intro hk
    rw [ofB_succ]
    show crcFrom (crcStep (c * 2 ^ (15 - (k + 1)) % 32768) (c.testBit k)) (ofB c k) = 0
    have e : crcStep (c * 2 ^ (15 - (k + 1)) % 32768) (c.testBit k) = c * 2 ^ (15 - k) % 32768 := by
      rw [crcStep_eq _ _ (Nat.mod_lt _ (by decide))]
      have t : (c * 2 ^ (15 - (k + 1)) % 32768).testBit 14 = c.testBit k := by
        rw [show (32768 : Nat) = 2 ^ 15 from rfl, Nat.testBit_mod_two_pow, ← Nat.shiftLeft_eq, Nat.testBit_shiftLeft]
        have h2 : 14 - (15 - (k + 1)) = k := by omega
        rw [h2]
        simp
      rw [t]
      have p : poly (c.testBit k ^^ c.testBit k) = 0 := by cases c.testBit k <;> rfl
      rw [p, Nat.xor_zero]
      have e1 : 15 - k = (15 - (k + 1)) + 1 := by omega
      rw [e1, Nat.pow_succ]
      rw [← Nat.mul_assoc]
      generalize c * 2 ^ (15 - (k + 1)) = x at *
      omega
    rw [e]
    exact ih (by omega)
theorem crc_append (as bs : List Bool) : crc (as ++ bs) = crcFrom (crc as) bs := by unfold crc crcFrom; rw [List.foldl_append]
theorem crc_nothing (bs : List Bool) : crc (bs ++ ofB (crc bs) 15) = 0 := by
  rw [crc_append]
  have h := crc_eats (crc bs) 15 (Nat.le_refl _)
  have hl := crc_lt bs
  have e : crc bs * 2 ^ (15 - 15) % 32768 = crc bs := by
    rw [Nat.sub_self, Nat.pow_zero, Nat.mul_one, Nat.mod_eq_of_lt hl]
  rw [e] at h
  exact h
theorem ofB_zero (k : Nat) : ofB 0 k = List.replicate k false := by
  induction k with
  | zero => rfl
  | succ k ih => rw [ofB_succ, ih, List.replicate_succ]; simp
theorem crc_noughts (k : Nat) : crc (List.replicate k false) = 0 := by
  induction k with
  | zero => rfl
  | succ k ih =>
    show crcFrom (crcStep 0 false) (List.replicate k false) = 0
    exact ih
theorem crc_ahead (k : Nat) (bs : List Bool) : crc (ofB 0 k ++ bs) = crc bs := by
  rw [crc_append, ofB_zero, crc_noughts]; rfl
end Go.Proofs.YtnbfnipdiffphaaDoor.Bm
/- Plain mathematics of a turned bit, of numbers read back and of bytes read back; nothing of the program is in it. -/
namespace Go.Proofs.YtnbfnipdiffphaaDoor.Bm

def unit (L i : Nat) : List Bool := (List.range L).map fun j => decide (j = i)
theorem turn_unit (bs : List Bool) (i : Nat) : turn bs (i : Int) = List.zipWith Bool.xor bs (unit bs.length i) := by
  unfold turn unit
  rw [if_pos (by omega), Int.toNat_natCast]
  apply List.ext_getElem
  · simp
  · intro j h1 h2
    have hj : j < bs.length := by simpa using h1
    rw [List.getElem_modify, List.getElem_zipWith]
    simp only [List.getElem_map, List.getElem_range]
    by_cases e : i = j
    · subst e; cases bs[i] <;> simp
    · have e' : ¬ j = i := fun h => e h.symm
      simp [e, e']
theorem crc_turn (bs : List Bool) (i : Nat) : crc (turn bs (i : Int)) = crc bs ^^^ crc (unit bs.length i) := by
  rw [turn_unit, crc_xor _ _ (by simp [unit])]
def sums127 : List Nat := (List.range 127).map fun i => crc (unit 127 i)
theorem sums127_ok : sums127.Nodup ∧ 0 ∉ sums127 := by decide +kernel
theorem unit_ne (i : Nat) (h : i < 127) : crc (unit 127 i) ≠ 0 := by
  intro e
  apply sums127_ok.2
  rw [← e]
  exact List.mem_map.2 ⟨i, List.mem_range.2 h, rfl⟩
theorem unit_inj (i k : Nat) (h : i < 127) (g : k < 127) (e : crc (unit 127 i) = crc (unit 127 k)) : i = k := by
  have hn := sums127_ok.1
  have hi : i < sums127.length := by simpa [sums127] using h
  have hk : k < sums127.length := by simpa [sums127] using g
  have e1 : sums127[i] = sums127[k] := by simpa [sums127] using e
  exact (List.getElem_inj hn).1 e1
theorem xor_cancel (a b c : Nat) : a ^^^ b = a ^^^ c ↔ b = c := by
  constructor
  · intro h
    have h2 := congrArg (fun x => a ^^^ x) h
    simpa [← Nat.xor_assoc] using h2
  · intro h; rw [h]

/-! numbers read back -/
theorem ofB_snoc (n k : Nat) : ofB n (k + 1) = ofB (n / 2) k ++ [n.testBit 0] := by
  unfold ofB
  rw [List.range_succ, List.map_append]
  congr 1
  · apply List.map_congr_left
    intro i hi
    have h : i < k := List.mem_range.1 hi
    rw [Nat.testBit_div_two]
    congr 1
    omega
  · simp
theorem num_ofB (k : Nat) : k ≤ 64 → ∀ n, num (ofB n k) = n % 2 ^ k := by
  induction k with
  | zero => intro _ n; simp [ofB, num, Nat.mod_one]
  | succ k ih =>
    intro hk n
    rw [ofB_snoc, num_snoc, ih (by omega)]
    unfold numStep
    have hb : bv (n.testBit 0) = n % 2 := by
      rw [Nat.testBit_zero]
      rcases Nat.mod_two_eq_zero_or_one n with h | h <;> simp [h, bv]
    rw [hb]
    have e : n % 2 ^ (k + 1) = 2 * (n / 2 % 2 ^ k) + n % 2 := by
      rw [Nat.pow_succ, Nat.mul_comm (2 ^ k) 2, Nat.mod_mul]
      omega
    rw [← e]
    apply Nat.mod_eq_of_lt
    have h1 : n % 2 ^ (k + 1) < 2 ^ (k + 1) := Nat.mod_lt _ (Nat.two_pow_pos _)
    have h2 : 2 ^ (k + 1) ≤ 2 ^ 64 := Nat.pow_le_pow_right (by decide) hk
    have h3 : (2 : Nat) ^ 64 = 18446744073709551616 := by decide
    omega
theorem num_ofB_64 (n : Nat) (h : n < 18446744073709551616) : num (ofB n 64) = n := by
  rw [num_ofB 64 (Nat.le_refl _) n]
  exact Nat.mod_eq_of_lt (by have h3 : (2 : Nat) ^ 64 = 18446744073709551616 := by decide
                             omega)
theorem turn_ofB (n k : Nat) (hk : k < 64) : turn (ofB n 64) (k : Int) = ofB (n ^^^ 2 ^ (63 - k)) 64 := by
  unfold turn
  rw [if_pos (by omega), Int.toNat_natCast]
  apply List.ext_getElem
  · simp [length_ofB]
  · intro j h1 h2
    have hj : j < 64 := by simpa [length_ofB] using h2
    rw [List.getElem_modify]
    simp only [ofB, List.getElem_map, List.getElem_range]
    rw [Nat.testBit_xor, Nat.testBit_two_pow]
    by_cases e : k = j
    · subst e
      rw [if_pos rfl]
      have : 63 - k = 64 - 1 - k := by omega
      simp [this]
    · have : ¬ 63 - k = 64 - 1 - j := by omega
      rw [if_neg e]
      simp [this]
theorem num_turn (n k : Nat) (hk : k < 64) (h : n < 18446744073709551616) : num (turn (ofB n 64) (k : Int)) = n ^^^ 2 ^ (63 - k) := by
  rw [turn_ofB n k hk, num_ofB_64]
  exact Nat.xor_lt_two_pow (n := 64) h (Nat.pow_lt_pow_right (by decide) (by omega))
theorem turn_turn (bs : List Bool) (p : Int) : turn (turn bs p) p = bs := by
  unfold turn
  by_cases h : 0 ≤ p
  · rw [if_pos h, if_pos h]
    apply List.ext_getElem
    · simp
    · intro j h1 h2
      rw [List.getElem_modify, List.getElem_modify]
      split <;> simp
  · rw [if_neg h, if_neg h]
theorem both_self (bs : List Bool) : both bs bs = bs := by
  unfold both
  apply List.ext_getElem
  · simp
  · intro j h1 h2
    rw [List.getElem_zipWith]
    simp

/-! bytes read back -/
theorem byteAt_zero (c : UInt8) (r : List Bool) : byteAt (ofB c.toNat 8 ++ r) 0 = c := by
  unfold byteAt
  rw [Nat.mul_zero, List.drop_zero, List.take_left' (length_ofB _ _), num_ofB 8 (by decide)]
  have h : c.toNat % 2 ^ 8 = c.toNat := Nat.mod_eq_of_lt c.toNat_lt
  rw [h]
  simp
theorem byteAt_succ (x r : List Bool) (hx : x.length = 8) (i : Nat) : byteAt (x ++ r) (i + 1) = byteAt r i := by
  unfold byteAt
  rw [List.drop_append, List.drop_of_length_le (by omega), List.nil_append, hx, show 8 * (i + 1) - 8 = 8 * i by omega]
theorem bytes_fromB (l : List UInt8) : bytes (fromB l) = l := by
  have key : ∀ l : List UInt8, bytesTo (fromB l) l.length = l := by
    intro l
    induction l with
    | nil => rfl
    | cons c r ih =>
      have e : fromB (c :: r) = ofB c.toNat 8 ++ fromB r := by simp [fromB]
      rw [e]
      unfold bytesTo at *
      rw [List.length_cons, List.range_succ_eq_map, List.map_cons, List.map_map, byteAt_zero]
      rw [show (byteAt (ofB c.toNat 8 ++ fromB r) ∘ Nat.succ) = byteAt (fromB r) from funext fun i => byteAt_succ _ _ (length_ofB _ _) i]
      rw [ih]
  unfold bytes
  rw [length_fromB, Nat.mul_div_cancel_left _ (by decide)]
  exact key l
end Go.Proofs.YtnbfnipdiffphaaDoor.Bm
/- Plain mathematics of frames: whether it is one, its bits, its order, its text, what a row of bits begins with; nothing of the program is in it. -/
namespace Go.Proofs.YtnbfnipdiffphaaDoor.Fm
open Go.Proofs.YtnbfnipdiffphaaDoor.Bm

def top (x : Bool) : Nat := if x then 536870912 else 2048
def isF (x : Bool) (n : Nat) (r : Bool) (d : List UInt8) : Bool := decide (n < top x) && (decide (d.length ≤ 8) && (!r || d.isEmpty))
def arb0 (x : Bool) (n : Nat) (r : Bool) : List Bool := if x then false :: (ofB (n / 262144) 11 ++ (true :: true :: (ofB n 18 ++ [r]))) else false :: (ofB n 11 ++ [r, false])
def arb (x : Bool) (n : Nat) (r : Bool) (d : List UInt8) : List Bool := if isF x n r d then arb0 x n r else []
def body0 (x : Bool) (n : Nat) (r : Bool) (d : List UInt8) : List Bool := arb0 x n r ++ ((if x then [false, false] else [false]) ++ (ofB d.length 4 ++ fromB d))
def body (x : Bool) (n : Nat) (r : Bool) (d : List UInt8) : List Bool := if isF x n r d then body0 x n r d else []

/-- at the first bit at which they are unlike -/
def cmpB : List Bool → List Bool → Int
  | a :: s, b :: t => if a = b then cmpB s t else if a then 1 else -1
  | _, _ => 0

/-- so many bits from a place on -/
def cut (bs : List Bool) (i l : Nat) : List Bool := (bs.drop i).take l
def none_ (e : Nat) : (Bool × Nat × Bool × List UInt8) × Nat × Nat := ((false, 0, false, []), 0, e)
def parseD (bs : List Bool) (x : Bool) (n : Nat) (r : Bool) (p k : Nat) : (Bool × Nat × Bool × List UInt8) × Nat × Nat :=
  if bs.length < p + 8 * k then none_ 10 else ((x, n, r, Bm.bytes (cut bs p (8 * k))), p + 8 * k, 0)
def parseL (bs : List Bool) (x : Bool) (n : Nat) (r : Bool) (p : Nat) : (Bool × Nat × Bool × List UInt8) × Nat × Nat :=
  if bs.length < p + 4 then none_ 10 else parseD bs x n r (p + 4) (if r then 0 else min (num (cut bs p 4)) 8)
def parse (bs : List Bool) : (Bool × Nat × Bool × List UInt8) × Nat × Nat :=
  if bs.length < 1 then none_ 10 else if bs.getD 0 false then none_ 12 else if bs.length < 14 then none_ 10 else
  if bs.getD 13 false then (if bs.getD 12 false then (if bs.length < 33 then none_ 10 else parseL bs true (num (cut bs 1 11) * 262144 + num (cut bs 14 18)) (bs.getD 32 false) 35) else none_ 12)
  else parseL bs false (num (cut bs 1 11)) (bs.getD 12 false) 15

def hexd (k : Nat) : UInt8 := UInt8.ofNat (if k < 10 then 48 + k else 55 + k)
def hexs (n : Nat) : Nat → List UInt8
  | 0 => []
  | w + 1 => hexd (n / 16 ^ w % 16) :: hexs n w
theorem length_hexs (n : Nat) : ∀ w, (hexs n w).length = w := by
  intro w
  induction w with
  | zero => rfl
  | succ w ih => simp [hexs, ih]
def hexB (d : List UInt8) : List UInt8 := d.flatMap fun c => hexs c.toNat 2
theorem length_hexB (d : List UInt8) : (hexB d).length = 2 * d.length := by
  induction d with
  | nil => rfl
  | cons c t ih =>
    have e : hexB (c :: t) = hexs c.toNat 2 ++ hexB t := rfl
    rw [e, List.length_append, length_hexs, ih, List.length_cons]
    omega
theorem hexB_snoc (d : List UInt8) (c : UInt8) : hexB (d ++ [c]) = hexB d ++ hexs c.toNat 2 := by simp [hexB]
def hexW (x : Bool) : Nat := if x then 8 else 3
def text0 (x : Bool) (n : Nat) (r : Bool) (d : List UInt8) : List UInt8 := hexs n (hexW x) ++ (35 :: (if r then [82] else hexB d))
def text (x : Bool) (n : Nat) (r : Bool) (d : List UInt8) : List UInt8 := if isF x n r d then text0 x n r d else []

theorem isF_parts {x : Bool} {n : Nat} {r : Bool} {d : List UInt8} (h : isF x n r d = true) : n < top x ∧ d.length ≤ 8 ∧ (r = true → d = []) := by
  unfold isF at h
  simp only [Bool.and_eq_true, decide_eq_true_eq, Bool.or_eq_true, Bool.not_eq_true', List.isEmpty_iff] at h
  obtain ⟨h1, h2, h3⟩ := h
  refine ⟨h1, h2, fun hr => ?_⟩
  rcases h3 with h3 | h3
  · rw [hr] at h3; cases h3
  · exact h3
theorem isF_mk {x : Bool} {n : Nat} {r : Bool} {d : List UInt8} (h1 : n < top x) (h2 : d.length ≤ 8) (h3 : r = true → d = []) : isF x n r d = true := by
  unfold isF
  simp only [Bool.and_eq_true, decide_eq_true_eq, Bool.or_eq_true, Bool.not_eq_true', List.isEmpty_iff]
  refine ⟨h1, h2, ?_⟩
  cases r
  · exact Or.inl rfl
  · exact Or.inr (h3 rfl)
theorem length_arb0 (x : Bool) (n : Nat) (r : Bool) : (arb0 x n r).length = if x then 33 else 14 := by
  unfold arb0
  cases x <;> simp [length_ofB]
theorem length_body0 (x : Bool) (n : Nat) (r : Bool) (d : List UInt8) : (body0 x n r d).length = (if x then 39 else 19) + 8 * d.length := by
  unfold body0
  simp only [List.length_append, length_arb0, length_ofB, length_fromB]
  cases x <;> simp <;> omega

/-! ### what is written is read -/
theorem cut_app (a b c : List Bool) (i l : Nat) (ha : a.length = i) (hb : b.length = l) : cut (a ++ (b ++ c)) i l = b := by
  unfold cut
  rw [List.drop_append, List.drop_of_length_le (by omega), ha, Nat.sub_self, List.drop_zero, List.nil_append, List.take_append, List.take_of_length_le (by omega), hb, Nat.sub_self, List.take_zero, List.append_nil]
theorem getD_app (a : List Bool) (b : Bool) (c : List Bool) (i : Nat) (ha : a.length = i) : (a ++ b :: c).getD i false = b := by
  rw [List.getD_eq_getElem?_getD, List.getElem?_append_right (by omega), ha, Nat.sub_self]
  rfl
theorem top_std {n : Nat} (h : n < top false) : n < 2048 := h
theorem top_ext {n : Nat} (h : n < top true) : n < 536870912 := h
/-- of a row that begins with a frame's bits, at least so far as asked: its first bits -/
theorem std_form (n : Nat) (r : Bool) (d : List UInt8) (m : List Bool) : body0 false n r d ++ m = false :: (ofB n 11 ++ (r :: false :: false :: (ofB d.length 4 ++ (fromB d ++ m)))) := by
  unfold body0 arb0
  simp
theorem ext_form (n : Nat) (r : Bool) (d : List UInt8) (m : List Bool) : body0 true n r d ++ m = false :: (ofB (n / 262144) 11 ++ (true :: true :: (ofB n 18 ++ (r :: false :: false :: (ofB d.length 4 ++ (fromB d ++ m)))))) := by
  unfold body0 arb0
  simp
theorem parse_std (bs : List Bool) (n : Nat) (r : Bool) (k : Nat) (hl : 19 ≤ bs.length) (h0 : bs.getD 0 false = false) (h13 : bs.getD 13 false = false) (h12 : bs.getD 12 false = r) (hn : num (cut bs 1 11) = n) (hk : (if r then 0 else min (num (cut bs 15 4)) 8) = k) :
    parse bs = parseD bs false n r 19 k := by
  unfold parse
  rw [if_neg (by omega), h0, if_neg (by decide), if_neg (by omega), h13, if_neg (by decide), h12, hn]
  unfold parseL
  rw [if_neg (by omega), hk]
theorem parse_ext (bs : List Bool) (n : Nat) (r : Bool) (k : Nat) (hl : 39 ≤ bs.length) (h0 : bs.getD 0 false = false) (h13 : bs.getD 13 false = true) (h12 : bs.getD 12 false = true) (h32 : bs.getD 32 false = r) (hn : num (cut bs 1 11) * 262144 + num (cut bs 14 18) = n) (hk : (if r then 0 else min (num (cut bs 35 4)) 8) = k) :
    parse bs = parseD bs true n r 39 k := by
  unfold parse
  rw [if_neg (by omega), h0, if_neg (by decide), if_neg (by omega), h13, if_pos rfl, h12, if_pos rfl, if_neg (by omega), h32, hn]
  unfold parseL
  rw [if_neg (by omega), hk]
theorem len4 (d : List UInt8) (h : d.length ≤ 8) : min (num (ofB d.length 4)) 8 = d.length := by
  rw [num_ofB 4 (by decide)]
  have : d.length % 2 ^ 4 = d.length := Nat.mod_eq_of_lt (by omega)
  omega
end Go.Proofs.YtnbfnipdiffphaaDoor.Fm
