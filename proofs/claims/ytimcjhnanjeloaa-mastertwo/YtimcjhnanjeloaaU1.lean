/- Plain mathematics of rows of bits: numbers and bits, the 15 bit sum, chunks of eight; nothing of the program is in it. -/
import Derived.Laws.BitsAllLaws
import Derived.Laws.CopyOwn
namespace Go.Proofs.Ytimcjhnanjeloaa.Bm

def isOne (c : UInt8) : Bool := c == 49
def sign (b : Bool) : UInt8 := if b then 49 else 48
def read (l : List UInt8) : List Bool := l.map isOne
def row (bs : List Bool) : List UInt8 := bs.map sign
/-- what 'bit' answers for a byte, over Int -/
def bitI (c : Int) : Int := if c = 49 then 1 else 0
def bv (b : Bool) : Nat := if b then 1 else 0

theorem bitI_ge (c : Int) : 0 ≤ bitI c := by unfold bitI; split <;> omega
theorem bitI_le (c : Int) : bitI c ≤ 1 := by unfold bitI; split <;> omega
theorem bitI_byte (c : UInt8) : bitI (c.toNat : Int) = (bv (isOne c) : Int) := by
  unfold bitI bv isOne
  by_cases h : c = 49
  · subst h; rfl
  · have h2 : ¬ ((c.toNat : Int) = 49) := by
      intro e
      apply h
      apply UInt8.toNat_inj.1
      have : c.toNat = 49 := by omega
      rw [this]; rfl
    rw [if_neg h2]
    simp [h]
theorem bv_le (b : Bool) : bv b ≤ 1 := by cases b <;> decide

def numStep (n : Nat) (b : Bool) : Nat := (2 * n + bv b) % 18446744073709551616
def num (bs : List Bool) : Nat := bs.foldl numStep 0
theorem num_lt (bs : List Bool) : num bs < 18446744073709551616 := by
  unfold num
  rcases List.eq_nil_or_concat bs with rfl | ⟨l, b, rfl⟩
  · decide
  · rw [List.concat_eq_append, List.foldl_append]; exact Nat.mod_lt _ (by decide)
theorem num_snoc (bs : List Bool) (b : Bool) : num (bs ++ [b]) = numStep (num bs) b := by
  unfold num; rw [List.foldl_append]; rfl

theorem read_take_succ (s : ByteArray) (k : Nat) (h : k < s.size) : read (s.data.toList.take (k + 1)) = read (s.data.toList.take k) ++ [isOne s[k]] := by
  rw [List.take_succ_eq_append_getElem (by simpa using h)]
  simp only [read, List.map_append, List.map_cons, List.map_nil]
  rfl
theorem take_all (s : ByteArray) (k : Nat) (h : s.size ≤ k) : s.data.toList.take k = s.data.toList := List.take_of_length_le (by simpa using h)

/-- the walk's form of n shifted up by one -/
theorem or_step (n : Nat) (b : Bool) (_h : n < 18446744073709551616) :
    bits .or .u64 (IntKind.u64.wrap ((n : Int) * 2)) (bv b : Int) = (numStep n b : Int) := by
  have e : IntKind.u64.wrap ((n : Int) * 2) = ((n * 2 % 18446744073709551616 : Nat) : Int) := by
    rw [IntKind.wrap_u64]; omega
  have hb := bv_le b
  rw [e, u64_or_nat _ _ (Nat.mod_lt _ (by decide)) (by omega), nat_join 1 _ _ (by omega) (by omega)]
  unfold numStep
  omega

def crcStep (s : Nat) (b : Bool) : Nat := if (b != decide (16384 ≤ s)) = true then (2 * s % 32768) ^^^ 17817 else 2 * s % 32768
def crc (bs : List Bool) : Nat := bs.foldl crcStep 0
theorem crcStep_lt (s : Nat) (b : Bool) : crcStep s b < 32768 := by
  unfold crcStep
  split
  · exact Nat.xor_lt_two_pow (n := 15) (Nat.mod_lt _ (by decide)) (by decide)
  · exact Nat.mod_lt _ (by decide)
theorem crc_lt (bs : List Bool) : crc bs < 32768 := by
  unfold crc
  rcases List.eq_nil_or_concat bs with rfl | ⟨l, b, rfl⟩
  · decide
  · rw [List.concat_eq_append, List.foldl_append]; exact crcStep_lt _ _
theorem crc_snoc (bs : List Bool) (b : Bool) : crc (bs ++ [b]) = crcStep (crc bs) b := by
  unfold crc; rw [List.foldl_append]; rfl
theorem and_mask (m : Nat) (h : m < 32768) : bits .and .u16 ((m : Int) * 2) 32767 = ((2 * m % 32768 : Nat) : Int) := by
  have e : ((m : Int) * 2) = ((m * 2 : Nat) : Int) := by omega
  have e2 : (32767 : Int) = ((32767 : Nat) : Int) := rfl
  have e3 : m * 2 &&& 32767 = m * 2 % 32768 := Nat.and_two_pow_sub_one_eq_mod (m * 2) 15
  rw [e, e2, u16_and_nat _ _ (by omega) (by decide), e3]
  omega
theorem test_crc (c : UInt8) (m : Nat) (h : m < 32768) : (bitI (c.toNat : Int) != (m : Int) / 16384) = (isOne c != decide (16384 ≤ m)) := by
  rw [bitI_byte, Bool.eq_iff_iff]
  cases isOne c <;> by_cases h2 : 16384 ≤ m <;> simp [bv, h2] <;> omega
theorem crc_yes (c : UInt8) (m : Nat) (h : m < 32768) (t : (bitI (c.toNat : Int) != (m : Int) / 16384) = true) :
    bits .xor .u16 (bits .and .u16 ((m : Int) * 2) 32767) 17817 = (crcStep m (isOne c) : Int) := by
  rw [test_crc c m h] at t
  have e2 : (17817 : Int) = ((17817 : Nat) : Int) := rfl
  rw [and_mask m h, e2, u16_xor_nat _ _ (by omega) (by decide)]
  unfold crcStep
  rw [if_pos t]
theorem crc_no (c : UInt8) (m : Nat) (h : m < 32768) (t : (bitI (c.toNat : Int) != (m : Int) / 16384) = false) :
    bits .and .u16 ((m : Int) * 2) 32767 = (crcStep m (isOne c) : Int) := by
  rw [test_crc c m h] at t
  rw [and_mask m h]
  unfold crcStep
  rw [if_neg (by simp [t])]

/-- no other signs than the two -/
def signOk (c : UInt8) : Bool := c == 48 || c == 49
theorem signOk_iff (c : UInt8) : signOk c = true ↔ ((c.toNat : Int) = 48 ∨ (c.toNat : Int) = 49) := by
  unfold signOk
  have h48 : (c == 48) = true ↔ (c.toNat : Int) = 48 := by
    rw [beq_iff_eq, ← UInt8.toNat_inj]; simp; omega
  have h49 : (c == 49) = true ↔ (c.toNat : Int) = 49 := by
    rw [beq_iff_eq, ← UInt8.toNat_inj]; simp; omega
  rw [Bool.or_eq_true, h48, h49]
theorem isOne_iff (c : UInt8) : isOne c = true ↔ (c.toNat : Int) = 49 := by
  unfold isOne
  rw [beq_iff_eq, ← UInt8.toNat_inj]; simp; omega
def okAll (l : List UInt8) : Bool := l.all signOk
theorem okAll_take_succ (s : ByteArray) (k : Nat) (h : k < s.size) : okAll (s.data.toList.take (k + 1)) = (okAll (s.data.toList.take k) && signOk s[k]) := by
  unfold okAll
  rw [List.take_succ_eq_append_getElem (by simpa using h)]
  simp only [List.all_append, List.all_cons, List.all_nil, Bool.and_true]
  rfl
theorem okAll_false (s : ByteArray) (k : Nat) (h : k < s.size) (hp : signOk s[k] = false) : okAll s.data.toList = false := by
  have e := okAll_take_succ s k h
  rw [hp, Bool.and_false] at e
  unfold okAll at *
  rw [← List.take_append_drop (k + 1) s.data.toList, List.all_append, e, Bool.false_and]

/-! bits of a number -/
def ofB (n k : Nat) : List Bool := (List.range k).map fun i => n.testBit (k - 1 - i)
theorem length_ofB (n k : Nat) : (ofB n k).length = k := by simp [ofB]
def cellsOf (l : List UInt8) : List Value := l.map fun c => Value.int .u8 (c.toNat : Int)
theorem length_cellsOf (l : List UInt8) : (cellsOf l).length = l.length := by simp [cellsOf]
theorem length_row (bs : List Bool) : (row bs).length = bs.length := by simp [row]
theorem length_read (l : List UInt8) : (read l).length = l.length := by simp [read]
def octV (b : Nat) : List Value := cellsOf (row (ofB b 8))
theorem oneCell_cellsOf (l : List UInt8) : ∀ u ∈ cellsOf l, u.oneCell' = true := by
  intro u hu
  unfold cellsOf at hu
  obtain ⟨c, _, rfl⟩ := List.mem_map.1 hu
  rfl
theorem oneCell_all (l : List UInt8) : (cellsOf l).toArray.all (·.oneCell') = true := by
  rw [Array.all_eq_true']
  intro u hu
  exact oneCell_cellsOf l u (by simpa using hu)
theorem sg_eq (b d j : Nat) (hb : b < 256) (hd : d = 2 ^ j) : (48 + bits .and .u8 ((b : Int) / (d : Int)) 1) % 256 = ((sign (b.testBit j)).toNat : Int) := by
  have e : ((b : Int) / (d : Int)) = ((b / d : Nat) : Int) := by omega
  have e1 : (1 : Int) = ((1 : Nat) : Int) := rfl
  have hlt : b / d < 256 := Nat.lt_of_le_of_lt (Nat.div_le_self _ _) hb
  rw [e, e1, u8_and_nat _ _ hlt (by decide), nat_mask1]
  have t : b.testBit j = decide (b / d % 2 = 1) := by rw [Nat.testBit_eq_decide_div_mod_eq, hd]
  rw [t]
  rcases Nat.mod_two_eq_zero_or_one (b / d) with h | h <;> simp [h, sign]
theorem octV_lit (b : Nat) (hb : b < 256) : octV b = [Value.int .u8 ((48 + bits .and .u8 ((b : Int) / 128) 1) % 256), Value.int .u8 ((48 + bits .and .u8 ((b : Int) / 64) 1) % 256),
    Value.int .u8 ((48 + bits .and .u8 ((b : Int) / 32) 1) % 256), Value.int .u8 ((48 + bits .and .u8 ((b : Int) / 16) 1) % 256), Value.int .u8 ((48 + bits .and .u8 ((b : Int) / 8) 1) % 256),
    Value.int .u8 ((48 + bits .and .u8 ((b : Int) / 4) 1) % 256), Value.int .u8 ((48 + bits .and .u8 ((b : Int) / 2) 1) % 256), Value.int .u8 ((48 + bits .and .u8 (b : Int) 1) % 256)] := by
  have h7 := sg_eq b 128 7 hb rfl
  have h6 := sg_eq b 64 6 hb rfl
  have h5 := sg_eq b 32 5 hb rfl
  have h4 := sg_eq b 16 4 hb rfl
  have h3 := sg_eq b 8 3 hb rfl
  have h2 := sg_eq b 4 2 hb rfl
  have h1 := sg_eq b 2 1 hb rfl
  have h0 := sg_eq b 1 0 hb rfl
  have e0 : ((b : Int) / ((1 : Nat) : Int)) = (b : Int) := by omega
  rw [e0] at h0
  rw [show ((128 : Nat) : Int) = 128 from rfl] at h7
  rw [show ((64 : Nat) : Int) = 64 from rfl] at h6
  rw [show ((32 : Nat) : Int) = 32 from rfl] at h5
  rw [show ((16 : Nat) : Int) = 16 from rfl] at h4
  rw [show ((8 : Nat) : Int) = 8 from rfl] at h3
  rw [show ((4 : Nat) : Int) = 4 from rfl] at h2
  rw [show ((2 : Nat) : Int) = 2 from rfl] at h1
  rw [h7, h6, h5, h4, h3, h2, h1, h0]
  rfl

/-! the 64 signs of a number, eight by eight -/
def wcur (n k : Nat) : List Value := cellsOf (row ((ofB n 64).take (8 * k)) ++ List.replicate (64 - 8 * k) 0)
theorem length_wcur (n k : Nat) (h : k ≤ 8) : (wcur n k).length = 64 := by
  simp [wcur, length_cellsOf, length_row, length_ofB]; omega
theorem wcur_full (n : Nat) : wcur n 8 = cellsOf (row (ofB n 64)) := by
  unfold wcur
  rw [List.take_of_length_le (by rw [length_ofB]; decide)]
  simp
theorem testBit_byte (n m j : Nat) (hj : j < 8) : (n / 2 ^ m % 256).testBit j = n.testBit (m + j) := by
  rw [show (256 : Nat) = 2 ^ 8 from rfl, Nat.testBit_mod_two_pow, Nat.testBit_div_two_pow]
  simp [hj, Nat.add_comm]
theorem ofB_byte (n k : Nat) (hk : k < 8) : ofB (n / 2 ^ (56 - 8 * k) % 256) 8 = ((ofB n 64).drop (8 * k)).take 8 := by
  apply List.ext_getElem
  · simp [length_ofB]; omega
  · intro i h1 h2
    have hi : i < 8 := by simpa [length_ofB] using h1
    simp only [ofB, List.getElem_map, List.getElem_range, List.getElem_take, List.getElem_drop]
    rw [testBit_byte _ _ _ (by omega)]
    congr 1
    omega
theorem splice_wcur (n k : Nat) (hk : k < 8) : splice (wcur n k) (8 * k) (octV (n / 2 ^ (56 - 8 * k) % 256)) = wcur n (k + 1) := by
  have hl : (octV (n / 2 ^ (56 - 8 * k) % 256)).length = 8 := by simp [octV, length_cellsOf, length_row, length_ofB]
  have hr : (cellsOf (row ((ofB n 64).take (8 * k)))).length = 8 * k := by
    simp [length_cellsOf, length_row, length_ofB]; omega
  have e1 : (List.replicate (64 - 8 * k) (0 : UInt8)).drop 8 = List.replicate (64 - 8 * (k + 1)) 0 := by
    rw [List.drop_replicate]; congr 1
  unfold splice
  rw [hl]
  unfold wcur
  rw [show cellsOf (row ((ofB n 64).take (8 * k)) ++ List.replicate (64 - 8 * k) 0) = cellsOf (row ((ofB n 64).take (8 * k))) ++ cellsOf (List.replicate (64 - 8 * k) 0) from List.map_append]
  rw [List.take_left' hr, List.drop_append, List.drop_of_length_le (by omega), hr, List.nil_append]
  have e2 : (cellsOf (List.replicate (64 - 8 * k) (0 : UInt8))).drop (8 * k + 8 - 8 * k) = cellsOf (List.replicate (64 - 8 * (k + 1)) 0) := by
    rw [show 8 * k + 8 - 8 * k = 8 by omega]
    unfold cellsOf
    rw [← List.map_drop, e1]
  rw [e2]
  unfold octV
  rw [ofB_byte n k hk]
  rw [show 8 * (k + 1) = 8 * k + 8 by omega, List.take_add]
  simp only [cellsOf, row, List.map_append, List.append_assoc]
theorem octV_shift (n m : Nat) : octV (((n : Int) / 2 ^ m % 256).toNat) = octV (n / 2 ^ m % 256) := by
  have : ((n : Int) / 2 ^ m % 256) = ((n / 2 ^ m % 256 : Nat) : Int) := by simp
  rw [this, Int.toNat_natCast]
theorem size_octV (b : Nat) : (octV b).toArray.size = 8 := by simp [octV, length_cellsOf, length_row, length_ofB]
theorem length_octV (b : Nat) : (octV b).length = 8 := by simp [octV, length_cellsOf, length_row, length_ofB]
theorem size_wcur (n k : Nat) (h : k ≤ 8) : (wcur n k).toArray.size = 64 := by simp [length_wcur n k h]

def clamp (width : Int) : Nat := (min (max width 0) 64).toNat
theorem clamp_le (width : Int) : clamp width ≤ 64 := by unfold clamp; omega
theorem ofB_drop (n k : Nat) (h : k ≤ 64) : (ofB n 64).drop (64 - k) = ofB n k := by
  apply List.ext_getElem
  · simp [length_ofB]; omega
  · intro i h1 h2
    have hi : i < k := by simpa [length_ofB] using h2
    simp only [ofB, List.getElem_map, List.getElem_range, List.getElem_drop]
    congr 1
    omega
theorem row_drop (n k : Nat) (h : k ≤ 64) : (row (ofB n 64)).drop (64 - k) = row (ofB n k) := by
  unfold row
  rw [← List.map_drop, ofB_drop n k h]

/-! a row that is filled from its head on -/
def fillV (d : List UInt8) (m : Nat) : List Value := cellsOf (d ++ List.replicate (m - d.length) 0)
theorem length_fillV (d : List UInt8) (m : Nat) (h : d.length ≤ m) : (fillV d m).length = m := by
  simp [fillV, length_cellsOf]; omega
theorem fillV_full (d : List UInt8) (m : Nat) (h : d.length = m) : fillV d m = cellsOf d := by
  unfold fillV; rw [h]; simp
theorem fillV_get (d : List UInt8) (m : Nat) (h : d.length < m) : (fillV d m)[d.length]? = some (Value.int .u8 0) := by
  unfold fillV cellsOf
  have e : List.replicate (m - d.length) (0 : UInt8) = 0 :: List.replicate (m - d.length - 1) 0 := by
    rw [← List.replicate_succ]; congr 1; omega
  rw [e]
  simp
theorem fillV_set (d : List UInt8) (m : Nat) (c : UInt8) (h : d.length < m) : (fillV d m).toArray.setIfInBounds d.length (Value.int .u8 (c.toNat : Int)) = (fillV (d ++ [c]) m).toArray := by
  unfold fillV cellsOf
  rw [List.setIfInBounds_toArray]
  congr 1
  have e : List.replicate (m - d.length) (0 : UInt8) = 0 :: List.replicate (m - (d ++ [c]).length) 0 := by
    rw [← List.replicate_succ]; congr 1; simp; omega
  rw [e]
  simp
theorem fillV_nil (m : Nat) : (fillV [] m) = List.replicate m (Value.int .u8 0) := by
  unfold fillV cellsOf; simp
theorem sign_bit (c : UInt8) : 48 + bitI (c.toNat : Int) = ((sign (isOne c)).toNat : Int) := by
  rw [bitI_byte]; cases isOne c <;> rfl
/-- the bit at 'at' is the other one -/
def turn (bs : List Bool) (p : Int) : List Bool := if 0 ≤ p then bs.modify p.toNat not else bs
theorem length_turn (bs : List Bool) (p : Int) : (turn bs p).length = bs.length := by unfold turn; split <;> simp
theorem row_read_take_succ (s : ByteArray) (k : Nat) (h : k < s.size) : row (read (s.data.toList.take (k + 1))) = row (read (s.data.toList.take k)) ++ [sign (isOne s[k])] := by
  rw [read_take_succ s k h]; simp [row]
theorem length_rr_take (s : ByteArray) (k : Nat) (h : k ≤ s.size) : (row (read (s.data.toList.take k))).length = k := by
  simp [length_row, length_read]; exact Nat.min_eq_left h
end Go.Proofs.Ytimcjhnanjeloaa.Bm
