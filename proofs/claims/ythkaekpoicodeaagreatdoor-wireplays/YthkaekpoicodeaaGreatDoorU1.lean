/- Plain mathematics of rows of bits: numbers and bits, the 15 bit sum, chunks of eight; nothing of the program is in it. -/
import Derived.Laws.BitsAllLaws
import Derived.Laws.CopyOwn
import Derived.Lib.Strings
import Derived.Lib.SlBytesRow
namespace Go.Proofs.YthkaekpoicodeaaGreatDoor.Bm

def isOne (c : UInt8) : Bool := c == 49
def sign (b : Bool) : UInt8 := if b then 49 else 48
def read (l : List UInt8) : List Bool := l.map isOne
def row (bs : List Bool) : List UInt8 := bs.map sign
/-- what 'bit' answers for a byte, over Int -/
def bitI (c : Int) : Int := if c = 49 then 1 else 0
def bv (b : Bool) : Nat := if b then 1 else 0

theorem bitI_ge (c : Int) : 0 ≤ bitI c := by unfold bitI; split <;> omega
theorem bitI_le (c : Int) : bitI c ≤ 1 := by unfold bitI; split <;> omega
theorem bitI_byte (c : UInt8) : bitI (c.toNat : Int) = (bv (isOne c) : Int) := by
  unfold bitI bv isOne
  by_cases h : c = 49
  · subst h; rfl
  · have h2 : ¬ ((c.toNat : Int) = 49) := by
      intro e
      apply h
      apply UInt8.toNat_inj.1
      have : c.toNat = 49 := by omega
      rw [this]; rfl
    rw [if_neg h2]
    simp [h]
theorem bv_le (b : Bool) : bv b ≤ 1 := by cases b <;> decide

def numStep (n : Nat) (b : Bool) : Nat := (2 * n + bv b) % 18446744073709551616
def num (bs : List Bool) : Nat := bs.foldl numStep 0
theorem num_lt (bs : List Bool) : num bs < 18446744073709551616 := by
  unfold num
  rcases List.eq_nil_or_concat bs with rfl | ⟨l, b, rfl⟩
  · decide
  · rw [List.concat_eq_append, List.foldl_append]; exact Nat.mod_lt _ (by decide)
theorem num_snoc (bs : List Bool) (b : Bool) : num (bs ++ [b]) = numStep (num bs) b := by
  unfold num; rw [List.foldl_append]; rfl

theorem read_take_succ (s : ByteArray) (k : Nat) (h : k < s.size) : read (s.data.toList.take (k + 1)) = read (s.data.toList.take k) ++ [isOne s[k]] := by
  rw [List.take_succ_eq_append_getElem (by simpa using h)]
  simp only [read, List.map_append, List.map_cons, List.map_nil]
  rfl
theorem take_all (s : ByteArray) (k : Nat) (h : s.size ≤ k) : s.data.toList.take k = s.data.toList := List.take_of_length_le (by simpa using h)

/-- the walk's form of n shifted up by one -/
theorem or_step (n : Nat) (b : Bool) (_h : n < 18446744073709551616) :
    bits .or .u64 (IntKind.u64.wrap ((n : Int) * 2)) (bv b : Int) = (numStep n b : Int) := by
  have e : IntKind.u64.wrap ((n : Int) * 2) = ((n * 2 % 18446744073709551616 : Nat) : Int) := by
    rw [IntKind.wrap_u64]; omega
  have hb := bv_le b
  rw [e, u64_or_nat _ _ (Nat.mod_lt _ (by decide)) (by omega), nat_join 1 _ _ (by omega) (by omega)]
  unfold numStep
  omega

def crcStep (s : Nat) (b : Bool) : Nat := if (b != decide (16384 ≤ s)) = true then (2 * s % 32768) ^^^ 17817 else 2 * s % 32768
def crc (bs : List Bool) : Nat := bs.foldl crcStep 0
theorem crcStep_lt (s : Nat) (b : Bool) : crcStep s b < 32768 := by
  unfold crcStep
  split
  · exact Nat.xor_lt_two_pow (n := 15) (Nat.mod_lt _ (by decide)) (by decide)
  · exact Nat.mod_lt _ (by decide)
theorem crc_lt (bs : List Bool) : crc bs < 32768 := by
  unfold crc
  rcases List.eq_nil_or_concat bs with rfl | ⟨l, b, rfl⟩
  · decide
  · rw [List.concat_eq_append, List.foldl_append]; exact crcStep_lt _ _
theorem crc_snoc (bs : List Bool) (b : Bool) : crc (bs ++ [b]) = crcStep (crc bs) b := by
  unfold crc; rw [List.foldl_append]; rfl
theorem and_mask (m : Nat) (h : m < 32768) : bits .and .u16 ((m : Int) * 2) 32767 = ((2 * m % 32768 : Nat) : Int) := by
  have e : ((m : Int) * 2) = ((m * 2 : Nat) : Int) := by omega
  have e2 : (32767 : Int) = ((32767 : Nat) : Int) := rfl
  have e3 : m * 2 &&& 32767 = m * 2 % 32768 := Nat.and_two_pow_sub_one_eq_mod (m * 2) 15
  rw [e, e2, u16_and_nat _ _ (by omega) (by decide), e3]
  omega
theorem test_crc (c : UInt8) (m : Nat) (h : m < 32768) : (bitI (c.toNat : Int) != (m : Int) / 16384) = (isOne c != decide (16384 ≤ m)) := by
  rw [bitI_byte, Bool.eq_iff_iff]
  cases isOne c <;> by_cases h2 : 16384 ≤ m <;> simp [bv, h2] <;> omega
theorem crc_yes (c : UInt8) (m : Nat) (h : m < 32768) (t : (bitI (c.toNat : Int) != (m : Int) / 16384) = true) :
    bits .xor .u16 (bits .and .u16 ((m : Int) * 2) 32767) 17817 = (crcStep m (isOne c) : Int) := by
  rw [test_crc c m h] at t
  have e2 : (17817 : Int) = ((17817 : Nat) : Int) := rfl
  rw [and_mask m h, e2, u16_xor_nat _ _ (by omega) (by decide)]
  unfold crcStep
  rw [if_pos t]
theorem crc_no (c : UInt8) (m : Nat) (h : m < 32768) (t : (bitI (c.toNat : Int) != (m : Int) / 16384) = false) :
    bits .and .u16 ((m : Int) * 2) 32767 = (crcStep m (isOne c) : Int) := by
  rw [test_crc c m h] at t
  rw [and_mask m h]
  unfold crcStep
  rw [if_neg (by simp [t])]

/-- no other signs than the two -/
def signOk (c : UInt8) : Bool := c == 48 || c == 49
theorem isOne_iff (c : UInt8) : isOne c = true ↔ (c.toNat : Int) = 49 := by
  unfold isOne
  rw [beq_iff_eq, ← UInt8.toNat_inj]; simp; omega
def okAll (l : List UInt8) : Bool := l.all signOk
/-! bits of a number -/
def ofB (n k : Nat) : List Bool := (List.range k).map fun i => n.testBit (k - 1 - i)
theorem length_ofB (n k : Nat) : (ofB n k).length = k := by simp [ofB]
def cellsOf (l : List UInt8) : List Value := l.map fun c => Value.int .u8 (c.toNat : Int)
theorem length_cellsOf (l : List UInt8) : (cellsOf l).length = l.length := by simp [cellsOf]
theorem length_row (bs : List Bool) : (row bs).length = bs.length := by simp [row]
theorem length_read (l : List UInt8) : (read l).length = l.length := by simp [read]
def octV (b : Nat) : List Value := cellsOf (row (ofB b 8))
theorem oneCell_cellsOf (l : List UInt8) : ∀ u ∈ cellsOf l, u.oneCell' = true := by
  intro u hu
  unfold cellsOf at hu
  obtain ⟨c, _, rfl⟩ := List.mem_map.1 hu
  rfl
theorem oneCell_all (l : List UInt8) : (cellsOf l).toArray.all (·.oneCell') = true := by
  rw [Array.all_eq_true']
  intro u hu
  exact oneCell_cellsOf l u (by simpa using hu)
theorem sg_eq (b d j : Nat) (hb : b < 256) (hd : d = 2 ^ j) : (48 + bits .and .u8 ((b : Int) / (d : Int)) 1) % 256 = ((sign (b.testBit j)).toNat : Int) := by
  have e : ((b : Int) / (d : Int)) = ((b / d : Nat) : Int) := by omega
  have e1 : (1 : Int) = ((1 : Nat) : Int) := rfl
  have hlt : b / d < 256 := Nat.lt_of_le_of_lt (Nat.div_le_self _ _) hb
  rw [e, e1, u8_and_nat _ _ hlt (by decide), nat_mask1]
  have t : b.testBit j = decide (b / d % 2 = 1) := by rw [Nat.testBit_eq_decide_div_mod_eq, hd]
  rw [t]
  rcases Nat.mod_two_eq_zero_or_one (b / d) with h | h <;> simp [h, sign]
theorem octV_lit (b : Nat) (hb : b < 256) : octV b = [Value.int .u8 ((48 + bits .and .u8 ((b : Int) / 128) 1) % 256), Value.int .u8 ((48 + bits .and .u8 ((b : Int) / 64) 1) % 256),
    Value.int .u8 ((48 + bits .and .u8 ((b : Int) / 32) 1) % 256), Value.int .u8 ((48 + bits .and .u8 ((b : Int) / 16) 1) % 256), Value.int .u8 ((48 + bits .and .u8 ((b : Int) / 8) 1) % 256),
    Value.int .u8 ((48 + bits .and .u8 ((b : Int) / 4) 1) % 256), Value.int .u8 ((48 + bits .and .u8 ((b : Int) / 2) 1) % 256), Value.int .u8 ((48 + bits .and .u8 (b : Int) 1) % 256)] := by
  have h7 := sg_eq b 128 7 hb rfl
  have h6 := sg_eq b 64 6 hb rfl
  have h5 := sg_eq b 32 5 hb rfl
  have h4 := sg_eq b 16 4 hb rfl
  have h3 := sg_eq b 8 3 hb rfl
  have h2 := sg_eq b 4 2 hb rfl
  have h1 := sg_eq b 2 1 hb rfl
  have h0 := sg_eq b 1 0 hb rfl
  have e0 : ((b : Int) / ((1 : Nat) : Int)) = (b : Int) := by omega
  rw [e0] at h0
  rw [show ((128 : Nat) : Int) = 128 from rfl] at h7
  rw [show ((64 : Nat) : Int) = 64 from rfl] at h6
  rw [show ((32 : Nat) : Int) = 32 from rfl] at h5
  rw [show ((16 : Nat) : Int) = 16 from rfl] at h4
  rw [show ((8 : Nat) : Int) = 8 from rfl] at h3
  rw [show ((4 : Nat) : Int) = 4 from rfl] at h2
  rw [show ((2 : Nat) : Int) = 2 from rfl] at h1
  rw [h7, h6, h5, h4, h3, h2, h1, h0]
  rfl

/-! the 64 signs of a number, eight by eight -/
def wcur (n k : Nat) : List Value := cellsOf (row ((ofB n 64).take (8 * k)) ++ List.replicate (64 - 8 * k) 0)
theorem length_wcur (n k : Nat) (h : k ≤ 8) : (wcur n k).length = 64 := by
  simp [wcur, length_cellsOf, length_row, length_ofB]; omega
theorem wcur_full (n : Nat) : wcur n 8 = cellsOf (row (ofB n 64)) := by
  unfold wcur
  rw [List.take_of_length_le (by rw [length_ofB]; decide)]
  simp
theorem testBit_byte (n m j : Nat) (hj : j < 8) : (n / 2 ^ m % 256).testBit j = n.testBit (m + j) := by
  rw [show (256 : Nat) = 2 ^ 8 from rfl, Nat.testBit_mod_two_pow, Nat.testBit_div_two_pow]
  simp [hj, Nat.add_comm]
theorem ofB_byte (n k : Nat) (hk : k < 8) : ofB (n / 2 ^ (56 - 8 * k) % 256) 8 = ((ofB n 64).drop (8 * k)).take 8 := by
  apply List.ext_getElem
  · simp [length_ofB]; omega
  · intro i h1 h2
    have hi : i < 8 := by simpa [length_ofB] using h1
    simp only [ofB, List.getElem_map, List.getElem_range, List.getElem_take, List.getElem_drop]
    rw [testBit_byte _ _ _ (by omega)]
    congr 1
    omega
theorem splice_wcur (n k : Nat) (hk : k < 8) : splice (wcur n k) (8 * k) (octV (n / 2 ^ (56 - 8 * k) % 256)) = wcur n (k + 1) := by
  have hl : (octV (n / 2 ^ (56 - 8 * k) % 256)).length = 8 := by simp [octV, length_cellsOf, length_row, length_ofB]
  have hr : (cellsOf (row ((ofB n 64).take (8 * k)))).length = 8 * k := by
    simp [length_cellsOf, length_row, length_ofB]; omega
  have e1 : (List.replicate (64 - 8 * k) (0 : UInt8)).drop 8 = List.replicate (64 - 8 * (k + 1)) 0 := by
    rw [List.drop_replicate]; congr 1
  unfold splice
  rw [hl]
  unfold wcur
  rw [show cellsOf (row ((ofB n 64).take (8 * k)) ++ List.replicate (64 - 8 * k) 0) = cellsOf (row ((ofB n 64).take (8 * k))) ++ cellsOf (List.replicate (64 - 8 * k) 0) from List.map_append]
  rw [List.take_left' hr, List.drop_append, List.drop_of_length_le (by omega), hr, List.nil_append]
  have e2 : (cellsOf (List.replicate (64 - 8 * k) (0 : UInt8))).drop (8 * k + 8 - 8 * k) = cellsOf (List.replicate (64 - 8 * (k + 1)) 0) := by
    rw [show 8 * k + 8 - 8 * k = 8 by omega]
    unfold cellsOf
    rw [← List.map_drop, e1]
  rw [e2]
  unfold octV
  rw [ofB_byte n k hk]
  rw [show 8 * (k + 1) = 8 * k + 8 by omega, List.take_add]
  simp only [cellsOf, row, List.map_append, List.append_assoc]
theorem octV_shift (n m : Nat) : octV (((n : Int) / 2 ^ m % 256).toNat) = octV (n / 2 ^ m % 256) := by
  have : ((n : Int) / 2 ^ m % 256) = ((n / 2 ^ m % 256 : Nat) : Int) := by simp
  rw [this, Int.toNat_natCast]
theorem size_octV (b : Nat) : (octV b).toArray.size = 8 := by simp [octV, length_cellsOf, length_row, length_ofB]
theorem length_octV (b : Nat) : (octV b).length = 8 := by simp [octV, length_cellsOf, length_row, length_ofB]
theorem size_wcur (n k : Nat) (h : k ≤ 8) : (wcur n k).toArray.size = 64 := by simp [length_wcur n k h]

def clamp (width : Int) : Nat := (min (max width 0) 64).toNat
theorem clamp_le (width : Int) : clamp width ≤ 64 := by unfold clamp; omega
theorem ofB_drop (n k : Nat) (h : k ≤ 64) : (ofB n 64).drop (64 - k) = ofB n k := by
  apply List.ext_getElem
  · simp [length_ofB]; omega
  · intro i h1 h2
    have hi : i < k := by simpa [length_ofB] using h2
    simp only [ofB, List.getElem_map, List.getElem_range, List.getElem_drop]
    congr 1
    omega
theorem row_drop (n k : Nat) (h : k ≤ 64) : (row (ofB n 64)).drop (64 - k) = row (ofB n k) := by
  unfold row
  rw [← List.map_drop, ofB_drop n k h]

/-! a row that is filled from its head on -/
def fillV (d : List UInt8) (m : Nat) : List Value := cellsOf (d ++ List.replicate (m - d.length) 0)
theorem length_fillV (d : List UInt8) (m : Nat) (h : d.length ≤ m) : (fillV d m).length = m := by
  simp [fillV, length_cellsOf]; omega
theorem fillV_full (d : List UInt8) (m : Nat) (h : d.length = m) : fillV d m = cellsOf d := by
  unfold fillV; rw [h]; simp
theorem fillV_get (d : List UInt8) (m : Nat) (h : d.length < m) : (fillV d m)[d.length]? = some (Value.int .u8 0) := by
  unfold fillV cellsOf
  have e : List.replicate (m - d.length) (0 : UInt8) = 0 :: List.replicate (m - d.length - 1) 0 := by
    rw [← List.replicate_succ]; congr 1; omega
  rw [e]
  simp
theorem fillV_set (d : List UInt8) (m : Nat) (c : UInt8) (h : d.length < m) : (fillV d m).toArray.setIfInBounds d.length (Value.int .u8 (c.toNat : Int)) = (fillV (d ++ [c]) m).toArray := by
  unfold fillV cellsOf
  rw [List.setIfInBounds_toArray]
  congr 1
  have e : List.replicate (m - d.length) (0 : UInt8) = 0 :: List.replicate (m - (d ++ [c]).length) 0 := by
    rw [← List.replicate_succ]; congr 1; simp; omega
  rw [e]
  simp
theorem fillV_nil (m : Nat) : (fillV [] m) = List.replicate m (Value.int .u8 0) := by
  unfold fillV cellsOf; simp
/-- the bit at 'at' is the other one -/
def turn (bs : List Bool) (p : Int) : List Bool := if 0 ≤ p then bs.modify p.toNat not else bs
end Go.Proofs.YthkaekpoicodeaaGreatDoor.Bm
/- Plain mathematics of bits laid between: what is laid, what is taken away, runs of bits alike; nothing of the program is in it. -/
namespace Go.Proofs.YthkaekpoicodeaaGreatDoor.Sm

/-- how many bits alike a row ends with, and which bit -/
def step (r : Nat × Bool) (c : Bool) : Nat × Bool := if 0 < r.1 ∧ r.2 = c then (r.1 + 1, c) else (1, c)
def run (r : Nat × Bool) (bs : List Bool) : Nat × Bool := bs.foldl step r
/-- bits laid between, 'o' being what stands already -/
def stB : Nat × Bool → List Bool → List Bool → List Bool
  | _, o, [] => o
  | r, o, c :: t => if (step r c).1 = 5 then stB (1, !c) (o ++ [c, !c]) t else stB (step r c) (o ++ [c]) t
def stuff (bs : List Bool) : List Bool := stB (0, false) [] bs
/-- bits taken away; the place of the sixth alike, or -1 -/
def unB : Nat × Bool → List Bool → Nat → List Bool → List Bool × Int
  | _, o, _, [] => (o, -1)
  | r, o, i, c :: t => if (step r c).1 = 6 then (o, (i : Int)) else unB (step r c) (if r.1 = 5 then o else o ++ [c]) (i + 1) t
def unstuff (bs : List Bool) : List Bool × Int := unB (0, false) [] 0 bs
def next (bs : List Bool) : Int := if 0 ≤ (unstuff bs).2 then -2 else if (run (0, false) bs).1 = 5 then (if (run (0, false) bs).2 = true then 0 else 1) else -1
def most (n : Nat) : Nat := if n < 5 then n else n + 1 + (n - 5) / 4

theorem step_snd (r : Nat × Bool) (c : Bool) : (step r c).2 = c := by unfold step; split <;> rfl
theorem step_pos (r : Nat × Bool) (c : Bool) : 0 < (step r c).1 := by unfold step; split <;> simp
theorem step_le (r : Nat × Bool) (c : Bool) : (step r c).1 ≤ r.1 + 1 := by unfold step; split <;> simp
theorem run_nil (r : Nat × Bool) : run r [] = r := rfl
theorem run_cons (r : Nat × Bool) (c : Bool) (t : List Bool) : run r (c :: t) = run (step r c) t := rfl
theorem run_append (r : Nat × Bool) (a b : List Bool) : run r (a ++ b) = run (run r a) b := by unfold run; rw [List.foldl_append]

/-- what stands already stays ahead -/
theorem stB_out (bs : List Bool) : ∀ r o, stB r o bs = o ++ stB r [] bs := by
  induction bs with
  | nil => intro r o; simp [stB]
  | cons c t ih =>
    intro r o
    unfold stB
    split
    · rw [ih (1, !c) (o ++ [c, !c]), ih (1, !c) ([] ++ [c, !c])]; simp
    · rw [ih (step r c) (o ++ [c]), ih (step r c) ([] ++ [c])]; simp
theorem stB_cons5 (r : Nat × Bool) (c : Bool) (t : List Bool) (h : (step r c).1 = 5) : stB r [] (c :: t) = c :: (!c) :: stB (1, !c) [] t := by
  have e : stB r [] (c :: t) = stB (1, !c) ([] ++ [c, !c]) t := by conv => lhs; unfold stB; rw [if_pos h]
  rw [e, stB_out]; rfl
theorem stB_cons (r : Nat × Bool) (c : Bool) (t : List Bool) (h : (step r c).1 ≠ 5) : stB r [] (c :: t) = c :: stB (step r c) [] t := by
  have e : stB r [] (c :: t) = stB (step r c) ([] ++ [c]) t := by conv => lhs; unfold stB; rw [if_neg h]
  rw [e, stB_out]; rfl
/-- the state behind a row that was laid between -/
def stS : Nat × Bool → List Bool → Nat × Bool
  | r, [] => r
  | r, c :: t => if (step r c).1 = 5 then stS (1, !c) t else stS (step r c) t
theorem stB_append (a b : List Bool) : ∀ r, stB r [] (a ++ b) = stB r [] a ++ stB (stS r a) [] b := by
  induction a with
  | nil => intro r; simp [stB, stS]
  | cons c t ih =>
    intro r
    by_cases h : (step r c).1 = 5
    · rw [List.cons_append, stB_cons5 r c _ h, stB_cons5 r c _ h, ih]
      conv => rhs; unfold stS; rw [if_pos h]
      rfl
    · rw [List.cons_append, stB_cons r c _ h, stB_cons r c _ h, ih]
      conv => rhs; unfold stS; rw [if_neg h]
      rfl

theorem step_other (c : Bool) (n : Nat) (b : Bool) (h : b = c) : step (n, b) (!c) = (1, !c) := by
  unfold step; rw [if_neg]; intro h2; subst h; have := h2.2; revert this; cases b <;> simp

/-- taking away: what stands already stays ahead, the places count on -/
theorem unB_out (bs : List Bool) : ∀ r o i, unB r o i bs = (o ++ (unB r [] i bs).1, (unB r [] i bs).2) := by
  induction bs with
  | nil => intro r o i; simp [unB]
  | cons c t ih =>
    intro r o i
    by_cases h : (step r c).1 = 6
    · unfold unB; rw [if_pos h, if_pos h]; simp
    · conv => lhs; unfold unB; rw [if_neg h]
      conv => rhs; unfold unB; rw [if_neg h]
      by_cases h5 : r.1 = 5
      · rw [if_pos h5, if_pos h5]; exact ih _ _ _
      · rw [if_neg h5, if_neg h5, ih _ (o ++ [c]), ih _ ([] ++ [c])]; simp

/-- lengths -/
theorem stB_len_ge (bs : List Bool) : ∀ r, bs.length ≤ (stB r [] bs).length := by
  induction bs with
  | nil => intro r; simp
  | cons c t ih =>
    intro r
    by_cases h : (step r c).1 = 5
    · rw [stB_cons5 r c t h]; have := ih (1, !c); simp; omega
    · rw [stB_cons r c t h]; have := ih (step r c); simp; omega
/-- from a state of n bits alike (n from 1 to 4) at most (m + n - 1) / 4 are laid -/
theorem stB_len_le (bs : List Bool) : ∀ (r : Nat × Bool), 0 < r.1 → r.1 < 5 → (stB r [] bs).length ≤ bs.length + (bs.length + r.1 - 1) / 4 := by
  induction bs with
  | nil => intro r h1 h2; simp [stB]
  | cons c t ih =>
    intro r h1 h2
    have hle := step_le r c
    have hp := step_pos r c
    by_cases h : (step r c).1 = 5
    · rw [stB_cons5 r c t h]
      have h3 := ih (1, !c) (by simp) (by simp)
      simp only [List.length_cons] at *
      simp at h3
      omega
    · rw [stB_cons r c t h]
      have h3 := ih (step r c) hp (by omega)
      simp only [List.length_cons] at *
      omega
theorem stuff_len_le (bs : List Bool) : (stuff bs).length ≤ most bs.length := by
  unfold stuff most
  cases bs with
  | nil => simp [stB]
  | cons c t =>
    have hs : step (0, false) c = (1, c) := by unfold step; rw [if_neg (by simp)]
    rw [stB_cons _ c t (by rw [hs]; simp), hs]
    have h3 := stB_len_le t (1, c) (by simp) (by simp)
    simp only [List.length_cons] at *
    simp at h3
    split <;> omega
theorem stuff_len_ge (bs : List Bool) : bs.length ≤ (stuff bs).length := stB_len_ge bs _

/-- no six alike: the run within what was laid between stays below six -/
def calm (r : Nat × Bool) (bs : List Bool) : Prop := ∀ k, (run r (bs.take k)).1 ≤ 5
/-- in a calm row nothing is told -/
theorem un_calm (bs : List Bool) : ∀ r o i, calm r bs → (unB r o i bs).2 = -1 := by
  induction bs with
  | nil => intro r o i _; rfl
  | cons c t ih =>
    intro r o i h
    have h1 := h 1
    rw [List.take_succ_cons, List.take_zero, run_cons, run_nil] at h1
    unfold unB
    rw [if_neg (by omega)]
    exact ih _ _ _ (fun k => by have := h (k + 1); rwa [List.take_succ_cons, run_cons] at this)
end Go.Proofs.YthkaekpoicodeaaGreatDoor.Sm
/- More plain mathematics of bits laid between: what each statement of the layer asks; nothing of the program is in it. -/
namespace Go.Proofs.YthkaekpoicodeaaGreatDoor.Sm

theorem calm_run {r : Nat × Bool} {a : List Bool} (h : calm r a) : (run r a).1 ≤ 5 := by
  have := h a.length
  rwa [List.take_of_length_le (Nat.le_refl _)] at this
theorem calm_tail {r : Nat × Bool} {c : Bool} {t : List Bool} (h : calm r (c :: t)) : calm (step r c) t := fun k => by
  have := h (k + 1); rwa [List.take_succ_cons, run_cons] at this

/-- taking away goes on behind a calm row -/
theorem un_append (a b : List Bool) : ∀ r o i, calm r a → unB r o i (a ++ b) = unB (run r a) (unB r o i a).1 (i + a.length) b := by
  induction a with
  | nil => intro r o i _; rfl
  | cons c t ih =>
    intro r o i h
    have h1 := calm_tail h 0
    have h1' : (step r c).1 ≤ 5 := h1
    rw [List.cons_append, run_cons]
    conv => lhs; unfold unB; rw [if_neg (by omega)]
    have e : unB r o i (c :: t) = unB (step r c) (if r.1 = 5 then o else o ++ [c]) (i + 1) t := by conv => lhs; unfold unB; rw [if_neg (by omega)]
    rw [e, ih _ _ _ (calm_tail h), List.length_cons, show i + 1 + t.length = i + (t.length + 1) by omega]
theorem next_six (bs : List Bool) (h : 0 ≤ (unstuff bs).2) : next bs = -2 := by unfold next; rw [if_pos h]

/-- the opposite bits -/
def neg (r : Nat × Bool) : Nat × Bool := (r.1, !r.2)
/-- rows in which no five are alike -/
def low (r : Nat × Bool) (bs : List Bool) : Prop := ∀ k, (run r (bs.take k)).1 < 5
def quiet (l : List Bool) : List Bool := l.flatMap fun b => if b then [false, true, true] else [false, true]
/-- rows that make most bits be laid -/
def worst (c : Bool) (n : Nat) : List Bool := (List.range n).map fun i => if i < 5 ∨ (i - 5) / 4 % 2 = 1 then c else !c
end Go.Proofs.YthkaekpoicodeaaGreatDoor.Sm
/- More plain mathematics of rows of bits: a bit turned, both rows, eight by eight; nothing of the program is in it. -/
namespace Go.Proofs.YthkaekpoicodeaaGreatDoor.Bm

/-- the k-th byte of a row of bits -/
def byteAt (bs : List Bool) (k : Nat) : UInt8 := UInt8.ofNat (num ((bs.drop (8 * k)).take 8))
def bytesTo (bs : List Bool) (k : Nat) : List UInt8 := (List.range k).map (byteAt bs)
def bytes (bs : List Bool) : List UInt8 := bytesTo bs (bs.length / 8)
theorem length_bytesTo (bs : List Bool) (k : Nat) : (bytesTo bs k).length = k := by simp [bytesTo]
theorem bytesTo_succ (bs : List Bool) (k : Nat) : bytesTo bs (k + 1) = bytesTo bs k ++ [byteAt bs k] := by simp [bytesTo, List.range_succ]
theorem read_window (l : List UInt8) (k : Nat) : read ((l.drop (8 * k)).take 8) = ((read l).drop (8 * k)).take 8 := by
  unfold read
  rw [List.map_take, List.map_drop]
theorem byteAt_val (bs : List Bool) (k : Nat) : ((num ((bs.drop (8 * k)).take 8) : Nat) : Int) % 256 = ((byteAt bs k).toNat : Int) := by
  unfold byteAt
  simp

/-- the bits of bytes -/
def fromB (l : List UInt8) : List Bool := l.flatMap fun c => ofB c.toNat 8
theorem fromB_snoc (l : List UInt8) (c : UInt8) : fromB (l ++ [c]) = fromB l ++ ofB c.toNat 8 := by simp [fromB]
theorem length_fromB (l : List UInt8) : (fromB l).length = 8 * l.length := by
  induction l with
  | nil => rfl
  | cons c r ih =>
    have e : fromB (c :: r) = ofB c.toNat 8 ++ fromB r := by simp [fromB]
    rw [e, List.length_append, ih, length_ofB, List.length_cons]
    omega
theorem take_snoc (s : ByteArray) (k : Nat) (h : k < s.size) : s.data.toList.take (k + 1) = s.data.toList.take k ++ [s[k]] := by
  rw [List.take_succ_eq_append_getElem (by simpa using h)]; rfl
theorem length_from_take (s : ByteArray) (k : Nat) (h : k ≤ s.size) : (row (fromB (s.data.toList.take k))).length = 8 * k := by
  rw [length_row, length_fromB, List.length_take]
  have : s.data.toList.length = s.size := by simp
  omega
theorem splice_from (s : ByteArray) (k : Nat) (h : k < s.size) : splice (fillV (row (fromB (s.data.toList.take k))) (8 * s.size)) (8 * k) (octV s[k].toNat) = fillV (row (fromB (s.data.toList.take (k + 1)))) (8 * s.size) := by
  have hr : (cellsOf (row (fromB (s.data.toList.take k)))).length = 8 * k := by rw [length_cellsOf, length_from_take s k (by omega)]
  have hl : (octV s[k].toNat).length = 8 := by simp [octV, length_cellsOf, length_row, length_ofB]
  have e1 : (List.replicate (8 * s.size - 8 * k) (0 : UInt8)).drop 8 = List.replicate (8 * s.size - 8 * (k + 1)) 0 := by
    rw [List.drop_replicate]; congr 1
  unfold splice
  rw [hl]
  unfold fillV
  rw [length_from_take s k (by omega), length_from_take s (k + 1) (by omega)]
  rw [show cellsOf (row (fromB (s.data.toList.take k)) ++ List.replicate (8 * s.size - 8 * k) 0) = cellsOf (row (fromB (s.data.toList.take k))) ++ cellsOf (List.replicate (8 * s.size - 8 * k) 0) from List.map_append]
  rw [List.take_left' hr, List.drop_append, List.drop_of_length_le (by omega), hr, List.nil_append]
  have e2 : (cellsOf (List.replicate (8 * s.size - 8 * k) (0 : UInt8))).drop (8 * k + 8 - 8 * k) = cellsOf (List.replicate (8 * s.size - 8 * (k + 1)) 0) := by
    rw [show 8 * k + 8 - 8 * k = 8 by omega]
    unfold cellsOf
    rw [← List.map_drop, e1]
  rw [e2, take_snoc s k h, fromB_snoc]
  unfold octV
  simp only [cellsOf, row, List.map_append, List.append_assoc]
theorem fillV_from (s : ByteArray) (k : Nat) (h : s.size ≤ k) : fillV (row (fromB (s.data.toList.take k))) (8 * s.size) = cellsOf (row (fromB s.data.toList)) := by
  rw [take_all s k h, fillV_full]
  rw [length_row, length_fromB]
  have : s.data.toList.length = s.size := by simp
  omega

/-- both rows, bit by bit -/
def both (a b : List Bool) : List Bool := List.zipWith (· && ·) a b
theorem length_both (a b : List Bool) : (both a b).length = min a.length b.length := by simp [both]
theorem and_bits (c d : UInt8) : 48 + bits .and .u8 (bitI (c.toNat : Int)) (bitI (d.toNat : Int)) = ((sign (isOne c && isOne d)).toNat : Int) := by
  rw [bitI_byte, bitI_byte]
  cases isOne c <;> cases isOne d <;> decide
theorem and_wrap (c d : UInt8) : IntKind.u8.wrap (48 + bits .and .u8 (bitI (c.toNat : Int)) (bitI (d.toNat : Int))) = ((sign (isOne c && isOne d)).toNat : Int) := by
  rw [and_bits]
  cases (isOne c && isOne d) <;> decide
theorem both_take_succ (s t : ByteArray) (k : Nat) (h : k < s.size) (g : k < t.size) : row (both (read (s.data.toList.take (k + 1))) (read (t.data.toList.take (k + 1)))) = row (both (read (s.data.toList.take k)) (read (t.data.toList.take k))) ++ [sign (isOne s[k] && isOne t[k])] := by
  rw [read_take_succ s k h, read_take_succ t k g]
  unfold both row
  rw [List.zipWith_append (by simp [length_read]; omega)]
  simp
theorem length_both_take (s t : ByteArray) (k : Nat) (h : k ≤ s.size) (g : k ≤ t.size) : (row (both (read (s.data.toList.take k)) (read (t.data.toList.take k)))).length = k := by
  have h1 : s.data.toList.length = s.size := by simp
  have h2 : t.data.toList.length = t.size := by simp
  rw [length_row, length_both, length_read, length_read, List.length_take, List.length_take]
  omega
theorem both_take_all (s t : ByteArray) : both (read (s.data.toList.take (min s.size t.size))) (read (t.data.toList.take (min s.size t.size))) = both (read s.data.toList) (read t.data.toList) := by
  have h1 : s.data.toList.length = s.size := by simp
  have h2 : t.data.toList.length = t.size := by simp
  have e : min s.size t.size = min (read s.data.toList).length (read t.data.toList).length := by rw [length_read, length_read, h1, h2]
  unfold both
  unfold read at *
  rw [List.map_take, List.map_take, e]
  apply List.ext_getElem?
  intro i
  simp only [List.getElem?_zipWith, List.getElem?_take]
  by_cases hi : i < min (List.map isOne s.data.toList).length (List.map isOne t.data.toList).length
  · simp only [hi, if_true]
  · simp only [hi, if_false]
    have : (List.map isOne s.data.toList)[i]? = none ∨ (List.map isOne t.data.toList)[i]? = none := by
      rcases Nat.lt_or_ge i (List.map isOne s.data.toList).length with h | h
      · right; rw [List.getElem?_eq_none_iff]; omega
      · left; rw [List.getElem?_eq_none_iff]; omega
    rcases this with h | h
    · rw [h]
    · rw [h]; cases (List.map isOne s.data.toList)[i]? <;> rfl
end Go.Proofs.YthkaekpoicodeaaGreatDoor.Bm
/- Plain mathematics of the 15 bit sum and of numbers as bits; nothing of the program is in it. -/
namespace Go.Proofs.YthkaekpoicodeaaGreatDoor.Bm

theorem isOne_sign (b : Bool) : isOne (sign b) = b := by cases b <;> rfl
theorem read_row (bs : List Bool) : read (row bs) = bs := by
  unfold read row
  rw [List.map_map]
  have : (isOne ∘ sign) = id := funext isOne_sign
  rw [this, List.map_id]
/-! the sum is linear -/
def poly (b : Bool) : Nat := if b then 17817 else 0
def crcFrom (s : Nat) (bs : List Bool) : Nat := bs.foldl crcStep s
/-! a row with its sum behind it -/
theorem crc_append (as bs : List Bool) : crc (as ++ bs) = crcFrom (crc as) bs := by unfold crc crcFrom; rw [List.foldl_append]
end Go.Proofs.YthkaekpoicodeaaGreatDoor.Bm
/- Plain mathematics of a turned bit, of numbers read back and of bytes read back; nothing of the program is in it. -/
namespace Go.Proofs.YthkaekpoicodeaaGreatDoor.Bm

def unit (L i : Nat) : List Bool := (List.range L).map fun j => decide (j = i)
def sums127 : List Nat := (List.range 127).map fun i => crc (unit 127 i)
/-! numbers read back -/
theorem ofB_snoc (n k : Nat) : ofB n (k + 1) = ofB (n / 2) k ++ [n.testBit 0] := by
  unfold ofB
  rw [List.range_succ, List.map_append]
  congr 1
  · apply List.map_congr_left
    intro i hi
    have h : i < k := List.mem_range.1 hi
    rw [Nat.testBit_div_two]
    congr 1
    omega
  · simp
theorem num_ofB (k : Nat) : k ≤ 64 → ∀ n, num (ofB n k) = n % 2 ^ k := by
  induction k with
  | zero => intro _ n; simp [ofB, num, Nat.mod_one]
  | succ k ih =>
    intro hk n
    rw [ofB_snoc, num_snoc, ih (by omega)]
    unfold numStep
    have hb : bv (n.testBit 0) = n % 2 := by
      rw [Nat.testBit_zero]
      rcases Nat.mod_two_eq_zero_or_one n with h | h <;> simp [h, bv]
    rw [hb]
    have e : n % 2 ^ (k + 1) = 2 * (n / 2 % 2 ^ k) + n % 2 := by
      rw [Nat.pow_succ, Nat.mul_comm (2 ^ k) 2, Nat.mod_mul]
      omega
    rw [← e]
    apply Nat.mod_eq_of_lt
    have h1 : n % 2 ^ (k + 1) < 2 ^ (k + 1) := Nat.mod_lt _ (Nat.two_pow_pos _)
    have h2 : 2 ^ (k + 1) ≤ 2 ^ 64 := Nat.pow_le_pow_right (by decide) hk
    have h3 : (2 : Nat) ^ 64 = 18446744073709551616 := by decide
    omega
theorem both_self (bs : List Bool) : both bs bs = bs := by
  unfold both
  apply List.ext_getElem
  · simp
  · intro j h1 h2
    rw [List.getElem_zipWith]
    simp

/-! bytes read back -/
theorem byteAt_zero (c : UInt8) (r : List Bool) : byteAt (ofB c.toNat 8 ++ r) 0 = c := by
  unfold byteAt
  rw [Nat.mul_zero, List.drop_zero, List.take_left' (length_ofB _ _), num_ofB 8 (by decide)]
  have h : c.toNat % 2 ^ 8 = c.toNat := Nat.mod_eq_of_lt c.toNat_lt
  rw [h]
  simp
theorem byteAt_succ (x r : List Bool) (hx : x.length = 8) (i : Nat) : byteAt (x ++ r) (i + 1) = byteAt r i := by
  unfold byteAt
  rw [List.drop_append, List.drop_of_length_le (by omega), List.nil_append, hx, show 8 * (i + 1) - 8 = 8 * i by omega]
theorem bytes_fromB (l : List UInt8) : bytes (fromB l) = l := by
  have key : ∀ l : List UInt8, bytesTo (fromB l) l.length = l := by
    intro l
    induction l with
    | nil => rfl
    | cons c r ih =>
      have e : fromB (c :: r) = ofB c.toNat 8 ++ fromB r := by simp [fromB]
      rw [e]
      unfold bytesTo at *
      rw [List.length_cons, List.range_succ_eq_map, List.map_cons, List.map_map, byteAt_zero]
      rw [show (byteAt (ofB c.toNat 8 ++ fromB r) ∘ Nat.succ) = byteAt (fromB r) from funext fun i => byteAt_succ _ _ (length_ofB _ _) i]
      rw [ih]
  unfold bytes
  rw [length_fromB, Nat.mul_div_cancel_left _ (by decide)]
  exact key l
end Go.Proofs.YthkaekpoicodeaaGreatDoor.Bm
/- Plain mathematics of frames: whether it is one, its bits, its order, its text, what a row of bits begins with; nothing of the program is in it. -/
namespace Go.Proofs.YthkaekpoicodeaaGreatDoor.Fm
open Go.Proofs.YthkaekpoicodeaaGreatDoor.Bm

def top (x : Bool) : Nat := if x then 536870912 else 2048
def isF (x : Bool) (n : Nat) (r : Bool) (d : List UInt8) : Bool := decide (n < top x) && (decide (d.length ≤ 8) && (!r || d.isEmpty))
def arb0 (x : Bool) (n : Nat) (r : Bool) : List Bool := if x then false :: (ofB (n / 262144) 11 ++ (true :: true :: (ofB n 18 ++ [r]))) else false :: (ofB n 11 ++ [r, false])
def arb (x : Bool) (n : Nat) (r : Bool) (d : List UInt8) : List Bool := if isF x n r d then arb0 x n r else []
def body0 (x : Bool) (n : Nat) (r : Bool) (d : List UInt8) : List Bool := arb0 x n r ++ ((if x then [false, false] else [false]) ++ (ofB d.length 4 ++ fromB d))
def body (x : Bool) (n : Nat) (r : Bool) (d : List UInt8) : List Bool := if isF x n r d then body0 x n r d else []

/-- at the first bit at which they are unlike -/
def cmpB : List Bool → List Bool → Int
  | a :: s, b :: t => if a = b then cmpB s t else if a then 1 else -1
  | _, _ => 0

/-- so many bits from a place on -/
def cut (bs : List Bool) (i l : Nat) : List Bool := (bs.drop i).take l
def none_ (e : Nat) : (Bool × Nat × Bool × List UInt8) × Nat × Nat := ((false, 0, false, []), 0, e)
def parseD (bs : List Bool) (x : Bool) (n : Nat) (r : Bool) (p k : Nat) : (Bool × Nat × Bool × List UInt8) × Nat × Nat :=
  if bs.length < p + 8 * k then none_ 10 else ((x, n, r, Bm.bytes (cut bs p (8 * k))), p + 8 * k, 0)
def parseL (bs : List Bool) (x : Bool) (n : Nat) (r : Bool) (p : Nat) : (Bool × Nat × Bool × List UInt8) × Nat × Nat :=
  if bs.length < p + 4 then none_ 10 else parseD bs x n r (p + 4) (if r then 0 else min (num (cut bs p 4)) 8)
def parse (bs : List Bool) : (Bool × Nat × Bool × List UInt8) × Nat × Nat :=
  if bs.length < 1 then none_ 10 else if bs.getD 0 false then none_ 12 else if bs.length < 14 then none_ 10 else
  if bs.getD 13 false then (if bs.getD 12 false then (if bs.length < 33 then none_ 10 else parseL bs true (num (cut bs 1 11) * 262144 + num (cut bs 14 18)) (bs.getD 32 false) 35) else none_ 12)
  else parseL bs false (num (cut bs 1 11)) (bs.getD 12 false) 15

def hexd (k : Nat) : UInt8 := UInt8.ofNat (if k < 10 then 48 + k else 55 + k)
def hexs (n : Nat) : Nat → List UInt8
  | 0 => []
  | w + 1 => hexd (n / 16 ^ w % 16) :: hexs n w
def hexB (d : List UInt8) : List UInt8 := d.flatMap fun c => hexs c.toNat 2
def hexW (x : Bool) : Nat := if x then 8 else 3
def text0 (x : Bool) (n : Nat) (r : Bool) (d : List UInt8) : List UInt8 := hexs n (hexW x) ++ (35 :: (if r then [82] else hexB d))
def text (x : Bool) (n : Nat) (r : Bool) (d : List UInt8) : List UInt8 := if isF x n r d then text0 x n r d else []

theorem isF_parts {x : Bool} {n : Nat} {r : Bool} {d : List UInt8} (h : isF x n r d = true) : n < top x ∧ d.length ≤ 8 ∧ (r = true → d = []) := by
  unfold isF at h
  simp only [Bool.and_eq_true, decide_eq_true_eq, Bool.or_eq_true, Bool.not_eq_true', List.isEmpty_iff] at h
  obtain ⟨h1, h2, h3⟩ := h
  refine ⟨h1, h2, fun hr => ?_⟩
  rcases h3 with h3 | h3
  · rw [hr] at h3; cases h3
  · exact h3
theorem isF_mk {x : Bool} {n : Nat} {r : Bool} {d : List UInt8} (h1 : n < top x) (h2 : d.length ≤ 8) (h3 : r = true → d = []) : isF x n r d = true := by
  unfold isF
  simp only [Bool.and_eq_true, decide_eq_true_eq, Bool.or_eq_true, Bool.not_eq_true', List.isEmpty_iff]
  refine ⟨h1, h2, ?_⟩
  cases r
  · exact Or.inl rfl
  · exact Or.inr (h3 rfl)
theorem length_arb0 (x : Bool) (n : Nat) (r : Bool) : (arb0 x n r).length = if x then 33 else 14 := by
  unfold arb0
  cases x <;> simp [length_ofB]
theorem length_body0 (x : Bool) (n : Nat) (r : Bool) (d : List UInt8) : (body0 x n r d).length = (if x then 39 else 19) + 8 * d.length := by
  unfold body0
  simp only [List.length_append, length_arb0, length_ofB, length_fromB]
  cases x <;> simp <;> omega

/-! ### what is written is read -/
theorem cut_app (a b c : List Bool) (i l : Nat) (ha : a.length = i) (hb : b.length = l) : cut (a ++ (b ++ c)) i l = b := by
  unfold cut
  rw [List.drop_append, List.drop_of_length_le (by omega), ha, Nat.sub_self, List.drop_zero, List.nil_append, List.take_append, List.take_of_length_le (by omega), hb, Nat.sub_self, List.take_zero, List.append_nil]
theorem getD_app (a : List Bool) (b : Bool) (c : List Bool) (i : Nat) (ha : a.length = i) : (a ++ b :: c).getD i false = b := by
  rw [List.getD_eq_getElem?_getD, List.getElem?_append_right (by omega), ha, Nat.sub_self]
  rfl
theorem top_std {n : Nat} (h : n < top false) : n < 2048 := h
theorem top_ext {n : Nat} (h : n < top true) : n < 536870912 := h
/-- of a row that begins with a frame's bits, at least so far as asked: its first bits -/
theorem std_form (n : Nat) (r : Bool) (d : List UInt8) (m : List Bool) : body0 false n r d ++ m = false :: (ofB n 11 ++ (r :: false :: false :: (ofB d.length 4 ++ (fromB d ++ m)))) := by
  unfold body0 arb0
  simp
theorem ext_form (n : Nat) (r : Bool) (d : List UInt8) (m : List Bool) : body0 true n r d ++ m = false :: (ofB (n / 262144) 11 ++ (true :: true :: (ofB n 18 ++ (r :: false :: false :: (ofB d.length 4 ++ (fromB d ++ m)))))) := by
  unfold body0 arb0
  simp
theorem parse_std (bs : List Bool) (n : Nat) (r : Bool) (k : Nat) (hl : 19 ≤ bs.length) (h0 : bs.getD 0 false = false) (h13 : bs.getD 13 false = false) (h12 : bs.getD 12 false = r) (hn : num (cut bs 1 11) = n) (hk : (if r then 0 else min (num (cut bs 15 4)) 8) = k) :
    parse bs = parseD bs false n r 19 k := by
  unfold parse
  rw [if_neg (by omega), h0, if_neg (by decide), if_neg (by omega), h13, if_neg (by decide), h12, hn]
  unfold parseL
  rw [if_neg (by omega), hk]
theorem parse_ext (bs : List Bool) (n : Nat) (r : Bool) (k : Nat) (hl : 39 ≤ bs.length) (h0 : bs.getD 0 false = false) (h13 : bs.getD 13 false = true) (h12 : bs.getD 12 false = true) (h32 : bs.getD 32 false = r) (hn : num (cut bs 1 11) * 262144 + num (cut bs 14 18) = n) (hk : (if r then 0 else min (num (cut bs 35 4)) 8) = k) :
    parse bs = parseD bs true n r 39 k := by
  unfold parse
  rw [if_neg (by omega), h0, if_neg (by decide), if_neg (by omega), h13, if_pos rfl, h12, if_pos rfl, if_neg (by omega), h32, hn]
  unfold parseL
  rw [if_neg (by omega), hk]
theorem len4 (d : List UInt8) (h : d.length ≤ 8) : min (num (ofB d.length 4)) 8 = d.length := by
  rw [num_ofB 4 (by decide)]
  have : d.length % 2 ^ 4 = d.length := Nat.mod_eq_of_lt (by omega)
  omega
end Go.Proofs.YthkaekpoicodeaaGreatDoor.Fm
/- Plain mathematics of frames: what is written is read; cut off it is too short. -/
namespace Go.Proofs.YthkaekpoicodeaaGreatDoor.Fm
open Go.Proofs.YthkaekpoicodeaaGreatDoor.Bm
theorem s0 (n : Nat) (r : Bool) (d : List UInt8) (m : List Bool) : (body0 false n r d ++ m).getD 0 false = false := by rw [std_form]; rfl
theorem s1 (n : Nat) (r : Bool) (d : List UInt8) (m : List Bool) : cut (body0 false n r d ++ m) 1 11 = ofB n 11 := by
  rw [std_form]; exact cut_app [false] (ofB n 11) _ 1 11 rfl (length_ofB _ _)
theorem s12 (n : Nat) (r : Bool) (d : List UInt8) (m : List Bool) : (body0 false n r d ++ m).getD 12 false = r := by
  rw [std_form]; exact getD_app (false :: ofB n 11) r _ 12 (by simp [length_ofB])
theorem s13 (n : Nat) (r : Bool) (d : List UInt8) (m : List Bool) : (body0 false n r d ++ m).getD 13 false = false := by
  rw [std_form]
  have h := getD_app (false :: ofB n 11 ++ [r]) false (false :: (ofB d.length 4 ++ (fromB d ++ m))) 13 (by simp [length_ofB])
  rw [List.append_assoc] at h
  exact h
theorem s15 (n : Nat) (r : Bool) (d : List UInt8) (m : List Bool) : cut (body0 false n r d ++ m) 15 4 = ofB d.length 4 := by
  rw [std_form]
  have h := cut_app (false :: ofB n 11 ++ [r, false, false]) (ofB d.length 4) (fromB d ++ m) 15 4 (by simp [length_ofB]) (length_ofB _ _)
  rw [List.append_assoc] at h
  exact h
theorem s19 (n : Nat) (r : Bool) (d : List UInt8) (m : List Bool) : cut (body0 false n r d ++ m) 19 (8 * d.length) = fromB d := by
  rw [std_form]
  have h := cut_app (false :: ofB n 11 ++ (r :: false :: false :: ofB d.length 4)) (fromB d) m 19 (8 * d.length) (by simp [length_ofB]) (length_fromB _)
  rw [List.append_assoc] at h
  exact h
theorem e0 (n : Nat) (r : Bool) (d : List UInt8) (m : List Bool) : (body0 true n r d ++ m).getD 0 false = false := by rw [ext_form]; rfl
theorem e1 (n : Nat) (r : Bool) (d : List UInt8) (m : List Bool) : cut (body0 true n r d ++ m) 1 11 = ofB (n / 262144) 11 := by
  rw [ext_form]; exact cut_app [false] (ofB (n / 262144) 11) _ 1 11 rfl (length_ofB _ _)
theorem e12 (n : Nat) (r : Bool) (d : List UInt8) (m : List Bool) : (body0 true n r d ++ m).getD 12 false = true := by
  rw [ext_form]; exact getD_app (false :: ofB (n / 262144) 11) true _ 12 (by simp [length_ofB])
theorem e13 (n : Nat) (r : Bool) (d : List UInt8) (m : List Bool) : (body0 true n r d ++ m).getD 13 false = true := by
  rw [ext_form]
  have h := getD_app (false :: ofB (n / 262144) 11 ++ [true]) true (ofB n 18 ++ (r :: false :: false :: (ofB d.length 4 ++ (fromB d ++ m)))) 13 (by simp [length_ofB])
  rw [List.append_assoc] at h
  exact h
theorem e14 (n : Nat) (r : Bool) (d : List UInt8) (m : List Bool) : cut (body0 true n r d ++ m) 14 18 = ofB n 18 := by
  rw [ext_form]
  have h := cut_app (false :: ofB (n / 262144) 11 ++ [true, true]) (ofB n 18) (r :: false :: false :: (ofB d.length 4 ++ (fromB d ++ m))) 14 18 (by simp [length_ofB]) (length_ofB _ _)
  rw [List.append_assoc] at h
  exact h
theorem e32 (n : Nat) (r : Bool) (d : List UInt8) (m : List Bool) : (body0 true n r d ++ m).getD 32 false = r := by
  rw [ext_form]
  have h := getD_app (false :: ofB (n / 262144) 11 ++ (true :: true :: ofB n 18)) r (false :: false :: (ofB d.length 4 ++ (fromB d ++ m))) 32 (by simp [length_ofB])
  rw [List.append_assoc] at h
  exact h
theorem e35 (n : Nat) (r : Bool) (d : List UInt8) (m : List Bool) : cut (body0 true n r d ++ m) 35 4 = ofB d.length 4 := by
  rw [ext_form]
  have h := cut_app (false :: ofB (n / 262144) 11 ++ (true :: true :: (ofB n 18 ++ [r, false, false]))) (ofB d.length 4) (fromB d ++ m) 35 4 (by simp [length_ofB]) (length_ofB _ _)
  simp only [List.append_assoc, List.cons_append, List.nil_append] at h ⊢
  exact h
theorem e39 (n : Nat) (r : Bool) (d : List UInt8) (m : List Bool) : cut (body0 true n r d ++ m) 39 (8 * d.length) = fromB d := by
  rw [ext_form]
  have h := cut_app (false :: ofB (n / 262144) 11 ++ (true :: true :: (ofB n 18 ++ (r :: false :: false :: ofB d.length 4)))) (fromB d) m 39 (8 * d.length) (by simp [length_ofB]) (length_fromB _)
  simp only [List.append_assoc, List.cons_append] at h ⊢
  exact h
theorem std_num (n : Nat) (h : n < 2048) : num (ofB n 11) = n := by rw [num_ofB 11 (by decide)]; exact Nat.mod_eq_of_lt h
theorem ext_num (n : Nat) (h : n < 536870912) : num (ofB (n / 262144) 11) * 262144 + num (ofB n 18) = n := by
  rw [num_ofB 11 (by decide), num_ofB 18 (by decide)]
  have h1 : n / 262144 % 2 ^ 11 = n / 262144 := Nat.mod_eq_of_lt (by omega)
  have h2 : (2 : Nat) ^ 18 = 262144 := by decide
  rw [h1, h2]
  omega
theorem count_bytes (r : Bool) (d : List UInt8) (h8 : d.length ≤ 8) (hr : r = true → d = []) : (if r then 0 else min (num (ofB d.length 4)) 8) = d.length := by
  cases r
  · exact len4 d h8
  · rw [hr rfl]; rfl
theorem parse_body {x : Bool} {n : Nat} {r : Bool} {d : List UInt8} (h : isF x n r d = true) (m : List Bool) : parse (body0 x n r d ++ m) = ((x, n, r, d), (body0 x n r d).length, 0) := by
  obtain ⟨h1, h8, hr⟩ := isF_parts h
  have hl := length_body0 x n r d
  cases x
  · have hl' : (body0 false n r d ++ m).length = 19 + 8 * d.length + m.length := by rw [List.length_append, hl]; simp
    rw [parse_std _ n r d.length (by omega) (s0 n r d m) (s13 n r d m) (s12 n r d m) (by rw [s1]; exact std_num n (top_std h1)) (by rw [s15]; exact count_bytes r d h8 hr)]
    unfold parseD
    rw [if_neg (by omega), s19, bytes_fromB, hl]
    rfl
  · have hl' : (body0 true n r d ++ m).length = 39 + 8 * d.length + m.length := by rw [List.length_append, hl]; simp
    rw [parse_ext _ n r d.length (by omega) (e0 n r d m) (e13 n r d m) (e12 n r d m) (e32 n r d m) (by rw [e1, e14]; exact ext_num n (top_ext h1)) (by rw [e35]; exact count_bytes r d h8 hr)]
    unfold parseD
    rw [if_neg (by omega), e39, bytes_fromB, hl]
    rfl
theorem getD_take (bs : List Bool) (i k : Nat) (h : i < k) : (bs.take k).getD i false = bs.getD i false := by
  rw [List.getD_eq_getElem?_getD, List.getD_eq_getElem?_getD, List.getElem?_take_of_lt h]
theorem cut_take (bs : List Bool) (i l k : Nat) (h : i + l ≤ k) : cut (bs.take k) i l = cut bs i l := by
  unfold cut
  rw [List.drop_take, List.take_take]
  congr 1
  omega
theorem parse_cut {x : Bool} {n : Nat} {r : Bool} {d : List UInt8} (h : isF x n r d = true) (k : Nat) (hk : k < (body0 x n r d).length) : parse ((body0 x n r d).take k) = none_ 10 := by
  obtain ⟨h1, h8, hr⟩ := isF_parts h
  have hl := length_body0 x n r d
  have hlt : ((body0 x n r d).take k).length = k := by rw [List.length_take]; omega
  unfold parse
  rw [hlt]
  by_cases c1 : k < 1
  · rw [if_pos c1]
  rw [if_neg c1, getD_take _ 0 k (by omega)]
  have z0 : (body0 x n r d).getD 0 false = false := by
    have := s0 n r d []; have := e0 n r d []; rw [List.append_nil] at *; cases x <;> assumption
  rw [z0, if_neg (by decide)]
  by_cases c2 : k < 14
  · rw [if_pos c2]
  rw [if_neg c2, getD_take _ 13 k (by omega), getD_take _ 12 k (by omega)]
  cases x
  · have a13 := s13 n r d []
    have a12 := s12 n r d []
    have a15 := s15 n r d []
    rw [List.append_nil] at a13 a12 a15
    rw [a13, a12, if_neg (by decide)]
    unfold parseL
    rw [hlt]
    by_cases c3 : k < 15 + 4
    · rw [if_pos c3]
    rw [if_neg c3, cut_take _ 15 4 k (by omega), a15, count_bytes r d h8 hr]
    unfold parseD
    simp only [Bool.false_eq_true, if_false] at hl
    rw [hlt, if_pos (by omega)]
  · have a13 := e13 n r d []
    have a12 := e12 n r d []
    have a32 := e32 n r d []
    have a35 := e35 n r d []
    rw [List.append_nil] at a13 a12 a32 a35
    rw [a13, a12, if_pos rfl, if_pos rfl]
    by_cases c3 : k < 33
    · rw [if_pos c3]
    rw [if_neg c3, getD_take _ 32 k (by omega), a32]
    unfold parseL
    rw [hlt]
    by_cases c4 : k < 35 + 4
    · rw [if_pos c4]
    rw [if_neg c4, cut_take _ 35 4 k (by omega), a35, count_bytes r d h8 hr]
    unfold parseD
    simp only [if_true] at hl
    rw [hlt, if_pos (by omega)]
end Go.Proofs.YthkaekpoicodeaaGreatDoor.Fm
/- Plain mathematics of frames on the wire: what is sent, a reader bit by bit; nothing of the program is in it. -/
namespace Go.Proofs.YthkaekpoicodeaaGreatDoor.Cm
open Go.Proofs.YthkaekpoicodeaaGreatDoor.Bm Go.Proofs.YthkaekpoicodeaaGreatDoor.Fm Go.Proofs.YthkaekpoicodeaaGreatDoor.Sm
abbrev Fr := Bool × Nat × Bool × List UInt8
def noF : Fr := (false, 0, false, [])
def ones (n : Nat) : List Bool := List.replicate n true
/-- the row that bits are laid between -/
def plainOf (b : List Bool) (c : Nat) : List Bool := b ++ ofB c 15
def enc0 (x : Bool) (n : Nat) (r : Bool) (d : List UInt8) : List Bool := stuff (plainOf (body0 x n r d) (crc (body0 x n r d))) ++ ones 10
def enc (x : Bool) (n : Nat) (r : Bool) (d : List UInt8) : List Bool := if isF x n r d then enc0 x n r d else []
/-- what the reader holds: the run at the end, bits without those laid, the frame and its length when they are known, how many bits behind the sum -/
structure Rd where
  r : Nat × Bool
  p : List Bool
  w : Option (Fr × Nat)
  t : Option Nat
def Rd.new : Rd := ⟨(0, false), [], none, none⟩
def right (p : List Bool) (n : Nat) : Bool := num (p.drop n) == crc (p.take n)
/-- the frame and its length, as soon as the row tells them; the error 12 -/
def learn (p : List Bool) : Option (Fr × Nat) × Bool := if (parse p).2.2 = 12 then (none, true) else if (parse p).2.2 = 0 then (some ((parse p).1, (parse p).2.1), false) else (none, false)
/-- one bit: the error (0: none; 1: whole), what is held behind it -/
def behind (s : Rd) (t : Nat) (c : Bool) : Nat × Rd :=
  if t + 1 ≠ 2 ∧ c = false then (12, { s with t := some (t + 1) })
  else if t + 1 = 3 ∧ (match s.w with | some (_, n) => right s.p n | none => false) = false then (40, { s with t := some (t + 1) })
  else if t + 1 = 10 then (1, { s with t := some (t + 1) })
  else (0, { s with t := some (t + 1) })
def lies (p : List Bool) (w : Option (Fr × Nat)) : Bool := match w with | some (_, n) => decide (p.length = n + 15) | none => false
def within (s : Rd) (c : Bool) : Nat × Rd :=
  if (Sm.step s.r c).1 = 6 then (20, { s with r := Sm.step s.r c })
  else if s.r.1 = 5 then (0, ⟨Sm.step s.r c, s.p, s.w, if lies s.p s.w = true ∧ (Sm.step s.r c).1 ≠ 5 then some 0 else none⟩)
  else if s.w.isSome then (0, ⟨Sm.step s.r c, s.p ++ [c], s.w, if lies (s.p ++ [c]) s.w = true ∧ (Sm.step s.r c).1 ≠ 5 then some 0 else none⟩)
  else if (learn (s.p ++ [c])).2 then (12, ⟨Sm.step s.r c, s.p ++ [c], none, none⟩)
  else (0, ⟨Sm.step s.r c, s.p ++ [c], (learn (s.p ++ [c])).1, if lies (s.p ++ [c]) (learn (s.p ++ [c])).1 = true ∧ (Sm.step s.r c).1 ≠ 5 then some 0 else none⟩)
def bit (s : Rd) (c : Bool) : Nat × Rd := match s.t with | some t => behind s t c | none => within s c
def Rd.frame (s : Rd) : Fr := match s.w with | some (f, _) => f | none => noF
/-- the frame that a row begins with, how many bits, 0; or no frame, the place, the error -/
def dB : Rd → Nat → List Bool → Fr × Nat × Nat
  | _, i, [] => (noF, i, 10)
  | s, i, c :: l => if (bit s c).1 = 0 then dB (bit s c).2 (i + 1) l else if (bit s c).1 = 1 then ((bit s c).2.frame, i + 1, 0) else (noF, i, (bit s c).1)
def dec (bs : List Bool) : Fr × Nat × Nat := dB Rd.new 0 bs

theorem dB_nil (s : Rd) (i : Nat) : dB s i [] = (noF, i, 10) := rfl
theorem dB_go {s : Rd} {c : Bool} {s' : Rd} (h : bit s c = (0, s')) (i : Nat) (l : List Bool) : dB s i (c :: l) = dB s' (i + 1) l := by
  show (if (bit s c).1 = 0 then _ else _) = _
  rw [h]; rfl
theorem dB_end {s : Rd} {c : Bool} {s' : Rd} (h : bit s c = (1, s')) (i : Nat) (l : List Bool) : dB s i (c :: l) = (s'.frame, i + 1, 0) := by
  show (if (bit s c).1 = 0 then _ else _) = _
  rw [h]; rfl
theorem dB_err {s : Rd} {c : Bool} {e : Nat} {s' : Rd} (h : bit s c = (e, s')) (h0 : e ≠ 0) (h1 : e ≠ 1) (i : Nat) (l : List Bool) : dB s i (c :: l) = (noF, i, e) := by
  show (if (bit s c).1 = 0 then _ else _) = _
  rw [h]
  simp only
  rw [if_neg h0, if_neg h1]
/-- codes that a bit can tell -/
theorem bit_code (s : Rd) (c : Bool) : (bit s c).1 = 0 ∨ (bit s c).1 = 1 ∨ (bit s c).1 = 12 ∨ (bit s c).1 = 20 ∨ (bit s c).1 = 40 := by
  unfold bit
  split
  · unfold behind
    repeat' split
    all_goals simp
  · unfold within
    repeat' split
    all_goals simp
/-- whatever is told but 'too short' is told whatever is behind it -/
theorem dB_more (l : List Bool) : ∀ (s : Rd) (i : Nat) (m : List Bool), (dB s i l).2.2 ≠ 10 → dB s i (l ++ m) = dB s i l := by
  induction l with
  | nil => intro s i m h; exact absurd rfl h
  | cons c l ih =>
    intro s i m h
    rw [List.cons_append]
    rcases hb : bit s c with ⟨e, s'⟩
    by_cases h0 : e = 0
    · subst h0
      rw [dB_go hb] at h ⊢
      rw [dB_go hb]
      exact ih s' (i + 1) m h
    · by_cases h1 : e = 1
      · subst h1; rw [dB_end hb, dB_end hb]
      · rw [dB_err hb h0 h1, dB_err hb h0 h1]
/-- where it is told, or how many bits there were -/
theorem dB_place (l : List Bool) : ∀ (s : Rd) (i : Nat), i ≤ (dB s i l).2.1 ∧ (dB s i l).2.1 ≤ i + l.length ∧ ((dB s i l).2.2 = 10 → (dB s i l).2.1 = i + l.length) := by
  induction l with
  | nil => intro s i; exact ⟨Nat.le_refl _, Nat.le_refl _, fun _ => rfl⟩
  | cons c l ih =>
    intro s i
    rcases hb : bit s c with ⟨e, s'⟩
    by_cases h0 : e = 0
    · subst h0
      rw [dB_go hb]
      obtain ⟨a, b, d⟩ := ih s' (i + 1)
      simp only [List.length_cons]
      exact ⟨by omega, by omega, fun h => by have := d h; omega⟩
    · by_cases h1 : e = 1
      · subst h1; rw [dB_end hb]; simp only [List.length_cons]; exact ⟨by omega, by omega, fun h => by cases h⟩
      · rw [dB_err hb h0 h1]
        simp only [List.length_cons]
        have hc := bit_code s c
        rw [hb] at hc
        simp only at hc
        exact ⟨by omega, by omega, fun h => by omega⟩
/-- a row that is cut ahead of the place at which something is told is too short -/
theorem dB_cut (l : List Bool) : ∀ (s : Rd) (i k : Nat), i + k < (dB s i l).2.1 ∨ (i + k ≤ (dB s i l).2.1 ∧ (dB s i l).2.2 ≠ 0) → k ≤ l.length → dB s i (l.take k) = (noF, i + k, 10) := by
  induction l with
  | nil => intro s i k h hk; simp only [List.length_nil, Nat.le_zero] at hk; subst hk; rfl
  | cons c l ih =>
    intro s i k h hk
    cases k with
    | zero => rfl
    | succ k =>
      rw [List.take_succ_cons]
      rcases hb : bit s c with ⟨e, s'⟩
      by_cases h0 : e = 0
      · subst h0
        rw [dB_go hb] at h ⊢
        rw [ih s' (i + 1) k (by omega) (by simpa using hk)]
        congr 2
        omega
      · by_cases h1 : e = 1
        · subst h1; rw [dB_end hb] at h; simp only at h; omega
        · rw [dB_err hb h0 h1] at h; simp only at h; omega
end Go.Proofs.YthkaekpoicodeaaGreatDoor.Cm
/- Plain mathematics of frames on the wire: what was sent is read. -/
namespace Go.Proofs.YthkaekpoicodeaaGreatDoor.Cm
open Go.Proofs.YthkaekpoicodeaaGreatDoor.Bm Go.Proofs.YthkaekpoicodeaaGreatDoor.Fm Go.Proofs.YthkaekpoicodeaaGreatDoor.Sm
theorem learn_less {x : Bool} {n : Nat} {r : Bool} {d : List UInt8} (hi : isF x n r d = true) (Q : List Bool) (k : Nat) (hk : k < (body0 x n r d).length) : learn ((body0 x n r d ++ Q).take k) = (none, false) := by
  rw [List.take_append_of_le_length (by omega)]
  unfold learn
  rw [parse_cut hi k hk]
  rfl
theorem learn_more {x : Bool} {n : Nat} {r : Bool} {d : List UInt8} (hi : isF x n r d = true) (Q : List Bool) (k : Nat) (hk : (body0 x n r d).length ≤ k) : learn ((body0 x n r d ++ Q).take k) = (some ((x, n, r, d), (body0 x n r d).length), false) := by
  rw [List.take_append, List.take_of_length_le hk]
  unfold learn
  rw [parse_body hi]
  rfl
/-- what is known behind k bits -/
def wOf (f : Fr) (bl k : Nat) : Option (Fr × Nat) := if bl ≤ k then some (f, bl) else none
def tOf (pl k : Nat) : Option Nat := if k = pl then some 0 else none
/-- the reader behind k plain bits of a sent row -/
def at_ (f : Fr) (bl : Nat) (P : List Bool) (q : Nat × Bool) (k : Nat) : Rd := ⟨q, P.take k, wOf f bl k, tOf P.length k⟩
theorem lies_wOf (f : Fr) (bl : Nat) (P : List Bool) (hP : P.length = bl + 15) (k : Nat) (hk : k ≤ P.length) : lies (P.take k) (wOf f bl k) = decide (k = P.length) := by
  unfold lies wOf
  have hl : (P.take k).length = k := by rw [List.length_take]; omega
  by_cases h : bl ≤ k
  · rw [if_pos h]
    simp only
    rw [hl]
    exact decide_eq_decide.2 (by omega)
  · rw [if_neg h]
    simp only
    exact (decide_eq_false (by omega)).symm
/-- a plain bit -/
theorem bit_plain {x : Bool} {n : Nat} {r : Bool} {d : List UInt8} (hi : isF x n r d = true) (Q : List Bool) (hQ : Q.length = 15) (q : Nat × Bool) (k : Nat) (hq : q.1 < 5) (hk : k < (body0 x n r d ++ Q).length) :
    bit (at_ (x, n, r, d) (body0 x n r d).length (body0 x n r d ++ Q) q k) ((body0 x n r d ++ Q)[k]) =
      (0, ⟨Sm.step q ((body0 x n r d ++ Q)[k]), (body0 x n r d ++ Q).take (k + 1), wOf (x, n, r, d) (body0 x n r d).length (k + 1), if k + 1 = (body0 x n r d ++ Q).length ∧ (Sm.step q ((body0 x n r d ++ Q)[k])).1 ≠ 5 then some 0 else none⟩) := by
  have hPl : (body0 x n r d ++ Q).length = (body0 x n r d).length + 15 := by rw [List.length_append, hQ]
  have tk : (body0 x n r d ++ Q).take (k + 1) = (body0 x n r d ++ Q).take k ++ [(body0 x n r d ++ Q)[k]] := List.take_succ_eq_append_getElem hk
  have l1 := learn_less hi Q (k + 1)
  have l2 := learn_more hi Q (k + 1)
  have lw := lies_wOf (x, n, r, d) (body0 x n r d).length (body0 x n r d ++ Q) hPl (k + 1) (by omega)
  have hle := step_le q ((body0 x n r d ++ Q)[k])
  rw [tk] at l1 l2 lw ⊢
  generalize (body0 x n r d ++ Q)[k] = c at *
  unfold bit at_ tOf
  simp only
  rw [if_neg (by omega)]
  simp only
  unfold within
  simp only
  rw [if_neg (by omega), if_neg (by omega)]
  by_cases h : (body0 x n r d).length ≤ k
  · have w1 : wOf (x, n, r, d) (body0 x n r d).length k = some ((x, n, r, d), (body0 x n r d).length) := by unfold wOf; rw [if_pos h]
    have w2 : wOf (x, n, r, d) (body0 x n r d).length (k + 1) = some ((x, n, r, d), (body0 x n r d).length) := by unfold wOf; rw [if_pos (by omega)]
    rw [w2] at lw ⊢
    rw [w1, if_pos (show (some ((x, n, r, d), (body0 x n r d).length)).isSome = true from rfl), lw]
    simp only [decide_eq_true_eq]
  · have w1 : wOf (x, n, r, d) (body0 x n r d).length k = none := by unfold wOf; rw [if_neg h]
    rw [w1, if_neg (by decide)]
    by_cases h2 : (body0 x n r d).length ≤ k + 1
    · have w2 : wOf (x, n, r, d) (body0 x n r d).length (k + 1) = some ((x, n, r, d), (body0 x n r d).length) := by unfold wOf; rw [if_pos h2]
      rw [l2 h2]
      simp only
      rw [if_neg (by decide)]
      rw [w2] at lw ⊢
      rw [lw]
      simp only [decide_eq_true_eq]
    · have w2 : wOf (x, n, r, d) (body0 x n r d).length (k + 1) = none := by unfold wOf; rw [if_neg h2]
      rw [l1 (by omega)]
      simp only
      rw [if_neg (by decide)]
      rw [w2] at lw ⊢
      rw [lw]
      simp only [decide_eq_true_eq]
/-- a bit that was laid -/
theorem bit_laid {x : Bool} {n : Nat} {r : Bool} {d : List UInt8} (Q : List Bool) (hQ : Q.length = 15) (c : Bool) (k : Nat) (hk : k ≤ (body0 x n r d ++ Q).length) :
    bit ⟨(5, c), (body0 x n r d ++ Q).take k, wOf (x, n, r, d) (body0 x n r d).length k, none⟩ (!c) = (0, at_ (x, n, r, d) (body0 x n r d).length (body0 x n r d ++ Q) (1, !c) k) := by
  have hPl : (body0 x n r d ++ Q).length = (body0 x n r d).length + 15 := by rw [List.length_append, hQ]
  have lw := lies_wOf (x, n, r, d) (body0 x n r d).length (body0 x n r d ++ Q) hPl k hk
  unfold bit within at_ tOf
  simp only
  rw [step_other c 5 c rfl, if_neg (by simp), if_pos trivial, lw]
  simp only [decide_eq_true_eq, ne_eq]
  congr 2
  by_cases h : k = (body0 x n r d ++ Q).length
  · rw [if_pos h, if_pos ⟨h, by decide⟩]
  · rw [if_neg h, if_neg (fun h2 => h h2.1)]
theorem read_rest {x : Bool} {n : Nat} {r : Bool} {d : List UInt8} (hi : isF x n r d = true) (Q : List Bool) (hQ : Q.length = 15) (rest : List Bool) : ∀ (k : Nat) (q : Nat × Bool) (i : Nat) (l : List Bool), (body0 x n r d ++ Q).drop k = rest → k ≤ (body0 x n r d ++ Q).length → q.1 < 5 →
    dB (at_ (x, n, r, d) (body0 x n r d).length (body0 x n r d ++ Q) q k) i (stB q [] rest ++ l) = dB (at_ (x, n, r, d) (body0 x n r d).length (body0 x n r d ++ Q) (stS q rest) (body0 x n r d ++ Q).length) (i + (stB q [] rest).length) l := by
  induction rest with
  | nil =>
    intro k q i l hd hk hq
    have hk2 : k = (body0 x n r d ++ Q).length := by
      have := congrArg List.length hd
      rw [List.length_drop, List.length_nil] at this
      omega
    subst hk2
    rfl
  | cons c t ih =>
    intro k q i l hd hk hq
    have hk2 : k < (body0 x n r d ++ Q).length := by
      have := congrArg List.length hd
      rw [List.length_drop, List.length_cons] at this
      omega
    have hc : (body0 x n r d ++ Q)[k] = c ∧ (body0 x n r d ++ Q).drop (k + 1) = t := by
      rw [List.drop_eq_getElem_cons hk2] at hd
      injection hd with h1 h2
      exact ⟨h1, h2⟩
    have hb := bit_plain hi Q hQ q k hq hk2
    rw [hc.1] at hb
    by_cases h5 : (Sm.step q c).1 = 5
    · have hs : Sm.step q c = (5, c) := Prod.ext h5 (step_snd q c)
      rw [stB_cons5 q c t h5, List.cons_append, List.cons_append, dB_go hb]
      rw [hs, if_neg (fun h => h.2 rfl), dB_go (bit_laid Q hQ c (k + 1) hk2), ih (k + 1) (1, !c) _ l hc.2 hk2 (show 1 < 5 by decide)]
      have e : stS q (c :: t) = stS (1, !c) t := by conv => lhs; unfold stS; rw [if_pos h5]
      rw [e]
      congr 1
      simp only [List.length_cons]
      omega
    · rw [stB_cons q c t h5, List.cons_append, dB_go hb]
      have hle := step_le q c
      have e2 : (if k + 1 = (body0 x n r d ++ Q).length ∧ (Sm.step q c).1 ≠ 5 then some 0 else none) = tOf (body0 x n r d ++ Q).length (k + 1) := by
        unfold tOf
        by_cases h : k + 1 = (body0 x n r d ++ Q).length
        · rw [if_pos h, if_pos ⟨h, h5⟩]
        · rw [if_neg h, if_neg (fun h2 => h h2.1)]
      rw [e2]
      have h3 := ih (k + 1) (Sm.step q c) (i + 1) l hc.2 hk2 (by omega)
      unfold at_ at h3 ⊢
      rw [h3]
      have e : stS q (c :: t) = stS (Sm.step q c) t := by conv => lhs; unfold stS; rw [if_neg h5]
      rw [e]
      congr 1
      simp only [List.length_cons]
      omega
/-- behind all that was sent up to the sum -/
theorem read_sent {x : Bool} {n : Nat} {r : Bool} {d : List UInt8} (hi : isF x n r d = true) (Q : List Bool) (hQ : Q.length = 15) (l : List Bool) : ∃ q, dec (stuff (body0 x n r d ++ Q) ++ l) = dB ⟨q, body0 x n r d ++ Q, some ((x, n, r, d), (body0 x n r d).length), some 0⟩ (stuff (body0 x n r d ++ Q)).length l := by
  have hPl : (body0 x n r d ++ Q).length = (body0 x n r d).length + 15 := by rw [List.length_append, hQ]
  have hbl := length_body0 x n r d
  have h := read_rest hi Q hQ (body0 x n r d ++ Q) 0 (0, false) 0 l (List.drop_zero) (Nat.zero_le _) (by decide)
  have e0 : at_ (x, n, r, d) (body0 x n r d).length (body0 x n r d ++ Q) (0, false) 0 = Rd.new := by
    unfold at_ wOf tOf Rd.new
    rw [if_neg (by rw [hbl]; split <;> omega), if_neg (by omega)]
    rfl
  rw [e0, Nat.zero_add] at h
  refine ⟨stS (0, false) (body0 x n r d ++ Q), ?_⟩
  unfold dec stuff
  rw [h]
  unfold at_ wOf tOf
  rw [if_pos rfl, if_pos (by omega), List.take_of_length_le (Nat.le_refl _)]
/-- behind the sum -/
theorem bit_behind (q : Nat × Bool) (P : List Bool) (f : Fr) (bl t : Nat) (c : Bool) : bit ⟨q, P, some (f, bl), some t⟩ c =
    if t + 1 ≠ 2 ∧ c = false then (12, ⟨q, P, some (f, bl), some (t + 1)⟩) else if t + 1 = 3 ∧ right P bl = false then (40, ⟨q, P, some (f, bl), some (t + 1)⟩) else if t + 1 = 10 then (1, ⟨q, P, some (f, bl), some (t + 1)⟩) else (0, ⟨q, P, some (f, bl), some (t + 1)⟩) := rfl
theorem tail_ones (q : Nat × Bool) (P : List Bool) (f : Fr) (bl : Nat) : ∀ (m t i : Nat) (l : List Bool), 3 ≤ t → t + m = 10 → 0 < m → dB ⟨q, P, some (f, bl), some t⟩ i (ones m ++ l) = (f, i + m, 0) := by
  intro m
  induction m with
  | zero => intro t i l _ _ h; omega
  | succ m ih =>
    intro t i l ht hm _
    show dB _ i (true :: (ones m ++ l)) = _
    have hb := bit_behind q P f bl t true
    rw [if_neg (by simp), if_neg (by omega)] at hb
    by_cases h : m = 0
    · rw [if_pos (by omega)] at hb
      rw [dB_end hb, h]
      rfl
    · rw [if_neg (by omega)] at hb
      rw [dB_go hb, ih (t + 1) (i + 1) l (by omega) (by omega) (by omega)]
      congr 2
      omega
/-- of the bits behind the sum: the first one, any second one, the third one, seven -/
theorem tail_read (q : Nat × Bool) (P : List Bool) (f : Fr) (bl i : Nat) (a : Bool) (l : List Bool) : dB ⟨q, P, some (f, bl), some 0⟩ i (true :: a :: true :: (ones 7 ++ l)) = if right P bl then (f, i + 10, 0) else (noF, i + 2, 40) := by
  have b1 : bit ⟨q, P, some (f, bl), some 0⟩ true = (0, ⟨q, P, some (f, bl), some 1⟩) := by rw [bit_behind]; rfl
  have b2 : bit ⟨q, P, some (f, bl), some 1⟩ a = (0, ⟨q, P, some (f, bl), some 2⟩) := by rw [bit_behind]; rfl
  rw [dB_go b1, dB_go b2]
  have b3 := bit_behind q P f bl 2 true
  rw [if_neg (by simp)] at b3
  cases hr : right P bl
  · rw [if_pos ⟨rfl, hr⟩] at b3
    rw [dB_err b3 (by decide) (by decide), if_neg (by decide)]
  · rw [if_neg (fun h => by rw [hr] at h; exact absurd h.2 (by decide)), if_neg (by decide)] at b3
    rw [dB_go b3, tail_ones q P f bl 7 3 _ l (by decide) (by decide) (by decide), if_pos rfl]
end Go.Proofs.YthkaekpoicodeaaGreatDoor.Cm
/- Plain mathematics of frames on the wire: what is read of what was sent, whole, cut off, with a bit turned behind the sum, with another sum. -/
namespace Go.Proofs.YthkaekpoicodeaaGreatDoor.Cm
open Go.Proofs.YthkaekpoicodeaaGreatDoor.Bm Go.Proofs.YthkaekpoicodeaaGreatDoor.Fm Go.Proofs.YthkaekpoicodeaaGreatDoor.Sm
theorem crc_num (c : Nat) (h : c < 32768) : num (ofB c 15) = c := by rw [num_ofB 15 (by decide)]; exact Nat.mod_eq_of_lt h
theorem right_plain (b : List Bool) (c : Nat) (h : c < 32768) : right (b ++ ofB c 15) b.length = (c == crc b) := by
  unfold right
  rw [List.drop_left, List.take_left, crc_num c h]
/-- what is sent, the second bit behind the sum as it may be, more behind it -/
theorem dec_sent {x : Bool} {n : Nat} {r : Bool} {d : List UInt8} (hi : isF x n r d = true) (a : Bool) (m : List Bool) :
    dec (stuff (plainOf (body0 x n r d) (crc (body0 x n r d))) ++ (true :: a :: true :: (ones 7 ++ m))) = ((x, n, r, d), (stuff (plainOf (body0 x n r d) (crc (body0 x n r d)))).length + 10, 0) := by
  obtain ⟨q, h⟩ := read_sent hi (ofB (crc (body0 x n r d)) 15) (length_ofB _ _) (true :: a :: true :: (ones 7 ++ m))
  unfold plainOf
  rw [h, tail_read, right_plain _ _ (crc_lt _), if_pos (by simp)]
/-- acknowledged -/
def ack0 (x : Bool) (n : Nat) (r : Bool) (d : List UInt8) : List Bool := stuff (plainOf (body0 x n r d) (crc (body0 x n r d))) ++ (true :: false :: ones 8)
theorem length_ones (n : Nat) : (ones n).length = n := by simp [ones]
theorem length_ack0 (x : Bool) (n : Nat) (r : Bool) (d : List UInt8) : (ack0 x n r d).length = (enc0 x n r d).length := by
  unfold ack0 enc0
  rw [List.length_append, List.length_append]
  rfl
theorem dec_ack {x : Bool} {n : Nat} {r : Bool} {d : List UInt8} (hi : isF x n r d = true) (m : List Bool) : dec (ack0 x n r d ++ m) = ((x, n, r, d), (enc0 x n r d).length, 0) := by
  have h := dec_sent hi false m
  unfold ack0 enc0
  rw [List.append_assoc, List.length_append]
  exact h
theorem dec_cut {x : Bool} {n : Nat} {r : Bool} {d : List UInt8} (hi : isF x n r d = true) (k : Nat) (hk : k < (enc0 x n r d).length) : dec ((ack0 x n r d).take k) = (noF, k, 10) := by
  have h := dec_ack hi []
  rw [List.append_nil] at h
  unfold dec at h ⊢
  have h2 := dB_cut (ack0 x n r d) Rd.new 0 k (by rw [h]; simp only; omega) (by rw [length_ack0]; omega)
  rw [Nat.zero_add] at h2
  exact h2
/-- how long it is -/
theorem enc_len {x : Bool} {n : Nat} {r : Bool} {d : List UInt8} (hi : isF x n r d = true) : ((if x then 64 else 44) + 8 * d.length) ≤ (enc0 x n r d).length ∧ (enc0 x n r d).length ≤ ((if x then 64 else 44) + 8 * d.length) + (((if x then 64 else 44) + 8 * d.length) - 11) / 4 ∧ (enc0 x n r d).length ≤ 200 := by
  have h8 := (isF_parts hi).2.1
  have hb := length_body0 x n r d
  have hp : (plainOf (body0 x n r d) (crc (body0 x n r d))).length = (body0 x n r d).length + 15 := by unfold plainOf; rw [List.length_append, length_ofB]
  have h1 := stuff_len_ge (plainOf (body0 x n r d) (crc (body0 x n r d)))
  have h2 := stuff_len_le (plainOf (body0 x n r d) (crc (body0 x n r d)))
  have he : (enc0 x n r d).length = (stuff (plainOf (body0 x n r d) (crc (body0 x n r d)))).length + 10 := by unfold enc0; rw [List.length_append, length_ones]
  rw [hp, hb] at h1 h2
  unfold most at h2
  cases x
  · simp only [Bool.false_eq_true, if_false] at *
    rw [if_neg (by omega)] at h2
    omega
  · simp only [if_true] at *
    rw [if_neg (by omega)] at h2
    omega
end Go.Proofs.YthkaekpoicodeaaGreatDoor.Cm
/- Plain mathematics of frames: their order on the wire. -/
namespace Go.Proofs.YthkaekpoicodeaaGreatDoor.Fm
open Go.Proofs.YthkaekpoicodeaaGreatDoor.Bm
/-- a row as a number, the first bit the highest -/
def val (bs : List Bool) : Nat := bs.foldl (fun a b => 2 * a + bv b) 0
theorem val_from (bs : List Bool) : ∀ a, bs.foldl (fun a b => 2 * a + bv b) a = a * 2 ^ bs.length + val bs := by
  induction bs with
  | nil => intro a; simp [val]
  | cons b t ih =>
    intro a
    unfold val
    rw [List.foldl_cons, List.foldl_cons, ih, ih (2 * 0 + bv b), List.length_cons, Nat.pow_succ]
    simp only [Nat.mul_zero, Nat.zero_add, Nat.add_mul]
    have : 2 * a * 2 ^ t.length = a * (2 ^ t.length * 2) := by rw [Nat.mul_comm 2 a, Nat.mul_assoc, Nat.mul_comm 2]
    omega
theorem val_cons (b : Bool) (t : List Bool) : val (b :: t) = bv b * 2 ^ t.length + val t := by
  conv => lhs; unfold val
  rw [List.foldl_cons, val_from]
  simp
theorem val_lt (bs : List Bool) : val bs < 2 ^ bs.length := by
  induction bs with
  | nil => simp [val]
  | cons b t ih =>
    rw [val_cons, List.length_cons, Nat.pow_succ]
    cases b <;> simp [bv] <;> omega
def sgn (a b : Nat) : Int := if a < b then -1 else if b < a then 1 else 0
/-- a frame's place in the order -/
def key (x : Bool) (n : Nat) (r : Bool) : Nat := if x then ((n / 262144 * 4 + 3) * 262144 + n % 262144) * 2 + bv r else (n * 2 + bv r) * 2 * 524288
/-- the first fourteen bits of a frame with Ext -/
def head14 (n : Nat) : List Bool := false :: (ofB (n / 262144) 11 ++ [true, true])
end Go.Proofs.YthkaekpoicodeaaGreatDoor.Fm
/- Plain mathematics for the document's own bits, as their text spells the tests; nothing of the program is in it. -/
namespace Go.Proofs.YthkaekpoicodeaaGreatDoor.Bm

theorem isOne_dec (c : UInt8) : ((c.toNat : Int) == 49) = isOne c := by
  rw [Bool.eq_iff_iff, beq_iff_eq, isOne_iff]
theorem top_dec (m : Nat) (h : m < 32768) : (bits .and .u16 ((m : Int) / 16384) 1 == 1) = decide (16384 ≤ m) := by
  have e : ((m : Int) / 16384) = ((m / 16384 : Nat) : Int) := by omega
  have e1 : (1 : Int) = ((1 : Nat) : Int) := rfl
  rw [e, e1, u16_and_nat _ _ (by omega) (by decide), nat_mask1, Bool.eq_iff_iff, beq_iff_eq, decide_eq_true_iff]
  omega
theorem refcrc_yes (c : UInt8) (m : Nat) (h : m < 32768) (t : (!((bits .and .u16 ((m : Int) / 16384) 1 == 1) == ((c.toNat : Int) == 49))) = true) :
    bits .xor .u16 (bits .and .u16 ((m : Int) * 2) 32767) 17817 = (crcStep m (isOne c) : Int) := by
  apply crc_yes c m h
  rw [test_crc c m h]
  rw [isOne_dec, top_dec m h] at t
  revert t
  cases isOne c <;> cases decide (16384 ≤ m) <;> simp
theorem refcrc_no (c : UInt8) (m : Nat) (h : m < 32768) (t : (!((bits .and .u16 ((m : Int) / 16384) 1 == 1) == ((c.toNat : Int) == 49))) = false) :
    bits .and .u16 ((m : Int) * 2) 32767 = (crcStep m (isOne c) : Int) := by
  apply crc_no c m h
  rw [test_crc c m h]
  rw [isOne_dec, top_dec m h] at t
  revert t
  cases isOne c <;> cases decide (16384 ≤ m) <;> simp

theorem num_yes (c : UInt8) (m : Nat) (h : m < 18446744073709551616) (t : ((c.toNat : Int) == 49) = true) : bits .or .u64 (IntKind.u64.wrap ((m : Int) * 2)) 1 = (numStep m (isOne c) : Int) := by
  rw [isOne_dec] at t
  rw [t, ← or_step m true h]
  rfl
theorem num_no (c : UInt8) (m : Nat) (_h : m < 18446744073709551616) (t : ((c.toNat : Int) == 49) = false) : IntKind.u64.wrap ((m : Int) * 2) = (numStep m (isOne c) : Int) := by
  rw [isOne_dec] at t
  rw [t, IntKind.wrap_u64]
  unfold numStep bv
  simp
  omega
/-- a sign laid behind a text -/
theorem str_snoc (l : List UInt8) (k : Nat) (c : UInt8) (h : l[k]? = some c) : (ByteArray.mk (l.take k).toArray ++ ByteArray.mk #[c]) = ByteArray.mk (l.take (k + 1)).toArray := by
  apply ByteArray.ext
  rw [ByteArray.data_append]
  apply Array.toList_inj.1
  rw [Array.toList_append]
  show l.take k ++ [c] = l.take (k + 1)
  rw [List.take_add_one, h]
  rfl
theorem take_row_all (l : List UInt8) (k n : Nat) (h : l.length = n) (g : n ≤ k) : l.take k = l := List.take_of_length_le (by omega)
theorem ofB_get (n K k : Nat) (h : k < K) : (row (ofB n K))[k]? = some (sign (n.testBit (K - 1 - k))) := by
  unfold row ofB
  rw [List.getElem?_map, List.getElem?_map, List.getElem?_range h]
  rfl
theorem bit_dec (n j : Nat) (h : n < 18446744073709551616) : (bits .and .u64 ((n : Int) / 2 ^ j) 1 == 1) = n.testBit j := by
  have e : ((n : Int) / 2 ^ j) = ((n / 2 ^ j : Nat) : Int) := by simp
  have e1 : (1 : Int) = ((1 : Nat) : Int) := rfl
  have hlt : n / 2 ^ j < 18446744073709551616 := Nat.lt_of_le_of_lt (Nat.div_le_self _ _) h
  rw [e, e1, u64_and_nat _ _ hlt (by decide), nat_mask1, Nat.testBit_eq_decide_div_mod_eq, Bool.eq_iff_iff, beq_iff_eq, decide_eq_true_iff]
  omega
theorem str_app (x y : List UInt8) : (ByteArray.mk x.toArray ++ ByteArray.mk y.toArray) = ByteArray.mk (x ++ y).toArray := by
  apply ByteArray.ext
  rw [ByteArray.data_append]
  simp
theorem read_drop (s : ByteArray) (k : Nat) (h : k < s.size) : (read s.data.toList).drop k = isOne s[k] :: (read s.data.toList).drop (k + 1) := by
  have hk : k < s.data.toList.length := by simpa using h
  unfold read
  rw [← List.map_drop, ← List.map_drop, List.drop_eq_getElem_cons hk, List.map_cons]
  rfl
end Go.Proofs.YthkaekpoicodeaaGreatDoor.Bm
/- Plain mathematics of frames: cuts of a row, numbers below a power of two. -/
namespace Go.Proofs.YthkaekpoicodeaaGreatDoor.Fm
open Go.Proofs.YthkaekpoicodeaaGreatDoor.Bm
theorem num_val_from (bs : List Bool) : ∀ a, bs.foldl numStep (a % 18446744073709551616) = (bs.foldl (fun a b => 2 * a + bv b) a) % 18446744073709551616 := by
  induction bs with
  | nil => intro a; rfl
  | cons b t ih =>
    intro a
    rw [List.foldl_cons, List.foldl_cons, ← ih]
    congr 1
    unfold numStep
    omega
theorem num_val (bs : List Bool) : num bs = val bs % 18446744073709551616 := num_val_from bs 0
theorem num_lt_pow (bs : List Bool) : num bs < 2 ^ bs.length := by
  rw [num_val]
  exact Nat.lt_of_le_of_lt (Nat.mod_le _ _) (val_lt bs)
theorem read_extract (s : ByteArray) (i j : Nat) : read (s.extract i j).data.toList = cut (read s.data.toList) i (j - i) := by
  rw [Lib.extract_data]
  unfold Bm.read cut
  rw [List.map_take, List.map_drop]
theorem length_cut (bs : List Bool) (i l : Nat) : (cut bs i l).length ≤ l := by unfold cut; rw [List.length_take]; omega
theorem num_cut (bs : List Bool) (i l : Nat) : num (cut bs i l) < 2 ^ l :=
  Nat.lt_of_lt_of_le (num_lt_pow _) (Nat.pow_le_pow_right (by decide) (length_cut bs i l))
theorem getD_read (s : ByteArray) (k : Nat) (h : k < s.size) : (read s.data.toList).getD k false = isOne s[k] := by
  have h2 : k < (read s.data.toList).length := by rw [length_read]; simpa using h
  rw [List.getD_eq_getElem?_getD, List.getElem?_eq_getElem h2]
  show (List.map isOne s.data.toList)[k]'(by simpa [Bm.read] using h2) = isOne s[k]
  rw [List.getElem_map]
  rfl
theorem one_dec (s : ByteArray) (k : Nat) (h : k < s.size) : ((s[k].toNat : Int) == 49) = (read s.data.toList).getD k false := by
  rw [isOne_dec, getD_read s k h]
end Go.Proofs.YthkaekpoicodeaaGreatDoor.Fm
/- Plain mathematics of frames on the wire: one bit turned; six bits alike. -/
namespace Go.Proofs.YthkaekpoicodeaaGreatDoor.Cm
open Go.Proofs.YthkaekpoicodeaaGreatDoor.Bm Go.Proofs.YthkaekpoicodeaaGreatDoor.Fm Go.Proofs.YthkaekpoicodeaaGreatDoor.Sm
/-! six alike -/
theorem getD_pre (p e : List Bool) (i : Nat) (h : i < p.length) : (p ++ e).getD i false = p.getD i false := by
  rw [List.getD_eq_getElem?_getD, List.getD_eq_getElem?_getD, List.getElem?_append_left h]
theorem cut_pre (p e : List Bool) (i l : Nat) (h : i + l ≤ p.length) : cut (p ++ e) i l = cut p i l := by
  unfold cut
  rw [List.drop_append_of_le_length (by omega), List.take_append_of_le_length (by rw [List.length_drop]; omega)]
/-- a row that tells a frame within its beginning tells it by that -/
theorem parse_pre (p e : List Bool) (h : (parse (p ++ e)).2.2 = 0) (hn : (parse (p ++ e)).2.1 ≤ p.length) : (parse p).2.2 = 0 := by
  have hl : p.length ≤ (p ++ e).length := by rw [List.length_append]; omega
  unfold parse at h hn
  by_cases c1 : (p ++ e).length < 1
  · rw [if_pos c1] at h; cases h
  rw [if_neg c1] at h hn
  cases q0 : (p ++ e).getD 0 false
  case true => rw [q0, if_pos rfl] at h; cases h
  rw [q0, if_neg (by decide)] at h hn
  by_cases c2 : (p ++ e).length < 14
  · rw [if_pos c2] at h; cases h
  rw [if_neg c2] at h hn
  cases q13 : (p ++ e).getD 13 false
  · rw [q13, if_neg (by decide)] at h hn
    unfold parseL at h hn
    by_cases c3 : (p ++ e).length < 15 + 4
    · rw [if_pos c3] at h; cases h
    rw [if_neg c3] at h hn
    unfold parseD at h hn
    by_cases c4 : (p ++ e).length < 15 + 4 + 8 * (if (p ++ e).getD 12 false then 0 else min (num (cut (p ++ e) 15 4)) 8)
    · rw [if_pos c4] at h; cases h
    rw [if_neg c4] at hn
    simp only at hn
    have hp : 19 ≤ p.length := by omega
    rw [getD_pre p e 12 (by omega), cut_pre p e 15 4 (by omega)] at hn
    rw [getD_pre p e 13 (by omega)] at q13
    rw [getD_pre p e 0 (by omega)] at q0
    unfold parse
    rw [if_neg (by omega), q0, if_neg (by decide), if_neg (by omega), q13, if_neg (by decide)]
    unfold parseL
    rw [if_neg (by omega)]
    unfold parseD
    rw [if_neg (by omega)]
  · rw [q13, if_pos rfl] at h hn
    cases q12 : (p ++ e).getD 12 false
    · rw [q12, if_neg (by decide)] at h; cases h
    rw [q12, if_pos rfl] at h hn
    by_cases c5 : (p ++ e).length < 33
    · rw [if_pos c5] at h; cases h
    rw [if_neg c5] at h hn
    unfold parseL at h hn
    by_cases c3 : (p ++ e).length < 35 + 4
    · rw [if_pos c3] at h; cases h
    rw [if_neg c3] at h hn
    unfold parseD at h hn
    by_cases c4 : (p ++ e).length < 35 + 4 + 8 * (if (p ++ e).getD 32 false then 0 else min (num (cut (p ++ e) 35 4)) 8)
    · rw [if_pos c4] at h; cases h
    rw [if_neg c4] at hn
    simp only at hn
    have hp : 39 ≤ p.length := by omega
    rw [getD_pre p e 32 (by omega), cut_pre p e 35 4 (by omega)] at hn
    rw [getD_pre p e 13 (by omega)] at q13
    rw [getD_pre p e 12 (by omega)] at q12
    rw [getD_pre p e 0 (by omega)] at q0
    unfold parse
    rw [if_neg (by omega), q0, if_neg (by decide), if_neg (by omega), q13, if_pos rfl, q12, if_pos rfl, if_neg (by omega)]
    unfold parseL
    rw [if_neg (by omega)]
    unfold parseD
    rw [if_neg (by omega)]
theorem learn_pre (p e : List Bool) (f : Fr) (nn : Nat) (hp : (learn p).1 = none) (h : (learn (p ++ e)).1 = some (f, nn)) : p.length < nn := by
  have h2 : (parse (p ++ e)).2.2 = 0 ∧ (parse (p ++ e)).2.1 = nn := by
    unfold learn at h
    split at h
    · cases h
    · split at h
      · rename_i h0
        simp only [Option.some.injEq, Prod.mk.injEq] at h
        exact ⟨h0, h.2⟩
      · cases h
  refine Nat.lt_of_not_le fun hle => ?_
  have h3 := parse_pre p e h2.1 (by rw [h2.2]; exact hle)
  unfold learn at hp
  rw [if_neg (by rw [h3]; decide), if_pos h3] at hp
  cases hp
end Go.Proofs.YthkaekpoicodeaaGreatDoor.Cm
/- How the document's own text of layer 2 holds a run: a count and a sign; plain mathematics. -/
namespace Go.Proofs.YthkaekpoicodeaaGreatDoor.Sm
open Go.Proofs.YthkaekpoicodeaaGreatDoor (Bm.sign Bm.isOne)

def wb (c : Int) : Int := if c = 49 then 49 else 48
def wn (n x c : Int) : Int := if 0 < n ∧ x = wb c then n + 1 else 1
def sg (b : Bool) : Int := if b then 49 else 48
/-- the sign that a run holds: 0 where there is none -/
def sv (r : Nat × Bool) : Int := if r.1 = 0 then 0 else sg r.2
theorem sg_sign (b : Bool) : sg b = ((Bm.sign b).toNat : Int) := by cases b <;> rfl
theorem wb_byte (c : UInt8) : wb (c.toNat : Int) = sg (Bm.isOne c) := by
  have h := Bm.isOne_dec c
  unfold wb sg
  by_cases e : (c.toNat : Int) = 49
  · rw [if_pos e, ← h, e]; rfl
  · rw [if_neg e, ← h, beq_eq_false_iff_ne.2 e]; rfl
theorem sg_inj (a b : Bool) : sg a = sg b ↔ a = b := by cases a <;> cases b <;> decide
theorem wn_step (r : Nat × Bool) (c : UInt8) : wn (r.1 : Int) (sv r) (c.toNat : Int) = ((step r (Bm.isOne c)).1 : Int) := by
  unfold wn step sv
  rw [wb_byte]
  by_cases h0 : r.1 = 0
  · rw [if_neg (by omega), if_neg (by omega)]; rfl
  · rw [if_neg h0]
    by_cases hb : r.2 = Bm.isOne c
    · rw [if_pos ⟨by omega, (sg_inj _ _).2 hb⟩, if_pos ⟨by omega, hb⟩]; rfl
    · rw [if_neg (fun h => hb ((sg_inj _ _).1 h.2)), if_neg (fun h => hb h.2)]; rfl
theorem sv_step (r : Nat × Bool) (c : UInt8) : wb (c.toNat : Int) = sv (step r (Bm.isOne c)) := by
  have hp := step_pos r (Bm.isOne c)
  unfold sv
  rw [if_neg (by omega), step_snd, wb_byte]
theorem sv_sign (r : Nat × Bool) (h : 0 < r.1) : sv r = ((Bm.sign r.2).toNat : Int) := by unfold sv; rw [if_neg (by omega), sg_sign]
/-- a number held from 0 to 10000 -/
def hold (n : Int) : Nat := (max 0 (min n 10000)).toNat
/-- the other sign -/
def ob (c : Int) : Int := if c = 49 then 48 else 49
theorem ob_sv (r : Nat × Bool) (h : 0 < r.1) : ob (sv r) = sv (1, !r.2) := by
  have h0 : ¬ r.1 = 0 := by omega
  have e1 : sv r = sg r.2 := by unfold sv; rw [if_neg h0]
  have e2 : sv (1, !r.2) = sg (!r.2) := by unfold sv; rw [if_neg (by simp)]
  rw [e1, e2]
  cases r.2 <;> decide
end Go.Proofs.YthkaekpoicodeaaGreatDoor.Sm
/- Bounds of what layer 2 tells; plain mathematics. -/
namespace Go.Proofs.YthkaekpoicodeaaGreatDoor.Sm
theorem unB_len (bs : List Bool) : ∀ r o i, (unB r o i bs).1.length ≤ o.length + bs.length := by
  induction bs with
  | nil => intro r o i; simp [unB]
  | cons c t ih =>
    intro r o i
    unfold unB
    split
    · simp
    · have := ih (step r c) (if r.1 = 5 then o else o ++ [c]) (i + 1)
      have h2 : (if r.1 = 5 then o else o ++ [c]).length ≤ o.length + 1 := by split <;> simp
      simp only [List.length_cons] at *
      omega
theorem unstuff_len (bs : List Bool) : (unstuff bs).1.length ≤ bs.length := by
  have h := unB_len bs (0, false) [] 0
  rw [List.length_nil, Nat.zero_add] at h
  exact h
end Go.Proofs.YthkaekpoicodeaaGreatDoor.Sm
/- Runs counted place by place; plain mathematics. -/
namespace Go.Proofs.YthkaekpoicodeaaGreatDoor.Sm
end Go.Proofs.YthkaekpoicodeaaGreatDoor.Sm
/- Plain mathematics of frames on the wire: six bits alike within what was sent are told at the sixth. -/
namespace Go.Proofs.YthkaekpoicodeaaGreatDoor.Cm
open Go.Proofs.YthkaekpoicodeaaGreatDoor.Bm Go.Proofs.YthkaekpoicodeaaGreatDoor.Fm Go.Proofs.YthkaekpoicodeaaGreatDoor.Sm
/-- where the reader stands within what was sent -/
def Mid (f : Fr) (bl : Nat) (P : List Bool) (s : Rd) (rest : List Bool) : Prop :=
  (∃ k, k ≤ P.length ∧ s = at_ f bl P s.r k ∧ s.r.1 < 5 ∧ rest = stB s.r [] (P.drop k)) ∨ (∃ k c, k ≤ P.length ∧ s = ⟨(5, c), P.take k, wOf f bl k, none⟩ ∧ rest = (!c) :: stB (1, !c) [] (P.drop k))
end Go.Proofs.YthkaekpoicodeaaGreatDoor.Cm
/- Plain mathematics of frames on the wire: sums that are nothing, what longer rows tell, rows taken away and laid again; nothing of the program is in it. -/
namespace Go.Proofs.YthkaekpoicodeaaGreatDoor.Cm
open Go.Proofs.YthkaekpoicodeaaGreatDoor.Bm Go.Proofs.YthkaekpoicodeaaGreatDoor.Fm Go.Proofs.YthkaekpoicodeaaGreatDoor.Sm
/-! the sum -/
def val : List Bool → Nat
  | [] => 0
  | b :: t => bv b * 2 ^ t.length + val t
theorem val_lt (l : List Bool) : val l < 2 ^ l.length := by
  induction l with
  | nil => decide
  | cons b t ih =>
    have hb := bv_le b
    show bv b * 2 ^ t.length + val t < 2 ^ (t.length + 1)
    have : bv b * 2 ^ t.length ≤ 1 * 2 ^ t.length := Nat.mul_le_mul_right _ hb
    rw [Nat.pow_succ]
    omega
theorem num_go (l : List Bool) : ∀ a, a < 2 ^ (64 - l.length) → l.length ≤ 64 → l.foldl numStep a = a * 2 ^ l.length + val l := by
  induction l with
  | nil => intro a _ _; simp [val]
  | cons b t ih =>
    intro a ha hl
    simp only [List.length_cons] at ha hl
    have hb := bv_le b
    have e : (2 : Nat) ^ (64 - t.length) = 2 ^ (64 - (t.length + 1)) * 2 := by rw [← Nat.pow_succ]; congr 1; omega
    have hle : (2 : Nat) ^ (64 - t.length) ≤ 2 ^ 64 := Nat.pow_le_pow_right (by decide) (by omega)
    have h64 : (2 : Nat) ^ 64 = 18446744073709551616 := by decide
    have hs : numStep a b = 2 * a + bv b := by
      unfold numStep
      exact Nat.mod_eq_of_lt (by omega)
    show t.foldl numStep (numStep a b) = _
    rw [ih (numStep a b) (by rw [hs]; omega) (by omega), hs]
    show _ = a * 2 ^ (t.length + 1) + (bv b * 2 ^ t.length + val t)
    rw [Nat.pow_succ, Nat.add_mul, Nat.mul_comm 2 a, Nat.mul_assoc, Nat.mul_comm 2 (2 ^ t.length), Nat.add_assoc]
theorem num_val (l : List Bool) (h : l.length ≤ 64) : num l = val l := by
  have := num_go l 0 (Nat.pow_pos (by decide)) h
  rw [Nat.zero_mul, Nat.zero_add] at this
  exact this
theorem crcFrom_zero (l : List Bool) : ∀ s, s < 32768 → l.length ≤ 15 → (crcFrom s l = 0 ↔ s = val l * 2 ^ (15 - l.length)) := by
  induction l with
  | nil => intro s _ _; simp [crcFrom, val]
  | cons b t ih =>
    intro s hs hl
    simp only [List.length_cons] at hl ⊢
    show crcFrom (crcStep s b) t = 0 ↔ _
    rw [ih _ (crcStep_lt s b) (by omega)]
    have hv := val_lt t
    show _ ↔ s = (bv b * 2 ^ t.length + val t) * 2 ^ (15 - (t.length + 1))
    have e1 : (2 : Nat) ^ (15 - t.length) = 2 * 2 ^ (15 - (t.length + 1)) := by rw [Nat.mul_comm, ← Nat.pow_succ]; congr 1; omega
    have e2 : (2 : Nat) ^ t.length * 2 ^ (15 - (t.length + 1)) = 16384 := by rw [← Nat.pow_add, show t.length + (15 - (t.length + 1)) = 14 by omega]
    have e3 : val t * 2 ^ (15 - t.length) = 2 * (val t * 2 ^ (15 - (t.length + 1))) := by rw [e1, Nat.mul_left_comm]
    have e4 : val t * 2 ^ (15 - (t.length + 1)) < 16384 := by rw [← e2]; exact Nat.mul_lt_mul_of_pos_right hv (Nat.pow_pos (by decide))
    rw [e3, Nat.add_mul, Nat.mul_assoc, e2]
    generalize val t * 2 ^ (15 - (t.length + 1)) = v at *
    unfold crcStep
    by_cases ht : 16384 ≤ s
    · rw [decide_eq_true ht]
      cases b
      · rw [if_pos (by decide)]
        constructor
        · intro h
          have h2 := congrArg (· % 2) h
          simp only [Nat.mul_mod_right] at h2
          have h3 : ((2 * s % 32768) ^^^ 17817) % 2 = 1 := by
            rw [show (2 : Nat) = 2 ^ 1 from rfl, Nat.xor_mod_two_pow]
            have : 2 ^ 1 * s % 32768 % 2 ^ 1 = 0 := by omega
            rw [this]
            rfl
          omega
        · intro h
          simp [bv] at h
          omega
      · rw [if_neg (by decide)]
        simp only [bv, if_true, Nat.one_mul]
        omega
    · rw [decide_eq_false ht]
      cases b
      · rw [if_neg (by decide)]
        simp only [bv, Bool.false_eq_true, if_false, Nat.zero_mul, Nat.zero_add]
        omega
      · rw [if_pos (by decide)]
        constructor
        · intro h
          have h2 := congrArg (· % 2) h
          simp only [Nat.mul_mod_right] at h2
          have h3 : ((2 * s % 32768) ^^^ 17817) % 2 = 1 := by
            rw [show (2 : Nat) = 2 ^ 1 from rfl, Nat.xor_mod_two_pow]
            have : 2 ^ 1 * s % 32768 % 2 ^ 1 = 0 := by omega
            rw [this]
            rfl
          omega
        · intro h
          simp [bv] at h
          omega
theorem right_zero (p : List Bool) (n : Nat) (h : p.length = n + 15) : right p n = (crc p == 0) := by
  have hd : (p.drop n).length = 15 := by rw [List.length_drop]; omega
  have e : crc p = crcFrom (crc (p.take n)) (p.drop n) := by rw [← crc_append, List.take_append_drop]
  have hz := crcFrom_zero (p.drop n) (crc (p.take n)) (crc_lt _) (by omega)
  rw [hd, Nat.sub_self, Nat.pow_zero, Nat.mul_one, ← num_val _ (by omega), ← e] at hz
  unfold right
  by_cases c : crc p = 0
  · rw [c, ← hz.1 c]; simp
  · rw [beq_eq_false_iff_ne.2 c, beq_eq_false_iff_ne]
    exact fun h => c (hz.2 h.symm)
/-! what a longer row tells -/
theorem parse_code (p : List Bool) : (parse p).2.2 = 0 ∨ (parse p).2.2 = 10 ∨ (parse p).2.2 = 12 := by
  unfold parse parseL parseD none_
  repeat' split
  all_goals simp
theorem parse_short (p : List Bool) (h : (parse p).2.2 = 10) : p.length ≤ 102 := by
  unfold parse parseL parseD none_ at h
  repeat' split at h
  all_goals first | (simp at h; done) | omega
theorem parse_long (p : List Bool) (h : (parse p).2.2 = 0) : (parse p).2.1 ≤ 103 ∧ (parse p).2.1 ≤ p.length := by
  unfold parse parseL parseD none_ at h ⊢
  repeat' split at h
  all_goals first | (simp at h; done) | skip
  all_goals simp only [*]
  all_goals simp [*]
  all_goals omega
theorem parse_form (p : List Bool) : parse p = none_ 10 ∨ parse p = none_ 12 ∨ (parse p).2.2 = 0 := by
  unfold parse parseL parseD
  repeat' split
  all_goals simp
theorem parse_none (p : List Bool) (h : (parse p).2.2 ≠ 0) : parse p = none_ (parse p).2.2 := by
  rcases parse_form p with e | e | e
  · rw [e]; rfl
  · rw [e]; rfl
  · exact absurd e h
theorem parse_more12 (p e : List Bool) (h : (parse p).2.2 = 12) : (parse (p ++ e)).2.2 = 12 := by
  unfold parse at h ⊢
  rw [List.length_append]
  by_cases c1 : p.length < 1
  · rw [if_pos c1] at h; cases h
  rw [if_neg c1] at h
  rw [if_neg (by omega), getD_pre p e 0 (by omega)]
  cases q0 : p.getD 0 false
  case true => rw [if_pos rfl]; rfl
  rw [q0, if_neg (by decide)] at h
  rw [if_neg (by decide)]
  by_cases c2 : p.length < 14
  · rw [if_pos c2] at h; cases h
  rw [if_neg c2] at h
  rw [if_neg (by omega), getD_pre p e 13 (by omega), getD_pre p e 12 (by omega)]
  cases q13 : p.getD 13 false
  · rw [q13, if_neg (by decide)] at h
    unfold parseL parseD at h
    repeat' split at h
    all_goals cases h
  · rw [q13, if_pos rfl] at h
    rw [if_pos rfl]
    cases q12 : p.getD 12 false
    · rfl
    · rw [q12, if_pos rfl] at h
      unfold parseL parseD at h
      repeat' split at h
      all_goals cases h
theorem parseD_more (p e : List Bool) (x : Bool) (n : Nat) (r : Bool) (a k : Nat) (h : (parseD p x n r a k).2.2 = 0) : parseD (p ++ e) x n r a k = parseD p x n r a k := by
  unfold parseD at h ⊢
  by_cases c : p.length < a + 8 * k
  · rw [if_pos c] at h; cases h
  · rw [if_neg c, if_neg (by rw [List.length_append]; omega), cut_pre p e a (8 * k) (by omega)]
theorem parseL_more (p e : List Bool) (x : Bool) (n : Nat) (r : Bool) (a : Nat) (h : (parseL p x n r a).2.2 = 0) : parseL (p ++ e) x n r a = parseL p x n r a := by
  unfold parseL at h ⊢
  by_cases c : p.length < a + 4
  · rw [if_pos c] at h; cases h
  · rw [if_neg c] at h
    rw [if_neg c, if_neg (by rw [List.length_append]; omega), cut_pre p e a 4 (by omega)]
    exact parseD_more p e _ _ _ _ _ h
theorem parse_more0 (p e : List Bool) (h : (parse p).2.2 = 0) : parse (p ++ e) = parse p := by
  unfold parse at h ⊢
  rw [List.length_append]
  by_cases c1 : p.length < 1
  · rw [if_pos c1] at h; cases h
  rw [if_neg c1] at h
  rw [if_neg c1, if_neg (show ¬ (p.length + e.length < 1) by omega), getD_pre p e 0 (by omega)]
  cases q0 : p.getD 0 false
  case true => rw [q0, if_pos rfl] at h; cases h
  rw [q0, if_neg (by decide)] at h
  rw [if_neg (show ¬ (false = true) by decide), if_neg (show ¬ (false = true) by decide)]
  by_cases c2 : p.length < 14
  · rw [if_pos c2] at h; cases h
  rw [if_neg c2] at h
  rw [if_neg c2, if_neg (show ¬ (p.length + e.length < 14) by omega), getD_pre p e 13 (by omega), getD_pre p e 12 (by omega), cut_pre p e 1 11 (by omega)]
  cases q13 : p.getD 13 false
  · rw [q13, if_neg (by decide)] at h
    rw [if_neg (show ¬ (false = true) by decide), if_neg (show ¬ (false = true) by decide)]
    exact parseL_more p e _ _ _ _ h
  · rw [q13, if_pos rfl] at h
    rw [if_pos (show true = true from rfl), if_pos (show true = true from rfl)]
    cases q12 : p.getD 12 false
    · rfl
    · rw [q12, if_pos rfl] at h
      rw [if_pos (show true = true from rfl), if_pos (show true = true from rfl)]
      by_cases c3 : p.length < 33
      · rw [if_pos c3] at h; cases h
      rw [if_neg c3] at h
      rw [if_neg c3, if_neg (show ¬ (p.length + e.length < 33) by omega), getD_pre p e 32 (by omega), cut_pre p e 14 18 (by omega)]
      exact parseL_more p e _ _ _ _ h
/-! rows taken away and laid again -/
theorem stuff_un (m : Nat) : ∀ (l : List Bool), l.length ≤ m → ∀ (r : Nat × Bool) (i : Nat), r.1 < 5 → calm r l → stB r [] (unB r [] i l).1 = if (run r l).1 = 5 then l ++ [!(run r l).2] else l := by
  induction m with
  | zero =>
    intro l hl r i hr _
    obtain rfl : l = [] := List.eq_nil_of_length_eq_zero (by omega)
    rw [run_nil, if_neg (by omega)]
    rfl
  | succ m ih =>
    intro l hl r i hr hc
    cases l with
    | nil =>
      rw [run_nil, if_neg (by omega)]
      rfl
    | cons c t =>
      have h1 : (Sm.step r c).1 ≤ 5 := calm_tail hc 0
      have e : unB r [] i (c :: t) = unB (Sm.step r c) [c] (i + 1) t := by
        conv => lhs; unfold unB; rw [if_neg (by omega), if_neg (by omega)]
        rfl
      by_cases h5 : (Sm.step r c).1 = 5
      · have hs : Sm.step r c = (5, c) := Prod.ext h5 (step_snd r c)
        cases t with
        | nil =>
          rw [e, run_cons, run_nil, hs, if_pos rfl]
          show stB r [] [c] = _
          rw [stB_cons5 r c [] h5]
          rfl
        | cons b u =>
          have h2 : (Sm.step (5, c) b).1 ≤ 5 := by have := calm_tail (calm_tail hc) 0; rw [hs] at this; exact this
          have hb : b = !c := by
            unfold Sm.step at h2
            by_cases hcb : c = b
            · rw [if_pos ⟨by simp, hcb⟩] at h2; simp at h2
            · cases b <;> cases c <;> simp_all
          subst hb
          have hs2 := step_other c 5 c rfl
          have hu : calm (1, !c) u := by have := calm_tail (calm_tail hc); rw [hs, hs2] at this; exact this
          have e2 : unB (5, c) [c] (i + 1) ((!c) :: u) = unB (1, !c) [c] (i + 1 + 1) u := by
            conv => lhs; unfold unB; rw [hs2, if_neg (by simp), if_pos rfl]
          rw [e, hs, e2, unB_out, run_cons, run_cons, hs, hs2]
          show stB r [] (c :: (unB (1, !c) [] (i + 1 + 1) u).1) = _
          rw [stB_cons5 r c _ h5, ih u (by simp at hl; omega) (1, !c) (i + 1 + 1) (by simp) hu]
          split <;> rfl
      · rw [e, unB_out, run_cons]
        show stB r [] (c :: (unB (Sm.step r c) [] (i + 1) t).1) = _
        rw [stB_cons r c _ h5, ih t (by simpa using hl) (Sm.step r c) (i + 1) (by omega) (calm_tail hc)]
        split <;> rfl
theorem stuff_unstuff (a : List Bool) (h : calm (0, false) a) : stuff (unstuff a).1 = if (run (0, false) a).1 = 5 then a ++ [!(run (0, false) a).2] else a := stuff_un a.length a (Nat.le_refl _) (0, false) 0 (by decide) h
theorem calm_snoc {r : Nat × Bool} {a : List Bool} {c : Bool} (h : calm r a) (hc : (Sm.step (run r a) c).1 ≤ 5) : calm r (a ++ [c]) := fun k => by
  by_cases hk : k ≤ a.length
  · rw [List.take_append_of_le_length hk]; exact h k
  · rw [List.take_of_length_le (by simp; omega), run_append, run_cons, run_nil]; exact hc
theorem un_snoc {a : List Bool} (c : Bool) (h : calm (0, false) a) (hc : (Sm.step (run (0, false) a) c).1 ≤ 5) : unstuff (a ++ [c]) = (if (run (0, false) a).1 = 5 then (unstuff a).1 else (unstuff a).1 ++ [c], -1) := by
  have e : unstuff (a ++ [c]) = unB (run (0, false) a) (unstuff a).1 (0 + a.length) [c] := un_append a [c] _ _ _ h
  rw [e]
  unfold unB
  rw [if_neg (by omega)]
  rfl
/-- what is taken away of a longer row: what stands already, and where six are told -/
theorem un_more {a : List Bool} (l : List Bool) (h : calm (0, false) a) : ∃ m, (unstuff (a ++ l)).1 = (unstuff a).1 ++ m ∧ ((unstuff (a ++ l)).2 = -1 ∨ (a.length : Int) ≤ (unstuff (a ++ l)).2) := by
  have e : unstuff (a ++ l) = unB (run (0, false) a) (unstuff a).1 (0 + a.length) l := un_append a l _ _ _ h
  rw [e, unB_out]
  refine ⟨_, rfl, ?_⟩
  have key : ∀ (l : List Bool) (r : Nat × Bool) (o : List Bool) (i : Nat), (unB r o i l).2 = -1 ∨ (i : Int) ≤ (unB r o i l).2 := by
    intro l
    induction l with
    | nil => intro r o i; exact Or.inl rfl
    | cons c t ih =>
      intro r o i
      unfold unB
      split
      · exact Or.inr (Int.le_refl _)
      · rcases ih (Sm.step r c) (if r.1 = 5 then o else o ++ [c]) (i + 1) with h | h
        · exact Or.inl h
        · exact Or.inr (by omega)
  rcases key l (run (0, false) a) [] (0 + a.length) with h | h
  · exact Or.inl h
  · exact Or.inr (by omega)
end Go.Proofs.YthkaekpoicodeaaGreatDoor.Cm
/- Plain mathematics of frames on the wire: a reader that takes a whole row at once answers as the reader bit by bit. -/
namespace Go.Proofs.YthkaekpoicodeaaGreatDoor.Cm
open Go.Proofs.YthkaekpoicodeaaGreatDoor.Bm Go.Proofs.YthkaekpoicodeaaGreatDoor.Fm Go.Proofs.YthkaekpoicodeaaGreatDoor.Sm
/-- where on the wire the bit stands that has so many ahead of it -/
def place (left : List Bool) (k : Nat) : Nat := (stuff (left.take k)).length
def brk (left : List Bool) : Nat → Nat → Nat
  | 0, k => k
  | m + 1, k => if (parse (left.take (k + 1))).2.2 = 12 then k else brk left m (k + 1)
def fbreak (left : List Bool) : Nat := place left (brk left left.length 0)
/-- what stands ahead of the ends: the frame, whether its sum is right, how long; or the place and the error -/
def rlaid (row : List Bool) : (Fr × Bool × Nat) × Nat × Nat :=
  if (parse (unstuff row).1).2.2 = 12 then ((noF, false, 0), fbreak (unstuff row).1, 12)
  else if ((parse (unstuff row).1).2.2 = 0 ∧ (parse (unstuff row).1).2.1 + 15 ≤ (unstuff row).1.length ∧ (((unstuff row).2 < 0 ∧ place (unstuff row).1 ((parse (unstuff row).1).2.1 + 15) ≤ row.length) ∨ (place (unstuff row).1 ((parse (unstuff row).1).2.1 + 15) : Int) ≤ (unstuff row).2)) then (((parse (unstuff row).1).1, crc ((unstuff row).1.take ((parse (unstuff row).1).2.1 + 15)) == 0, place (unstuff row).1 ((parse (unstuff row).1).2.1 + 15)), 0, 0)
  else if 0 ≤ (unstuff row).2 then ((noF, false, 0), (unstuff row).2.toNat, 20)
  else ((noF, false, 0), row.length, 10)
/-- the ends, from the i-th on: how many bits, or the place and the error -/
def endsB (row : List Bool) (rt : Bool) : Nat → Nat → Nat → Nat × Nat
  | 0, _, p => (p, 0)
  | m + 1, i, p => if row.length ≤ p then (p, 10) else if i = 1 then endsB row rt m (i + 1) (p + 1) else if row.getD p false = false then (p, 12) else if i = 2 ∧ rt = false then (p, 40) else endsB row rt m (i + 1) (p + 1)
def ldec (row : List Bool) : Fr × Nat × Nat :=
  if (rlaid row).2.2 = 0 then (if (endsB row (rlaid row).1.2.1 10 0 (rlaid row).1.2.2).2 = 0 then ((rlaid row).1.1, (endsB row (rlaid row).1.2.1 10 0 (rlaid row).1.2.2).1, 0) else (noF, (endsB row (rlaid row).1.2.1 10 0 (rlaid row).1.2.2).1, (endsB row (rlaid row).1.2.1 10 0 (rlaid row).1.2.2).2))
  else (noF, (rlaid row).2.1, (rlaid row).2.2)

/-- the first bit with which the form is broken -/
theorem brk_at (left : List Bool) (k : Nat) (h1 : ∀ j, j < k → (parse (left.take (j + 1))).2.2 ≠ 12) (h2 : (parse (left.take (k + 1))).2.2 = 12) : ∀ m i, i ≤ k → k < i + m → brk left m i = k := by
  intro m
  induction m with
  | zero => intro i a b; omega
  | succ m ih =>
    intro i a b
    unfold brk
    by_cases c : i = k
    · subst c; rw [if_pos h2]
    · rw [if_neg (h1 i (by omega))]; exact ih (i + 1) (by omega) (by omega)
/-- the ends as the reader sees them -/
theorem ends_go (q : Nat × Bool) (P : List Bool) (f : Fr) (bl : Nat) (row : List Bool) : ∀ (m t i : Nat), t + m = 10 → 0 < m → i ≤ row.length →
    dB ⟨q, P, some (f, bl), some t⟩ i (row.drop i) = if (endsB row (right P bl) m t i).2 = 0 then (f, (endsB row (right P bl) m t i).1, 0) else (noF, (endsB row (right P bl) m t i).1, (endsB row (right P bl) m t i).2) := by
  intro m
  induction m with
  | zero => intro t i _ h; omega
  | succ m ih =>
    intro t i ht _ hi
    by_cases c : i = row.length
    · rw [List.drop_of_length_le (by omega), dB_nil]
      have e : endsB row (right P bl) (m + 1) t i = (i, 10) := by
        conv => lhs; unfold endsB
        rw [if_pos (by omega)]
      rw [e]
      rfl
    · have hlt : i < row.length := by omega
      rw [List.drop_eq_getElem_cons hlt]
      have hg : row.getD i false = row[i] := by rw [List.getD_eq_getElem?_getD, List.getElem?_eq_getElem hlt]; rfl
      have hb := bit_behind q P f bl t row[i]
      have go : bit ⟨q, P, some (f, bl), some t⟩ row[i] = (if t + 1 = 10 then (1, ⟨q, P, some (f, bl), some (t + 1)⟩) else (0, ⟨q, P, some (f, bl), some (t + 1)⟩)) →
          dB ⟨q, P, some (f, bl), some t⟩ i (row[i] :: row.drop (i + 1)) = if (endsB row (right P bl) m (t + 1) (i + 1)).2 = 0 then (f, (endsB row (right P bl) m (t + 1) (i + 1)).1, 0) else (noF, (endsB row (right P bl) m (t + 1) (i + 1)).1, (endsB row (right P bl) m (t + 1) (i + 1)).2) := by
        intro hb
        by_cases c10 : t + 1 = 10
        · rw [if_pos c10] at hb
          obtain rfl : m = 0 := by omega
          rw [dB_end hb]
          rfl
        · rw [if_neg c10] at hb
          rw [dB_go hb]
          exact ih (t + 1) (i + 1) (by omega) (by omega) hlt
      have e : endsB row (right P bl) (m + 1) t i = if t = 1 then endsB row (right P bl) m (t + 1) (i + 1) else if row[i] = false then (i, 12) else if t = 2 ∧ right P bl = false then (i, 40) else endsB row (right P bl) m (t + 1) (i + 1) := by
        conv => lhs; unfold endsB
        rw [if_neg (by omega), hg]
      rw [e]
      by_cases c1 : t = 1
      · rw [if_pos c1]
        apply go
        rw [hb, if_neg (by omega), if_neg (by omega)]
      · rw [if_neg c1]
        by_cases c2 : row[i] = false
        · rw [if_pos c2]
          rw [if_pos ⟨by omega, c2⟩] at hb
          rw [dB_err hb (by decide) (by decide)]
          rfl
        · rw [if_neg c2]
          rw [if_neg (fun h => c2 h.2)] at hb
          by_cases c3 : t = 2 ∧ right P bl = false
          · rw [if_pos c3]
            rw [if_pos ⟨by omega, c3.2⟩] at hb
            rw [dB_err hb (by decide) (by decide)]
            rfl
          · rw [if_neg c3]
            apply go
            rw [hb, if_neg (fun h => c3 ⟨by omega, h.2⟩)]
/-- a row ahead of the ends, nothing told -/
structure In (a : List Bool) (s : Rd) : Prop where
  cm : calm (0, false) a
  st : s = ⟨run (0, false) a, (unstuff a).1, (learn (unstuff a).1).1, none⟩
  ok : (parse (unstuff a).1).2.2 ≠ 12
  room : (parse (unstuff a).1).2.2 = 0 → (unstuff a).1.length < (parse (unstuff a).1).2.1 + 15 ∨ ((unstuff a).1.length = (parse (unstuff a).1).2.1 + 15 ∧ (run (0, false) a).1 = 5)
theorem in_new : In [] Rd.new := ⟨fun k => by rw [List.take_nil]; exact Nat.zero_le _, rfl, by decide, fun h => by cases h⟩
theorem learn_0 (p : List Bool) (h : (parse p).2.2 = 0) : learn p = (some ((parse p).1, (parse p).2.1), false) := by
  unfold learn; rw [if_neg (by rw [h]; decide), if_pos h]
theorem learn_10 (p : List Bool) (h : (parse p).2.2 = 10) : learn p = (none, false) := by
  unfold learn; rw [if_neg (by rw [h]; decide), if_neg (by rw [h]; decide)]
theorem learn_12 (p : List Bool) (h : (parse p).2.2 = 12) : learn p = (none, true) := by
  unfold learn; rw [if_pos h]
theorem learn_keeps (p e : List Bool) (h : (parse p).2.2 = 0) : learn (p ++ e) = learn p := by
  have h2 := parse_more0 p e h
  rw [learn_0 p h, learn_0 (p ++ e) (by rw [h2]; exact h), h2]
/-- the ends begin behind 'a' -/
structure Out (a : List Bool) (s : Rd) : Prop where
  cm : calm (0, false) a
  st : s = ⟨run (0, false) a, (unstuff a).1, some ((parse (unstuff a).1).1, (parse (unstuff a).1).2.1), some 0⟩
  ok : (parse (unstuff a).1).2.2 = 0
  full : (unstuff a).1.length = (parse (unstuff a).1).2.1 + 15
  calm5 : (run (0, false) a).1 ≠ 5
theorem lies_0 (p : List Bool) (f : Fr) (n : Nat) : lies p (some (f, n)) = decide (p.length = n + 15) := rfl
/-- one bit ahead of the ends -/
theorem in_bit {a : List Bool} {s : Rd} (H : In a s) (c : Bool) :
    ((Sm.step (run (0, false) a) c).1 = 6 ∧ ∃ s', bit s c = (20, s')) ∨
    ((Sm.step (run (0, false) a) c).1 ≤ 5 ∧ (run (0, false) a).1 ≠ 5 ∧ (parse ((unstuff a).1 ++ [c])).2.2 = 12 ∧ ∃ s', bit s c = (12, s')) ∨
    (∃ s', bit s c = (0, s') ∧ In (a ++ [c]) s') ∨ (∃ s', bit s c = (0, s') ∧ Out (a ++ [c]) s') := by
  obtain ⟨cm, st, ok, room⟩ := H
  have h5 := calm_run cm
  have hle := step_le (run (0, false) a) c
  by_cases h6 : (Sm.step (run (0, false) a) c).1 = 6
  · left
    refine ⟨h6, ?_⟩
    subst st
    show ∃ s', within _ c = _
    unfold within
    simp only
    rw [if_pos h6]
    exact ⟨_, rfl⟩
  right
  have hs : (Sm.step (run (0, false) a) c).1 ≤ 5 := by omega
  have hun := un_snoc c cm hs
  have hcm := calm_snoc cm hs
  have hrun : run (0, false) (a ++ [c]) = Sm.step (run (0, false) a) c := by rw [run_append, run_cons, run_nil]
  by_cases r5 : (run (0, false) a).1 = 5
  · -- a bit that was laid
    rw [if_pos r5] at hun
    have hu1 : (unstuff (a ++ [c])).1 = (unstuff a).1 := by rw [hun]
    have hn5 : (Sm.step (run (0, false) a) c).1 ≠ 5 := by
      intro h
      unfold Sm.step at h h6
      split at h
      · rename_i h2; rw [if_pos h2] at h6; simp only at h; omega
      · cases h
    right
    have hb : bit s c = (0, ⟨Sm.step (run (0, false) a) c, (unstuff a).1, (learn (unstuff a).1).1, if lies (unstuff a).1 (learn (unstuff a).1).1 = true ∧ (Sm.step (run (0, false) a) c).1 ≠ 5 then some 0 else none⟩) := by
      subst st
      show within _ c = _
      unfold within
      simp only
      rw [if_neg h6, if_pos r5]
    rcases parse_code (unstuff a).1 with p0 | p0 | p0
    · rcases room p0 with h | ⟨h, _⟩
      · left
        refine ⟨_, hb, hcm, ?_, by rw [hu1]; exact ok, fun _ => Or.inl (by rw [hu1]; exact h)⟩
        rw [hu1, hrun, learn_0 _ p0]
        simp only
        rw [lies_0, decide_eq_false (by omega), if_neg (by simp)]
      · right
        refine ⟨_, hb, hcm, ?_, by rw [hu1]; exact p0, by rw [hu1]; exact h, by rw [hrun]; exact hn5⟩
        rw [hu1, hrun, learn_0 _ p0]
        simp only
        rw [lies_0, decide_eq_true h, if_pos ⟨rfl, hn5⟩]
    · left
      refine ⟨_, hb, hcm, ?_, by rw [hu1]; exact ok, fun h => absurd (by rw [← hu1, h]) (show (0 : Nat) ≠ (parse (unstuff a).1).2.2 by rw [p0]; decide)⟩
      rw [hu1, hrun, learn_10 _ p0]
      simp only
      rw [if_neg]
      rintro ⟨h, _⟩
      cases h
    · exact absurd p0 ok
  · rw [if_neg r5] at hun
    have hu1 : (unstuff (a ++ [c])).1 = (unstuff a).1 ++ [c] := by rw [hun]
    have hlen : ((unstuff a).1 ++ [c]).length = (unstuff a).1.length + 1 := by simp
    -- what goes on, the frame known or not
    have fin : ∀ (_ : (parse ((unstuff a).1 ++ [c])).2.2 ≠ 12) (_ : (parse ((unstuff a).1 ++ [c])).2.2 = 0 → (unstuff a).1.length + 1 ≤ (parse ((unstuff a).1 ++ [c])).2.1 + 15)
        (_ : bit s c = (0, ⟨Sm.step (run (0, false) a) c, (unstuff a).1 ++ [c], (learn ((unstuff a).1 ++ [c])).1, if lies ((unstuff a).1 ++ [c]) (learn ((unstuff a).1 ++ [c])).1 = true ∧ (Sm.step (run (0, false) a) c).1 ≠ 5 then some 0 else none⟩)),
        (∃ s', bit s c = (0, s') ∧ In (a ++ [c]) s') ∨ (∃ s', bit s c = (0, s') ∧ Out (a ++ [c]) s') := by
      intro k1 k2 hb
      rcases parse_code ((unstuff a).1 ++ [c]) with p0 | p0 | p0
      · have k3 := k2 p0
        by_cases full : (unstuff a).1.length + 1 = (parse ((unstuff a).1 ++ [c])).2.1 + 15
        · by_cases s5 : (Sm.step (run (0, false) a) c).1 = 5
          · left
            refine ⟨_, hb, hcm, ?_, by rw [hu1]; exact k1, fun _ => Or.inr ⟨by rw [hu1, hlen]; exact full, by rw [hrun]; exact s5⟩⟩
            rw [hu1, hrun, if_neg (fun h => h.2 s5)]
          · right
            refine ⟨_, hb, hcm, ?_, by rw [hu1]; exact p0, by rw [hu1, hlen]; exact full, by rw [hrun]; exact s5⟩
            rw [hu1, hrun, learn_0 _ p0]
            simp only
            rw [lies_0, decide_eq_true (by rw [hlen]; exact full), if_pos ⟨rfl, s5⟩]
        · left
          refine ⟨_, hb, hcm, ?_, by rw [hu1]; exact k1, fun _ => Or.inl (by rw [hu1, hlen]; omega)⟩
          rw [hu1, hrun, learn_0 _ p0]
          simp only
          rw [lies_0, decide_eq_false (by rw [hlen]; exact full), if_neg (by simp)]
      · left
        refine ⟨_, hb, hcm, ?_, by rw [hu1]; exact k1, fun h => by rw [hu1, p0] at h; cases h⟩
        rw [hu1, hrun, learn_10 _ p0]
        simp only
        rw [if_neg]
        rintro ⟨h, _⟩
        cases h
      · exact absurd p0 k1
    rcases parse_code (unstuff a).1 with p0 | p0 | p0
    · have hm := parse_more0 (unstuff a).1 [c] p0
      right
      refine fin (by rw [hm, p0]; decide) (fun _ => ?_) ?_
      · rw [hm]
        rcases room p0 with h | ⟨_, h⟩
        · omega
        · exact absurd h r5
      · rw [learn_keeps _ _ p0, learn_0 _ p0] at *
        subst st
        show within _ c = _
        unfold within
        simp only
        rw [if_neg h6, if_neg r5, if_pos (show (some ((parse (unstuff a).1).1, (parse (unstuff a).1).2.1)).isSome = true from rfl)]
    · rw [learn_10 _ p0] at st
      rcases parse_code ((unstuff a).1 ++ [c]) with q0 | q0 | q0
      · right
        refine fin (by rw [q0]; decide) (fun _ => ?_) ?_
        · have := learn_pre (unstuff a).1 [c] _ _ (by rw [learn_10 _ p0]) (by rw [learn_0 _ q0])
          omega
        · subst st
          show within _ c = _
          unfold within
          simp only
          rw [if_neg h6, if_neg r5, if_neg (by decide), learn_0 _ q0, if_neg (by simp)]
      · right
        refine fin (by rw [q0]; decide) (fun h => by rw [q0] at h; cases h) ?_
        subst st
        show within _ c = _
        unfold within
        simp only
        rw [if_neg h6, if_neg r5, if_neg (by decide), learn_10 _ q0, if_neg (by decide)]
      · left
        refine ⟨hs, r5, q0, ?_⟩
        subst st
        show ∃ s', within _ c = _
        unfold within
        simp only
        rw [if_neg h6, if_neg r5, if_neg (by decide), learn_12 _ q0, if_pos rfl]
        exact ⟨_, rfl⟩
    · exact absurd p0 ok
theorem in_len {a : List Bool} {s : Rd} (H : In a s) : a.length ≤ 147 := by
  have h1 := stuff_len_le (unstuff a).1
  rw [stuff_unstuff a H.cm] at h1
  have h2 : (unstuff a).1.length ≤ 118 := by
    rcases parse_code (unstuff a).1 with p0 | p0 | p0
    · have := parse_long _ p0
      rcases H.room p0 with h | ⟨h, _⟩ <;> omega
    · have := parse_short _ p0
      omega
    · exact absurd p0 H.ok
  have h3 : a.length ≤ most (unstuff a).1.length := by
    split at h1
    · rw [List.length_append] at h1; omega
    · exact h1
  unfold most at h3
  split at h3 <;> omega
theorem out_len {a : List Bool} {s : Rd} (H : Out a s) : a.length ≤ 147 := by
  have h1 := stuff_len_le (unstuff a).1
  rw [stuff_unstuff a H.cm, if_neg H.calm5] at h1
  have h2 := parse_long _ H.ok
  have h3 := H.full
  unfold most at h1
  split at h1 <;> omega
/-- the ends begin: what the whole row tells -/
theorem out_laid {a : List Bool} {s : Rd} (H : Out a s) (l : List Bool) : rlaid (a ++ l) = (((parse (unstuff a).1).1, right (unstuff a).1 (parse (unstuff a).1).2.1, a.length), 0, 0) := by
  obtain ⟨m, h1, h2⟩ := un_more l H.cm
  have hp := parse_more0 (unstuff a).1 m H.ok
  have ht : ((unstuff a).1 ++ m).take ((parse (unstuff a).1).2.1 + 15) = (unstuff a).1 := by rw [← H.full, List.take_left]
  have hpl : place ((unstuff a).1 ++ m) ((parse (unstuff a).1).2.1 + 15) = a.length := by
    unfold place
    rw [ht, stuff_unstuff a H.cm, if_neg H.calm5]
  have hok : ((parse (unstuff (a ++ l)).1).2.2 = 0 ∧ (parse (unstuff (a ++ l)).1).2.1 + 15 ≤ (unstuff (a ++ l)).1.length ∧ (((unstuff (a ++ l)).2 < 0 ∧ place (unstuff (a ++ l)).1 ((parse (unstuff (a ++ l)).1).2.1 + 15) ≤ (a ++ l).length) ∨ (place (unstuff (a ++ l)).1 ((parse (unstuff (a ++ l)).1).2.1 + 15) : Int) ≤ (unstuff (a ++ l)).2)) := by
    rw [h1, hp, hpl]
    refine ⟨H.ok, by rw [List.length_append]; have := H.full; omega, ?_⟩
    rw [List.length_append]
    omega
  unfold rlaid
  rw [if_neg (by rw [h1, hp, H.ok]; decide), if_pos hok, h1, hp, hpl, ht, right_zero _ _ H.full]
theorem out_dec {a : List Bool} {s : Rd} (H : Out a s) (l : List Bool) : dB s a.length l = ldec (a ++ l) := by
  have h := ends_go (run (0, false) a) (unstuff a).1 (parse (unstuff a).1).1 (parse (unstuff a).1).2.1 (a ++ l) 10 0 a.length rfl (by decide) (by rw [List.length_append]; omega)
  rw [List.drop_left, ← H.st] at h
  rw [h]
  unfold ldec
  rw [out_laid H l]
  rfl
theorem in_dec (l : List Bool) : ∀ (a : List Bool) (s : Rd), In a s → dB s a.length l = ldec (a ++ l) := by
  induction l with
  | nil =>
    intro a s H
    rw [dB_nil, List.append_nil]
    have h1 := un_calm a (0, false) [] 0 H.cm
    have hu : (unstuff a).2 = -1 := h1
    have hno : ¬ ((parse (unstuff a).1).2.2 = 0 ∧ (parse (unstuff a).1).2.1 + 15 ≤ (unstuff a).1.length ∧ (((unstuff a).2 < 0 ∧ place (unstuff a).1 ((parse (unstuff a).1).2.1 + 15) ≤ a.length) ∨ (place (unstuff a).1 ((parse (unstuff a).1).2.1 + 15) : Int) ≤ (unstuff a).2)) := by
      rintro ⟨p0, h2, h3⟩
      rcases H.room p0 with h | ⟨h, r5⟩
      · omega
      · have : place (unstuff a).1 ((parse (unstuff a).1).2.1 + 15) = a.length + 1 := by
          unfold place
          rw [← h, List.take_of_length_le (Nat.le_refl _), stuff_unstuff a H.cm, if_pos r5, List.length_append]
          rfl
        rw [this, hu] at h3
        omega
    have e : rlaid a = ((noF, false, 0), a.length, 10) := by
      unfold rlaid
      rw [if_neg H.ok, if_neg hno, if_neg (show ¬ (0 ≤ (unstuff a).2) by rw [hu]; decide)]
    unfold ldec
    rw [e]
    rfl
  | cons c t ih =>
    intro a s H
    have hspl : a ++ c :: t = (a ++ [c]) ++ t := by simp
    rcases in_bit H c with ⟨h6, s', hb⟩ | ⟨hs, r5, p12, s', hb⟩ | ⟨s', hb, H'⟩ | ⟨s', hb, H'⟩
    · rw [dB_err hb (by decide) (by decide)]
      have e : unstuff (a ++ c :: t) = unB (run (0, false) a) (unstuff a).1 (0 + a.length) (c :: t) := un_append a (c :: t) _ _ _ H.cm
      have e2 : unstuff (a ++ c :: t) = ((unstuff a).1, (a.length : Int)) := by
        rw [e]
        unfold unB
        rw [if_pos h6, Nat.zero_add]
      have hle := step_le (run (0, false) a) c
      have hno : ¬ ((parse (unstuff (a ++ c :: t)).1).2.2 = 0 ∧ (parse (unstuff (a ++ c :: t)).1).2.1 + 15 ≤ (unstuff (a ++ c :: t)).1.length ∧ (((unstuff (a ++ c :: t)).2 < 0 ∧ place (unstuff (a ++ c :: t)).1 ((parse (unstuff (a ++ c :: t)).1).2.1 + 15) ≤ (a ++ c :: t).length) ∨ (place (unstuff (a ++ c :: t)).1 ((parse (unstuff (a ++ c :: t)).1).2.1 + 15) : Int) ≤ (unstuff (a ++ c :: t)).2)) := by
        rw [e2]
        rintro ⟨p0, h2, h3⟩
        simp only at p0 h2 h3
        rcases H.room p0 with h | ⟨h, r5⟩
        · omega
        · have : place (unstuff a).1 ((parse (unstuff a).1).2.1 + 15) = a.length + 1 := by
            unfold place
            rw [← h, List.take_of_length_le (Nat.le_refl _), stuff_unstuff a H.cm, if_pos r5, List.length_append]
            rfl
          rw [this] at h3
          omega
      have e3 : rlaid (a ++ c :: t) = ((noF, false, 0), a.length, 20) := by
        unfold rlaid
        rw [if_neg hno, e2]
        simp only
        rw [if_neg H.ok, if_pos (show (0 : Int) ≤ (a.length : Int) by omega)]
        rfl
      unfold ldec
      rw [e3]
      rfl
    · rw [dB_err hb (by decide) (by decide)]
      have hu := un_snoc c H.cm hs
      rw [if_neg r5] at hu
      obtain ⟨m, h1, _⟩ := un_more t (calm_snoc H.cm hs)
      rw [← hspl, hu] at h1
      simp only at h1
      have hl : ((unstuff a).1 ++ [c]).length = (unstuff a).1.length + 1 := by simp
      have htk : ∀ j, j ≤ (unstuff a).1.length → ((unstuff a).1 ++ [c] ++ m).take j = (unstuff a).1.take j := fun j hj => by
        rw [List.append_assoc, List.take_append_of_le_length hj]
      have hbr : brk ((unstuff a).1 ++ [c] ++ m) ((unstuff a).1 ++ [c] ++ m).length 0 = (unstuff a).1.length := by
        refine brk_at _ _ (fun j hj => ?_) ?_ _ 0 (Nat.zero_le _) (by rw [List.length_append, hl]; omega)
        · rw [htk _ (by omega)]
          intro h
          have := parse_more12 _ ((unstuff a).1.drop (j + 1)) h
          rw [List.take_append_drop] at this
          exact H.ok this
        · rw [← hl, List.take_left]
          exact p12
      have hp := parse_more12 _ m p12
      have e3 : rlaid (a ++ c :: t) = ((noF, false, 0), a.length, 12) := by
        unfold rlaid
        rw [h1, if_pos hp]
        unfold fbreak place
        rw [hbr, htk _ (Nat.le_refl _), List.take_of_length_le (Nat.le_refl _), stuff_unstuff a H.cm, if_neg r5]
      unfold ldec
      rw [e3]
      rfl
    · rw [dB_go hb, hspl, ← ih (a ++ [c]) s' H']
      simp
    · rw [dB_go hb, hspl, ← out_dec H' t]
      simp
theorem dec_whole (row : List Bool) : dec row = ldec row := in_dec row [] Rd.new in_new
/-- what is told is told within 157 bits -/
theorem ends_room (q : Nat × Bool) (P : List Bool) (f : Fr) (bl : Nat) (l : List Bool) : ∀ (m t i : Nat), t + m = 10 → 0 < m → (dB ⟨q, P, some (f, bl), some t⟩ i l).2.2 = 10 → l.length < m := by
  induction l with
  | nil => intro m t i _ h _; exact h
  | cons c l ih =>
    intro m t i ht hm h
    have hb := bit_behind q P f bl t c
    split at hb
    · rw [dB_err hb (by decide) (by decide)] at h; cases h
    · split at hb
      · rw [dB_err hb (by decide) (by decide)] at h; cases h
      · split at hb
        · rw [dB_end hb] at h; cases h
        · rw [dB_go hb] at h
          have := ih (m - 1) (t + 1) (i + 1) (by omega) (by omega) h
          rw [List.length_cons]
          omega
theorem in_room (l : List Bool) : ∀ (a : List Bool) (s : Rd), In a s → (dB s a.length l).2.2 = 10 → a.length + l.length < 157 := by
  induction l with
  | nil => intro a s H _; have := in_len H; rw [List.length_nil]; omega
  | cons c t ih =>
    intro a s H h
    rcases in_bit H c with ⟨h6, s', hb⟩ | ⟨hs, r5, p12, s', hb⟩ | ⟨s', hb, H'⟩ | ⟨s', hb, H'⟩
    · rw [dB_err hb (by decide) (by decide)] at h; cases h
    · rw [dB_err hb (by decide) (by decide)] at h; cases h
    · rw [dB_go hb] at h
      have := ih (a ++ [c]) s' H' (by rw [List.length_append]; exact h)
      simp at this
      rw [List.length_cons]
      omega
    · rw [dB_go hb, H'.st] at h
      have h1 := ends_room _ _ _ _ t 10 0 _ rfl (by decide) h
      have h2 := out_len H'
      simp at h2
      rw [List.length_cons]
      omega
theorem dec_front (bs : List Bool) : dec bs = ldec (bs.take 157) := by
  rw [← dec_whole]
  by_cases h : bs.length ≤ 157
  · rw [List.take_of_length_le h]
  · have h1 : (dec (bs.take 157)).2.2 ≠ 10 := fun h2 => by
      have := in_room (bs.take 157) [] Rd.new in_new h2
      rw [List.length_take, List.length_nil] at this
      omega
    have h2 := dB_more (bs.take 157) Rd.new 0 (bs.drop 157) h1
    rw [List.take_append_drop] at h2
    exact h2
end Go.Proofs.YthkaekpoicodeaaGreatDoor.Cm
