/- Plain mathematics of the 15 bit sum and of numbers as bits; nothing of the program is in it. -/
import Derived.Test.YtfnbkehabadpmabDoorBm2
namespace Go.Proofs.YtfnbkehabadpmabDoor.Bm

theorem isOne_sign (b : Bool) : isOne (sign b) = b := by cases b <;> rfl
theorem read_row (bs : List Bool) : read (row bs) = bs := by
  unfold read row
  rw [List.map_map]
  have : (isOne ∘ sign) = id := funext isOne_sign
  rw [this, List.map_id]
theorem okAll_row (bs : List Bool) : okAll (row bs) = true := by
  unfold okAll row
  rw [List.all_map, List.all_eq_true]
  intro b _
  cases b <;> rfl

/-! the sum is linear -/
def poly (b : Bool) : Nat := if b then 17817 else 0
theorem poly_xor (a b : Bool) : poly (a ^^ b) = poly a ^^^ poly b := by cases a <;> cases b <;> decide
theorem top_bit (s : Nat) (h : s < 32768) : decide (16384 ≤ s) = s.testBit 14 := by
  rw [Nat.testBit_eq_decide_div_mod_eq, decide_eq_decide, show (2 : Nat) ^ 14 = 16384 from rfl]
  omega
theorem crcStep_eq (s : Nat) (b : Bool) (h : s < 32768) : crcStep s b = (2 * s % 32768) ^^^ poly (b ^^ s.testBit 14) := by
  unfold crcStep poly
  rw [top_bit s h]
  cases b <;> cases s.testBit 14 <;> simp
theorem shift_xor (s t : Nat) : 2 * (s ^^^ t) % 32768 = (2 * s % 32768) ^^^ (2 * t % 32768) := by
  rw [show (32768 : Nat) = 2 ^ 15 from rfl, ← Nat.xor_mod_two_pow]
  congr 1
  rw [Nat.mul_comm 2, Nat.mul_comm 2, Nat.mul_comm 2]
  have e : ∀ x : Nat, x * 2 = x <<< 1 := fun x => by rw [Nat.shiftLeft_eq]
  rw [e, e, e, Nat.shiftLeft_xor_distrib]
theorem xor_lt (s t : Nat) (hs : s < 32768) (ht : t < 32768) : s ^^^ t < 32768 := Nat.xor_lt_two_pow (n := 15) hs ht
theorem crcStep_xor (s t : Nat) (a b : Bool) (hs : s < 32768) (ht : t < 32768) : crcStep (s ^^^ t) (a ^^ b) = crcStep s a ^^^ crcStep t b := by
  rw [crcStep_eq _ _ (xor_lt s t hs ht), crcStep_eq s a hs, crcStep_eq t b ht, shift_xor, Nat.testBit_xor]
  have e : ((a ^^ b) ^^ (s.testBit 14 ^^ t.testBit 14)) = ((a ^^ s.testBit 14) ^^ (b ^^ t.testBit 14)) := by
    cases a <;> cases b <;> cases s.testBit 14 <;> cases t.testBit 14 <;> rfl
  rw [e, poly_xor]
  generalize 2 * s % 32768 = x
  generalize 2 * t % 32768 = y
  generalize poly (a ^^ s.testBit 14) = p
  generalize poly (b ^^ t.testBit 14) = q
  rw [Nat.xor_assoc, Nat.xor_assoc, ← Nat.xor_assoc y p q, Nat.xor_comm y p, Nat.xor_assoc p y q]
def crcFrom (s : Nat) (bs : List Bool) : Nat := bs.foldl crcStep s
theorem crcFrom_lt (s : Nat) (bs : List Bool) (h : s < 32768) : crcFrom s bs < 32768 := by
  induction bs generalizing s with
  | nil => exact h
  | cons b r ih => exact ih _ (crcStep_lt _ _)
theorem crcFrom_xor (as bs : List Bool) (h : as.length = bs.length) : ∀ s t, s < 32768 → t < 32768 → crcFrom (s ^^^ t) (List.zipWith Bool.xor as bs) = crcFrom s as ^^^ crcFrom t bs := by
  induction as generalizing bs with
  | nil =>
    intro s t _ _
    cases bs with
    | nil => rfl
    | cons b r => simp at h
  | cons a r ih =>
    intro s t hs ht
    cases bs with
    | nil => simp at h
    | cons b q =>
      show crcFrom (crcStep (s ^^^ t) (a ^^ b)) (List.zipWith Bool.xor r q) = crcFrom (crcStep s a) r ^^^ crcFrom (crcStep t b) q
      rw [crcStep_xor s t a b hs ht]
      exact ih q (by simpa using h) _ _ (crcStep_lt _ _) (crcStep_lt _ _)
theorem crc_xor (as bs : List Bool) (h : as.length = bs.length) : crc (List.zipWith Bool.xor as bs) = crc as ^^^ crc bs := crcFrom_xor as bs h 0 0 (by decide) (by decide)
theorem ofB_xor (a b k : Nat) : ofB (a ^^^ b) k = List.zipWith Bool.xor (ofB a k) (ofB b k) := by
  unfold ofB
  apply List.ext_getElem
  · simp
  · intro i h1 h2
    simp [Nat.testBit_xor]
theorem crc_lin (a b k : Nat) : crc (ofB (a ^^^ b) k) = crc (ofB a k) ^^^ crc (ofB b k) := by
  rw [ofB_xor, crc_xor _ _ (by rw [length_ofB, length_ofB])]

/-! a row with its sum behind it -/
theorem ofB_succ (n k : Nat) : ofB n (k + 1) = n.testBit k :: ofB n k := by
  unfold ofB
  rw [List.range_succ_eq_map, List.map_cons, List.map_map]
  congr 1
  apply List.map_congr_left
  intro i _
  simp only [Function.comp, Nat.succ_eq_add_one]
  congr 1
  omega
theorem crc_eats (c : Nat) : ∀ k, k ≤ 15 → crcFrom (c * 2 ^ (15 - k) % 32768) (ofB c k) = 0 := by
  intro k
  induction k with
  | zero =>
    intro _
    show c * 32768 % 32768 = 0
    omega
  | succ k ih =>
    intro hk
    rw [ofB_succ]
    show crcFrom (crcStep (c * 2 ^ (15 - (k + 1)) % 32768) (c.testBit k)) (ofB c k) = 0
    have e : crcStep (c * 2 ^ (15 - (k + 1)) % 32768) (c.testBit k) = c * 2 ^ (15 - k) % 32768 := by
      rw [crcStep_eq _ _ (Nat.mod_lt _ (by decide))]
      have t : (c * 2 ^ (15 - (k + 1)) % 32768).testBit 14 = c.testBit k := by
        rw [show (32768 : Nat) = 2 ^ 15 from rfl, Nat.testBit_mod_two_pow, ← Nat.shiftLeft_eq, Nat.testBit_shiftLeft]
        have h2 : 14 - (15 - (k + 1)) = k := by omega
        rw [h2]
        simp
      rw [t]
      have p : poly (c.testBit k ^^ c.testBit k) = 0 := by cases c.testBit k <;> rfl
      rw [p, Nat.xor_zero]
      have e1 : 15 - k = (15 - (k + 1)) + 1 := by omega
      rw [e1, Nat.pow_succ]
      rw [← Nat.mul_assoc]
      generalize c * 2 ^ (15 - (k + 1)) = x at *
      omega
    rw [e]
    exact ih (by omega)
theorem crc_append (as bs : List Bool) : crc (as ++ bs) = crcFrom (crc as) bs := by unfold crc crcFrom; rw [List.foldl_append]
theorem crc_nothing (bs : List Bool) : crc (bs ++ ofB (crc bs) 15) = 0 := by
  rw [crc_append]
  have h := crc_eats (crc bs) 15 (Nat.le_refl _)
  have hl := crc_lt bs
  have e : crc bs * 2 ^ (15 - 15) % 32768 = crc bs := by
    rw [Nat.sub_self, Nat.pow_zero, Nat.mul_one, Nat.mod_eq_of_lt hl]
  rw [e] at h
  exact h
theorem ofB_zero (k : Nat) : ofB 0 k = List.replicate k false := by
  induction k with
  | zero => rfl
  | succ k ih => rw [ofB_succ, ih, List.replicate_succ]; simp
theorem crc_noughts (k : Nat) : crc (List.replicate k false) = 0 := by
  induction k with
  | zero => rfl
  | succ k ih =>
    show crcFrom (crcStep 0 false) (List.replicate k false) = 0
    exact ih
theorem crc_ahead (k : Nat) (bs : List Bool) : crc (ofB 0 k ++ bs) = crc bs := by
  rw [crc_append, ofB_zero, crc_noughts]; rfl
end Go.Proofs.YtfnbkehabadpmabDoor.Bm
