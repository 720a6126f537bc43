/- Plain mathematics of a turned bit, of numbers read back and of bytes read back; nothing of the program is in it. -/
import Derived.Test.YtfnbkehabadpmabDoorBm3
namespace Go.Proofs.YtfnbkehabadpmabDoor.Bm

def unit (L i : Nat) : List Bool := (List.range L).map fun j => decide (j = i)
theorem turn_unit (bs : List Bool) (i : Nat) : turn bs (i : Int) = List.zipWith Bool.xor bs (unit bs.length i) := by
  unfold turn unit
  rw [if_pos (by omega), Int.toNat_natCast]
  apply List.ext_getElem
  · simp
  · intro j h1 h2
    have hj : j < bs.length := by simpa using h1
    rw [List.getElem_modify, List.getElem_zipWith]
    simp only [List.getElem_map, List.getElem_range]
    by_cases e : i = j
    · subst e; cases bs[i] <;> simp
    · have e' : ¬ j = i := fun h => e h.symm
      simp [e, e']
theorem crc_turn (bs : List Bool) (i : Nat) : crc (turn bs (i : Int)) = crc bs ^^^ crc (unit bs.length i) := by
  rw [turn_unit, crc_xor _ _ (by simp [unit])]
def sums127 : List Nat := (List.range 127).map fun i => crc (unit 127 i)
theorem sums127_ok : sums127.Nodup ∧ 0 ∉ sums127 := by decide +kernel
theorem unit_ne (i : Nat) (h : i < 127) : crc (unit 127 i) ≠ 0 := by
  intro e
  apply sums127_ok.2
  rw [← e]
  exact List.mem_map.2 ⟨i, List.mem_range.2 h, rfl⟩
theorem unit_inj (i k : Nat) (h : i < 127) (g : k < 127) (e : crc (unit 127 i) = crc (unit 127 k)) : i = k := by
  have hn := sums127_ok.1
  have hi : i < sums127.length := by simpa [sums127] using h
  have hk : k < sums127.length := by simpa [sums127] using g
  have e1 : sums127[i] = sums127[k] := by simpa [sums127] using e
  exact (List.getElem_inj hn).1 e1
theorem xor_cancel (a b c : Nat) : a ^^^ b = a ^^^ c ↔ b = c := by
  constructor
  · intro h
    have h2 := congrArg (fun x => a ^^^ x) h
    simpa [← Nat.xor_assoc] using h2
  · intro h; rw [h]

/-! numbers read back -/
theorem ofB_snoc (n k : Nat) : ofB n (k + 1) = ofB (n / 2) k ++ [n.testBit 0] := by
  unfold ofB
  rw [List.range_succ, List.map_append]
  congr 1
  · apply List.map_congr_left
    intro i hi
    have h : i < k := List.mem_range.1 hi
    rw [Nat.testBit_div_two]
    congr 1
    omega
  · simp
theorem num_ofB (k : Nat) : k ≤ 64 → ∀ n, num (ofB n k) = n % 2 ^ k := by
  induction k with
  | zero => intro _ n; simp [ofB, num, Nat.mod_one]
  | succ k ih =>
    intro hk n
    rw [ofB_snoc, num_snoc, ih (by omega)]
    unfold numStep
    have hb : bv (n.testBit 0) = n % 2 := by
      rw [Nat.testBit_zero]
      rcases Nat.mod_two_eq_zero_or_one n with h | h <;> simp [h, bv]
    rw [hb]
    have e : n % 2 ^ (k + 1) = 2 * (n / 2 % 2 ^ k) + n % 2 := by
      rw [Nat.pow_succ, Nat.mul_comm (2 ^ k) 2, Nat.mod_mul]
      omega
    rw [← e]
    apply Nat.mod_eq_of_lt
    have h1 : n % 2 ^ (k + 1) < 2 ^ (k + 1) := Nat.mod_lt _ (Nat.two_pow_pos _)
    have h2 : 2 ^ (k + 1) ≤ 2 ^ 64 := Nat.pow_le_pow_right (by decide) hk
    have h3 : (2 : Nat) ^ 64 = 18446744073709551616 := by decide
    omega
theorem num_ofB_64 (n : Nat) (h : n < 18446744073709551616) : num (ofB n 64) = n := by
  rw [num_ofB 64 (Nat.le_refl _) n]
  exact Nat.mod_eq_of_lt (by have h3 : (2 : Nat) ^ 64 = 18446744073709551616 := by decide
                             omega)
theorem turn_ofB (n k : Nat) (hk : k < 64) : turn (ofB n 64) (k : Int) = ofB (n ^^^ 2 ^ (63 - k)) 64 := by
  unfold turn
  rw [if_pos (by omega), Int.toNat_natCast]
  apply List.ext_getElem
  · simp [length_ofB]
  · intro j h1 h2
    have hj : j < 64 := by simpa [length_ofB] using h2
    rw [List.getElem_modify]
    simp only [ofB, List.getElem_map, List.getElem_range]
    rw [Nat.testBit_xor, Nat.testBit_two_pow]
    by_cases e : k = j
    · subst e
      rw [if_pos rfl]
      have : 63 - k = 64 - 1 - k := by omega
      simp [this]
    · have : ¬ 63 - k = 64 - 1 - j := by omega
      rw [if_neg e]
      simp [this]
theorem num_turn (n k : Nat) (hk : k < 64) (h : n < 18446744073709551616) : num (turn (ofB n 64) (k : Int)) = n ^^^ 2 ^ (63 - k) := by
  rw [turn_ofB n k hk, num_ofB_64]
  exact Nat.xor_lt_two_pow (n := 64) h (Nat.pow_lt_pow_right (by decide) (by omega))
theorem turn_turn (bs : List Bool) (p : Int) : turn (turn bs p) p = bs := by
  unfold turn
  by_cases h : 0 ≤ p
  · rw [if_pos h, if_pos h]
    apply List.ext_getElem
    · simp
    · intro j h1 h2
      rw [List.getElem_modify, List.getElem_modify]
      split <;> simp
  · rw [if_neg h, if_neg h]
theorem both_self (bs : List Bool) : both bs bs = bs := by
  unfold both
  apply List.ext_getElem
  · simp
  · intro j h1 h2
    rw [List.getElem_zipWith]
    simp

/-! bytes read back -/
theorem byteAt_zero (c : UInt8) (r : List Bool) : byteAt (ofB c.toNat 8 ++ r) 0 = c := by
  unfold byteAt
  rw [Nat.mul_zero, List.drop_zero, List.take_left' (length_ofB _ _), num_ofB 8 (by decide)]
  have h : c.toNat % 2 ^ 8 = c.toNat := Nat.mod_eq_of_lt c.toNat_lt
  rw [h]
  simp
theorem byteAt_succ (x r : List Bool) (hx : x.length = 8) (i : Nat) : byteAt (x ++ r) (i + 1) = byteAt r i := by
  unfold byteAt
  rw [List.drop_append, List.drop_of_length_le (by omega), List.nil_append, hx, show 8 * (i + 1) - 8 = 8 * i by omega]
theorem bytes_fromB (l : List UInt8) : bytes (fromB l) = l := by
  have key : ∀ l : List UInt8, bytesTo (fromB l) l.length = l := by
    intro l
    induction l with
    | nil => rfl
    | cons c r ih =>
      have e : fromB (c :: r) = ofB c.toNat 8 ++ fromB r := by simp [fromB]
      rw [e]
      unfold bytesTo at *
      rw [List.length_cons, List.range_succ_eq_map, List.map_cons, List.map_map, byteAt_zero]
      rw [show (byteAt (ofB c.toNat 8 ++ fromB r) ∘ Nat.succ) = byteAt (fromB r) from funext fun i => byteAt_succ _ _ (length_ofB _ _) i]
      rw [ih]
  unfold bytes
  rw [length_fromB, Nat.mul_div_cancel_left _ (by decide)]
  exact key l
end Go.Proofs.YtfnbkehabadpmabDoor.Bm
