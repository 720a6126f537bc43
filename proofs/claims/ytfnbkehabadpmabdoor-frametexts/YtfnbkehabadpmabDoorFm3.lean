/- Plain mathematics of frames: their order on the wire. -/
import Derived.Test.YtfnbkehabadpmabDoorFm2
namespace Go.Proofs.YtfnbkehabadpmabDoor.Fm
open Go.Proofs.YtfnbkehabadpmabDoor.Bm
/-- a row as a number, the first bit the highest -/
def val (bs : List Bool) : Nat := bs.foldl (fun a b => 2 * a + bv b) 0
theorem val_from (bs : List Bool) : ∀ a, bs.foldl (fun a b => 2 * a + bv b) a = a * 2 ^ bs.length + val bs := by
  induction bs with
  | nil => intro a; simp [val]
  | cons b t ih =>
    intro a
    unfold val
    rw [List.foldl_cons, List.foldl_cons, ih, ih (2 * 0 + bv b), List.length_cons, Nat.pow_succ]
    simp only [Nat.mul_zero, Nat.zero_add, Nat.add_mul]
    have : 2 * a * 2 ^ t.length = a * (2 ^ t.length * 2) := by rw [Nat.mul_comm 2 a, Nat.mul_assoc, Nat.mul_comm 2]
    omega
theorem val_cons (b : Bool) (t : List Bool) : val (b :: t) = bv b * 2 ^ t.length + val t := by
  conv => lhs; unfold val
  rw [List.foldl_cons, val_from]
  simp
theorem val_append (a b : List Bool) : val (a ++ b) = val a * 2 ^ b.length + val b := by
  conv => lhs; unfold val
  rw [List.foldl_append, val_from]
  rfl
theorem val_lt (bs : List Bool) : val bs < 2 ^ bs.length := by
  induction bs with
  | nil => simp [val]
  | cons b t ih =>
    rw [val_cons, List.length_cons, Nat.pow_succ]
    cases b <;> simp [bv] <;> omega
theorem val_ofB (n : Nat) : ∀ k, val (ofB n k) = n % 2 ^ k := by
  intro k
  induction k with
  | zero => simp [ofB, val, Nat.mod_one]
  | succ k ih =>
    rw [ofB_succ, val_cons, length_ofB, ih, Nat.pow_succ, Nat.mod_mul, Nat.add_comm]
    congr 1
    rw [Nat.mul_comm]
    congr 1
    rw [Nat.testBit_eq_decide_div_mod_eq]
    unfold bv
    by_cases h : n / 2 ^ k % 2 = 1
    · simp [h]
    · simp [h]; omega
def sgn (a b : Nat) : Int := if a < b then -1 else if b < a then 1 else 0
theorem sgn_lt {a b : Nat} (h : a < b) : sgn a b = -1 := by unfold sgn; rw [if_pos h]
theorem sgn_gt {a b : Nat} (h : b < a) : sgn a b = 1 := by unfold sgn; rw [if_neg (by omega), if_pos h]
theorem sgn_eq (a : Nat) : sgn a a = 0 := by unfold sgn; rw [if_neg (by omega), if_neg (by omega)]
theorem sgn_same {a b c d : Nat} (h1 : a < b ↔ c < d) (h2 : b < a ↔ d < c) : sgn a b = sgn c d := by
  by_cases k : a < b
  · rw [sgn_lt k, sgn_lt (h1.1 k)]
  · by_cases k2 : b < a
    · rw [sgn_gt k2, sgn_gt (h2.1 k2)]
    · obtain rfl : a = b := by omega
      obtain rfl : c = d := by have := mt h1.2 k; have := mt h2.2 k2; omega
      rw [sgn_eq, sgn_eq]
theorem cmp_val (x : List Bool) : ∀ y, x.length = y.length → cmpB x y = sgn (val x) (val y) := by
  induction x with
  | nil => intro y h; cases y with
    | nil => rfl
    | cons b t => simp at h
  | cons a s ih =>
    intro y h
    cases y with
    | nil => simp at h
    | cons b t =>
      have hl : s.length = t.length := by simpa using h
      have l1 := val_lt s
      have l2 := val_lt t
      rw [val_cons, val_cons, ← hl]
      rw [← hl] at l2
      unfold cmpB
      by_cases hab : a = b
      · rw [if_pos hab, ih t hl, hab]
        exact sgn_same (by omega) (by omega)
      · rw [if_neg hab]
        unfold sgn
        cases a <;> cases b
        · exact absurd rfl hab
        · rw [if_neg (by decide), if_pos (by simp [bv]; omega)]
        · rw [if_pos rfl, if_neg (by simp [bv]; omega), if_pos (by simp [bv]; omega)]
        · exact absurd rfl hab
/-- rows that are unlike within the shorter one's length: what stands behind doesn't count -/
theorem cmp_front (x y a b : List Bool) (hl : x.length = y.length) (h : x ≠ y) : cmpB (x ++ a) (y ++ b) = cmpB x y := by
  induction x generalizing y with
  | nil => cases y with
    | nil => exact absurd rfl h
    | cons b t => simp at hl
  | cons c s ih =>
    cases y with
    | nil => simp at hl
    | cons e t =>
      rw [List.cons_append, List.cons_append]
      unfold cmpB
      by_cases hc : c = e
      · rw [if_pos hc, if_pos hc]
        exact ih t (by simpa using hl) (fun hst => h (by rw [hc, hst]))
      · rw [if_neg hc, if_neg hc]
/-- a frame's place in the order -/
def key (x : Bool) (n : Nat) (r : Bool) : Nat := if x then ((n / 262144 * 4 + 3) * 262144 + n % 262144) * 2 + bv r else (n * 2 + bv r) * 2 * 524288
theorem val_std (n : Nat) (r : Bool) (h : n < 2048) : val (arb0 false n r) = (n * 2 + bv r) * 2 := by
  have e : arb0 false n r = [false] ++ (ofB n 11 ++ [r, false]) := rfl
  rw [e, val_append, val_append, val_ofB]
  have : n % 2 ^ 11 = n := Nat.mod_eq_of_lt h
  rw [this]
  cases r <;> simp [val, bv] <;> omega
theorem val_ext (n : Nat) (r : Bool) (h : n < 536870912) : val (arb0 true n r) = ((n / 262144 * 4 + 3) * 262144 + n % 262144) * 2 + bv r := by
  have e : arb0 true n r = [false] ++ (ofB (n / 262144) 11 ++ ([true, true] ++ (ofB n 18 ++ [r]))) := rfl
  rw [e, val_append, val_append, val_append, val_append, val_ofB, val_ofB]
  have h1 : n / 262144 % 2 ^ 11 = n / 262144 := Nat.mod_eq_of_lt (by omega)
  rw [h1]
  simp only [List.length_append, List.length_cons, List.length_nil, length_ofB]
  cases r <;> simp [val, bv] <;> omega
/-- the first fourteen bits of a frame with Ext -/
def head14 (n : Nat) : List Bool := false :: (ofB (n / 262144) 11 ++ [true, true])
theorem val_head (n : Nat) (h : n < 536870912) : val (head14 n) = n / 262144 * 4 + 3 := by
  have e : head14 n = [false] ++ (ofB (n / 262144) 11 ++ [true, true]) := rfl
  rw [e, val_append, val_append, val_ofB]
  have h1 : n / 262144 % 2 ^ 11 = n / 262144 := Nat.mod_eq_of_lt (by omega)
  rw [h1]
  simp [val, bv]
theorem ext_head (n : Nat) (r : Bool) : arb0 true n r = head14 n ++ (ofB n 18 ++ [r]) := by unfold arb0 head14; simp
theorem length_head (n : Nat) : (head14 n).length = 14 := by simp [head14, length_ofB]
theorem sgn_anti (a b : Nat) : sgn a b = - sgn b a := by unfold sgn; split <;> split <;> (try split) <;> omega
theorem cmp_anti (x : List Bool) : ∀ y, cmpB x y = - cmpB y x := by
  induction x with
  | nil => intro y; cases y <;> rfl
  | cons a s ih =>
    intro y
    cases y with
    | nil => rfl
    | cons b t =>
      cases a <;> cases b
      · exact ih t
      · rfl
      · rfl
      · exact ih t
theorem cmp_mixed (n m : Nat) (r s : Bool) (hn : n < 2048) (hm : m < 536870912) : cmpB (arb0 false n r) (arb0 true m s) = sgn (key false n r) (key true m s) := by
  have hne : val (arb0 false n r) ≠ val (head14 m) := by rw [val_std n r hn, val_head m hm]; omega
  have hl : (arb0 false n r).length = (head14 m).length := by rw [length_arb0, length_head]; rfl
  have h := cmp_front (arb0 false n r) (head14 m) [] (ofB m 18 ++ [s]) hl (fun e => hne (by rw [e]))
  rw [List.append_nil, ← ext_head] at h
  rw [h, cmp_val _ _ hl, val_std n r hn, val_head m hm]
  unfold key
  simp only [Bool.false_eq_true, if_false, if_true]
  have hr := bv_le r
  have hs := bv_le s
  exact sgn_same (by omega) (by omega)
theorem cmp_key (x y : Bool) (n m : Nat) (r s : Bool) (hn : n < top x) (hm : m < top y) : cmpB (arb0 x n r) (arb0 y m s) = sgn (key x n r) (key y m s) := by
  cases x <;> cases y
  · rw [cmp_val _ _ (by rw [length_arb0, length_arb0]), val_std n r hn, val_std m s hm]
    unfold key
    simp only [Bool.false_eq_true, if_false]
    exact sgn_same (by omega) (by omega)
  · exact cmp_mixed n m r s hn hm
  · rw [cmp_anti, cmp_mixed m n s r hm hn, ← sgn_anti]
  · rw [cmp_val _ _ (by rw [length_arb0, length_arb0]), val_ext n r hn, val_ext m s hm]
    rfl
theorem key_inj (x y : Bool) (n m : Nat) (r s : Bool) (hn : n < top x) (hm : m < top y) (h : key x n r = key y m s) : x = y ∧ n = m ∧ r = s := by
  have hr := bv_le r
  have hs := bv_le s
  have hrs : bv r = bv s → r = s := by cases r <;> cases s <;> simp [bv]
  cases x <;> cases y
  · unfold key at h
    simp only [Bool.false_eq_true, if_false] at h
    exact ⟨rfl, by omega, hrs (by omega)⟩
  · unfold key at h
    simp only [Bool.false_eq_true, if_false, if_true] at h
    have hm' := top_ext hm
    omega
  · unfold key at h
    simp only [Bool.false_eq_true, if_false, if_true] at h
    have hn' := top_ext hn
    omega
  · unfold key at h
    simp only [if_true] at h
    exact ⟨rfl, by omega, hrs (by omega)⟩
end Go.Proofs.YtfnbkehabadpmabDoor.Fm
