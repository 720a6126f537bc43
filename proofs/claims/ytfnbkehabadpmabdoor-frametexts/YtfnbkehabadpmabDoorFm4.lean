/- Plain mathematics of frames: unlike frames have unlike texts. -/
import Derived.Test.YtfnbkehabadpmabDoorFm
namespace Go.Proofs.YtfnbkehabadpmabDoor.Fm
open Go.Proofs.YtfnbkehabadpmabDoor.Bm
theorem hexd_inj : ∀ a, a < 16 → ∀ b, b < 16 → hexd a = hexd b → a = b := by decide
theorem hexd_mark : ∀ a, a < 16 → hexd a ≠ 35 := by decide
theorem hexs_inj (n m : Nat) : ∀ w, hexs n w = hexs m w → n % 16 ^ w = m % 16 ^ w := by
  intro w
  induction w with
  | zero => intro _; simp [Nat.mod_one]
  | succ w ih =>
    intro h
    unfold hexs at h
    injection h with h1 h2
    have e1 := hexd_inj _ (Nat.mod_lt _ (by decide)) _ (Nat.mod_lt _ (by decide)) h1
    rw [Nat.pow_succ, Nat.mod_mul, Nat.mod_mul, ih h2, e1]
theorem hexB_inj (d : List UInt8) : ∀ e, hexB d = hexB e → d = e := by
  induction d with
  | nil =>
    intro e h
    have := congrArg List.length h
    rw [length_hexB, length_hexB] at this
    exact (List.eq_nil_of_length_eq_zero (by simp at this; omega)).symm
  | cons c t ih =>
    intro e h
    cases e with
    | nil =>
      have := congrArg List.length h
      rw [length_hexB, length_hexB] at this
      simp at this
    | cons c' t' =>
      have h' : hexs c.toNat 2 ++ hexB t = hexs c'.toNat 2 ++ hexB t' := h
      obtain ⟨h1, h2⟩ := List.append_inj h' (by rw [length_hexs, length_hexs])
      have e1 := hexs_inj _ _ 2 h1
      have l1 := c.toNat_lt
      have l2 := c'.toNat_lt
      rw [Nat.mod_eq_of_lt l1, Nat.mod_eq_of_lt l2] at e1
      rw [ih t' h2, UInt8.toNat_inj.1 e1]
theorem length_text0 (x : Bool) (n : Nat) (r : Bool) (d : List UInt8) : (text0 x n r d).length = hexW x + 1 + (if r then 1 else 2 * d.length) := by
  unfold text0
  rw [List.length_append, length_hexs, List.length_cons]
  cases r
  · simp only [Bool.false_eq_true, if_false]; rw [length_hexB]; omega
  · simp only [if_true]; rfl
theorem mark_text0 (x : Bool) (n : Nat) (r : Bool) (d : List UInt8) : (text0 x n r d)[hexW x]? = some 35 := by
  unfold text0
  rw [List.getElem?_append_right (by rw [length_hexs]; exact Nat.le_refl _), length_hexs, Nat.sub_self]
  rfl
theorem hexs_get (n : Nat) (w i : Nat) (h : i < w) : ∃ k, k < 16 ∧ (hexs n w)[i]? = some (hexd k) := by
  induction w generalizing i with
  | zero => omega
  | succ w ih =>
    cases i with
    | zero => exact ⟨_, Nat.mod_lt _ (by decide), rfl⟩
    | succ i => exact ih i (by omega)
theorem text_mixed (n m : Nat) (r s : Bool) (d e : List UInt8) : text0 false n r d ≠ text0 true m s e := by
  intro h
  have h1 := mark_text0 false n r d
  rw [h] at h1
  obtain ⟨k, hk, h2⟩ := hexs_get m 8 3 (by decide)
  have h3 : (text0 true m s e)[3]? = some (hexd k) := by
    unfold text0
    rw [List.getElem?_append_left (by rw [length_hexs]; decide)]
    exact h2
  have h4 : (text0 true m s e)[3]? = some 35 := h1
  rw [h3] at h4
  exact hexd_mark k hk (Option.some.inj h4)
theorem num_of_hexs {x : Bool} {n m : Nat} (hn : n < top x) (hm : m < top x) (h : hexs n (hexW x) = hexs m (hexW x)) : n = m := by
  have e := hexs_inj n m _ h
  cases x
  · have hn' : n < 2048 := hn
    have hm' : m < 2048 := hm
    have w : hexW false = 3 := rfl
    rw [w, Nat.mod_eq_of_lt (by omega), Nat.mod_eq_of_lt (by omega)] at e
    exact e
  · have hn' : n < 536870912 := hn
    have hm' : m < 536870912 := hm
    have w : hexW true = 8 := rfl
    rw [w, Nat.mod_eq_of_lt (by omega), Nat.mod_eq_of_lt (by omega)] at e
    exact e
theorem text_same (x : Bool) {n m : Nat} {r s : Bool} {d e : List UInt8} (hn : n < top x) (hm : m < top x) (hd : r = true → d = []) (he : s = true → e = []) (h : text0 x n r d = text0 x m s e) : n = m ∧ r = s ∧ d = e := by
  unfold text0 at h
  obtain ⟨h1, h2⟩ := List.append_inj h (by rw [length_hexs, length_hexs])
  have hnm := num_of_hexs hn hm h1
  injection h2 with _ h3
  cases r <;> cases s
  · exact ⟨hnm, rfl, hexB_inj d e h3⟩
  · have := congrArg List.length h3
    simp only [Bool.false_eq_true, if_false, if_true, length_hexB] at this
    simp at this
    omega
  · have := congrArg List.length h3
    simp only [Bool.false_eq_true, if_false, if_true, length_hexB] at this
    simp at this
    omega
  · exact ⟨hnm, rfl, by rw [hd rfl, he rfl]⟩
theorem text_iff {x y : Bool} {n m : Nat} {r s : Bool} {d e : List UInt8} (ha : isF x n r d = true) (hb : isF y m s e = true) : text0 x n r d = text0 y m s e ↔ (x = y ∧ n = m ∧ r = s ∧ d = e) := by
  obtain ⟨a1, a2, a3⟩ := isF_parts ha
  obtain ⟨b1, b2, b3⟩ := isF_parts hb
  constructor
  · intro h
    cases x <;> cases y
    · exact ⟨rfl, text_same false a1 b1 a3 b3 h⟩
    · exact absurd h (text_mixed n m r s d e)
    · exact absurd h.symm (text_mixed m n s r e d)
    · exact ⟨rfl, text_same true a1 b1 a3 b3 h⟩
  · rintro ⟨rfl, rfl, rfl, rfl⟩
    rfl
end Go.Proofs.YtfnbkehabadpmabDoor.Fm
