/- Layer 22, plain: two masters that hear one another. -/
import Derived.Test.YtimcjhnanjeloaaQ22
namespace Go.Proofs.Ytimcjhnanjeloaa.Q22
set_option linter.unusedVariables false
def tl (P Q : Nat) (i : Nat) : Int := if i = 0 then -1 else if i % 2 = 1 then (P : Int) else (Q : Int)
def tx (P Q i : Nat) : St := ⟨(P : Int), if i = 0 then 0 else 2, tl P Q i⟩
def ty (P Q i : Nat) : St := ⟨(Q : Int), min 2 i, tl P Q i⟩
theorem t0x (P Q : Nat) : mk (P : Int) = tx P Q 0 := by unfold mk tx tl; rw [show max (-1) (P : Int) = P by omega]; rfl
theorem t0y (P Q : Nat) : mk (Q : Int) = ty P Q 0 := by unfold mk ty tl; rw [show max (-1) (Q : Int) = Q by omega]; rfl
theorem te1 {P Q i : Nat} (h : i % 2 = 0) : sent (tx P Q i) = tx P Q (i + 1) := by
  have a1 : ¬ i + 1 = 0 := by omega
  have a2 : (i + 1) % 2 = 1 := by omega
  have a3 : (0 : Int) ≤ (P : Int) := Int.natCast_nonneg P
  simp only [sent, tx, tl, a1, a2, a3, if_false, if_true]
theorem te2 {P Q i : Nat} (h : i % 2 = 0) : beat (ty P Q i) (P : Int) = ty P Q (i + 1) := by
  have a1 : ¬ i + 1 = 0 := by omega
  have a2 : (i + 1) % 2 = 1 := by omega
  have a3 : min 2 (min 2 i + 1) = min 2 (i + 1) := by omega
  simp only [beat, ty, tl, a1, a2, a3, if_false, if_true]
theorem to1 {P Q i : Nat} (h : i % 2 = 1) : sent (ty P Q i) = ty P Q (i + 1) := by
  have a1 : ¬ i + 1 = 0 := by omega
  have a2 : ¬ (i + 1) % 2 = 1 := by omega
  have a3 : (0 : Int) ≤ (Q : Int) := Int.natCast_nonneg Q
  have a4 : min 2 (i + 1) = 2 := by omega
  simp only [sent, ty, tl, a1, a2, a3, a4, if_false, if_true]
theorem to2 {P Q i : Nat} (h : i % 2 = 1) : beat (tx P Q i) (Q : Int) = tx P Q (i + 1) := by
  have a1 : ¬ i + 1 = 0 := by omega
  have a2 : ¬ (i + 1) % 2 = 1 := by omega
  have a3 : ¬ i = 0 := by omega
  have a4 : min 2 (2 + 1) = 2 := by omega
  simp only [beat, tx, tl, a1, a2, a3, a4, if_false]
theorem tend (P Q i : Nat) (h : 3 ≤ i) : ∃ L : Nat, (L = P ∨ L = Q) ∧ tx P Q i = ⟨(P : Int), 2, (L : Int)⟩ ∧ ty P Q i = ⟨(Q : Int), 2, (L : Int)⟩ := by
  unfold tx ty tl
  rw [if_neg (by omega), if_neg (by omega), show min 2 i = 2 by omega]
  by_cases h2 : i % 2 = 1
  · exact ⟨P, Or.inl rfl, by rw [if_pos h2], by rw [if_pos h2]⟩
  · exact ⟨Q, Or.inr rfl, by rw [if_neg h2], by rw [if_neg h2]⟩
theorem tld (r L : Nat) : leads ⟨(r : Int), 2, (L : Int)⟩ = decide (r ≤ L) := by unfold leads; simp
theorem tst (r L : Nat) : sent ⟨(r : Int), 2, (L : Int)⟩ = ⟨(r : Int), 2, (r : Int)⟩ := by unfold sent; rw [if_pos (Int.natCast_nonneg r)]
theorem tbt (r L s : Nat) : beat ⟨(r : Int), 2, (L : Int)⟩ (s : Int) = ⟨(r : Int), 2, (s : Int)⟩ := rfl
end Go.Proofs.Ytimcjhnanjeloaa.Q22
