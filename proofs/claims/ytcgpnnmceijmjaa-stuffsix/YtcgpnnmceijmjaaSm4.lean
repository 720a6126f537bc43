/- Bounds of what layer 2 tells; plain mathematics. -/
import Derived.Test.YtcgpnnmceijmjaaSm3
namespace Go.Proofs.Ytcgpnnmceijmjaa.Sm
theorem unB_len (bs : List Bool) : ∀ r o i, (unB r o i bs).1.length ≤ o.length + bs.length := by
  induction bs with
  | nil => intro r o i; simp [unB]
  | cons c t ih =>
    intro r o i
    unfold unB
    split
    · simp
    · have := ih (step r c) (if r.1 = 5 then o else o ++ [c]) (i + 1)
      have h2 : (if r.1 = 5 then o else o ++ [c]).length ≤ o.length + 1 := by split <;> simp
      simp only [List.length_cons] at *
      omega
theorem unstuff_len (bs : List Bool) : (unstuff bs).1.length ≤ bs.length := by
  have h := unB_len bs (0, false) [] 0
  rw [List.length_nil, Nat.zero_add] at h
  exact h
theorem most_le (n : Nat) : most n ≤ 2 * n + 1 := by unfold most; split <;> omega
theorem next_le (bs : List Bool) : next bs ≤ 1 ∧ -2 ≤ next bs := by
  unfold next
  split
  · omega
  · split
    · split <;> omega
    · omega
theorem worst_succ (c : Bool) (k : Nat) : worst c (k + 1) = worst c k ++ [if k < 5 ∨ (k - 5) / 4 % 2 = 1 then c else !c] := by
  unfold worst; rw [List.range_succ, List.map_append]; rfl
theorem length_worst (c : Bool) (k : Nat) : (worst c k).length = k := by simp [worst]
theorem hold_low : most (hold (-5)) = 0 := by decide
theorem hold_high : most (hold 20000) = most (hold 10000) := by decide
theorem run_pos (t : List Bool) (h : 0 < t.length) : 0 < (run (0, false) t).1 := by
  rcases List.eq_nil_or_concat t with rfl | ⟨u, c, rfl⟩
  · simp at h
  · rw [List.concat_eq_append, run_append, run_cons, run_nil]; exact step_pos _ _
theorem run_le_len (t : List Bool) : ∀ r, (run r t).1 ≤ r.1 + t.length := by
  induction t with
  | nil => intro r; exact Nat.le_refl _
  | cons c u ih => intro r; rw [run_cons]; have h1 := ih (step r c); have h2 := step_le r c; simp only [List.length_cons]; omega
/-- the sign at a place, counted from the end -/
theorem row_end (t : List Bool) (j : Nat) (h : j < t.length) (b : Bool) (hb : t.reverse[j]? = some b) : (Bm.row t)[t.length - 1 - j]? = some (Bm.sign b) := by
  have hj : t.length - 1 - j < t.length := by omega
  rw [List.getElem?_reverse h] at hb
  unfold Bm.row
  rw [List.getElem?_map, hb]
  rfl
end Go.Proofs.Ytcgpnnmceijmjaa.Sm
