/- Plain mathematics of bits laid between: what is laid, what is taken away, runs of bits alike; nothing of the program is in it. -/
import Derived.Test.YtcgpnnmceijmjabBm
namespace Go.Proofs.Ytcgpnnmceijmjab.Sm

/-- how many bits alike a row ends with, and which bit -/
def step (r : Nat × Bool) (c : Bool) : Nat × Bool := if 0 < r.1 ∧ r.2 = c then (r.1 + 1, c) else (1, c)
def run (r : Nat × Bool) (bs : List Bool) : Nat × Bool := bs.foldl step r
/-- bits laid between, 'o' being what stands already -/
def stB : Nat × Bool → List Bool → List Bool → List Bool
  | _, o, [] => o
  | r, o, c :: t => if (step r c).1 = 5 then stB (1, !c) (o ++ [c, !c]) t else stB (step r c) (o ++ [c]) t
def stuff (bs : List Bool) : List Bool := stB (0, false) [] bs
/-- bits taken away; the place of the sixth alike, or -1 -/
def unB : Nat × Bool → List Bool → Nat → List Bool → List Bool × Int
  | _, o, _, [] => (o, -1)
  | r, o, i, c :: t => if (step r c).1 = 6 then (o, (i : Int)) else unB (step r c) (if r.1 = 5 then o else o ++ [c]) (i + 1) t
def unstuff (bs : List Bool) : List Bool × Int := unB (0, false) [] 0 bs
def next (bs : List Bool) : Int := if 0 ≤ (unstuff bs).2 then -2 else if (run (0, false) bs).1 = 5 then (if (run (0, false) bs).2 = true then 0 else 1) else -1
def most (n : Nat) : Nat := if n < 5 then n else n + 1 + (n - 5) / 4

theorem step_snd (r : Nat × Bool) (c : Bool) : (step r c).2 = c := by unfold step; split <;> rfl
theorem step_pos (r : Nat × Bool) (c : Bool) : 0 < (step r c).1 := by unfold step; split <;> simp
theorem step_le (r : Nat × Bool) (c : Bool) : (step r c).1 ≤ r.1 + 1 := by unfold step; split <;> simp
theorem run_nil (r : Nat × Bool) : run r [] = r := rfl
theorem run_cons (r : Nat × Bool) (c : Bool) (t : List Bool) : run r (c :: t) = run (step r c) t := rfl
theorem run_append (r : Nat × Bool) (a b : List Bool) : run r (a ++ b) = run (run r a) b := by unfold run; rw [List.foldl_append]

/-- what stands already stays ahead -/
theorem stB_out (bs : List Bool) : ∀ r o, stB r o bs = o ++ stB r [] bs := by
  induction bs with
  | nil => intro r o; simp [stB]
  | cons c t ih =>
    intro r o
    unfold stB
    split
    · rw [ih (1, !c) (o ++ [c, !c]), ih (1, !c) ([] ++ [c, !c])]; simp
    · rw [ih (step r c) (o ++ [c]), ih (step r c) ([] ++ [c])]; simp
theorem stB_cons5 (r : Nat × Bool) (c : Bool) (t : List Bool) (h : (step r c).1 = 5) : stB r [] (c :: t) = c :: (!c) :: stB (1, !c) [] t := by
  have e : stB r [] (c :: t) = stB (1, !c) ([] ++ [c, !c]) t := by conv => lhs; unfold stB; rw [if_pos h]
  rw [e, stB_out]; rfl
theorem stB_cons (r : Nat × Bool) (c : Bool) (t : List Bool) (h : (step r c).1 ≠ 5) : stB r [] (c :: t) = c :: stB (step r c) [] t := by
  have e : stB r [] (c :: t) = stB (step r c) ([] ++ [c]) t := by conv => lhs; unfold stB; rw [if_neg h]
  rw [e, stB_out]; rfl
/-- the state behind a row that was laid between -/
def stS : Nat × Bool → List Bool → Nat × Bool
  | r, [] => r
  | r, c :: t => if (step r c).1 = 5 then stS (1, !c) t else stS (step r c) t
theorem stB_append (a b : List Bool) : ∀ r, stB r [] (a ++ b) = stB r [] a ++ stB (stS r a) [] b := by
  induction a with
  | nil => intro r; simp [stB, stS]
  | cons c t ih =>
    intro r
    by_cases h : (step r c).1 = 5
    · rw [List.cons_append, stB_cons5 r c _ h, stB_cons5 r c _ h, ih]
      conv => rhs; unfold stS; rw [if_pos h]
      rfl
    · rw [List.cons_append, stB_cons r c _ h, stB_cons r c _ h, ih]
      conv => rhs; unfold stS; rw [if_neg h]
      rfl

theorem step_other (c : Bool) (n : Nat) (b : Bool) (h : b = c) : step (n, b) (!c) = (1, !c) := by
  unfold step; rw [if_neg]; intro h2; subst h; have := h2.2; revert this; cases b <;> simp

/-- taking away: what stands already stays ahead, the places count on -/
theorem unB_out (bs : List Bool) : ∀ r o i, unB r o i bs = (o ++ (unB r [] i bs).1, (unB r [] i bs).2) := by
  induction bs with
  | nil => intro r o i; simp [unB]
  | cons c t ih =>
    intro r o i
    by_cases h : (step r c).1 = 6
    · unfold unB; rw [if_pos h, if_pos h]; simp
    · conv => lhs; unfold unB; rw [if_neg h]
      conv => rhs; unfold unB; rw [if_neg h]
      by_cases h5 : r.1 = 5
      · rw [if_pos h5, if_pos h5]; exact ih _ _ _
      · rw [if_neg h5, if_neg h5, ih _ (o ++ [c]), ih _ ([] ++ [c])]; simp

/-- what was laid between is taken away again: from states that go together -/
theorem un_st (bs : List Bool) : ∀ (r : Nat × Bool) (i : Nat), r.1 < 5 → unB r [] i (stB r [] bs) = (bs, -1) := by
  induction bs with
  | nil => intro r i _; rfl
  | cons c t ih =>
    intro r i hr
    by_cases h : (step r c).1 = 5
    · rw [stB_cons5 r c t h]
      have hs : step r c = (5, c) := Prod.ext h (step_snd r c)
      unfold unB
      rw [if_neg (by rw [h]; decide), if_neg (by omega), hs]
      unfold unB
      rw [step_other c 5 c rfl, if_neg (by simp), if_pos rfl, unB_out, ih (1, !c) _ (by simp)]
      simp
    · rw [stB_cons r c t h]
      have hlt : (step r c).1 < 5 := by have := step_le r c; omega
      unfold unB
      rw [if_neg (by omega), if_neg (by omega), unB_out, ih (step r c) _ hlt]
      simp
theorem unstuff_stuff (bs : List Bool) : unstuff (stuff bs) = (bs, -1) := un_st bs (0, false) 0 (by decide)

/-- lengths -/
theorem stB_len_ge (bs : List Bool) : ∀ r, bs.length ≤ (stB r [] bs).length := by
  induction bs with
  | nil => intro r; simp
  | cons c t ih =>
    intro r
    by_cases h : (step r c).1 = 5
    · rw [stB_cons5 r c t h]; have := ih (1, !c); simp; omega
    · rw [stB_cons r c t h]; have := ih (step r c); simp; omega
/-- from a state of n bits alike (n from 1 to 4) at most (m + n - 1) / 4 are laid -/
theorem stB_len_le (bs : List Bool) : ∀ (r : Nat × Bool), 0 < r.1 → r.1 < 5 → (stB r [] bs).length ≤ bs.length + (bs.length + r.1 - 1) / 4 := by
  induction bs with
  | nil => intro r h1 h2; simp [stB]
  | cons c t ih =>
    intro r h1 h2
    have hle := step_le r c
    have hp := step_pos r c
    by_cases h : (step r c).1 = 5
    · rw [stB_cons5 r c t h]
      have h3 := ih (1, !c) (by simp) (by simp)
      simp only [List.length_cons] at *
      simp at h3
      omega
    · rw [stB_cons r c t h]
      have h3 := ih (step r c) hp (by omega)
      simp only [List.length_cons] at *
      omega
theorem stuff_len_le (bs : List Bool) : (stuff bs).length ≤ most bs.length := by
  unfold stuff most
  cases bs with
  | nil => simp [stB]
  | cons c t =>
    have hs : step (0, false) c = (1, c) := by unfold step; rw [if_neg (by simp)]
    rw [stB_cons _ c t (by rw [hs]; simp), hs]
    have h3 := stB_len_le t (1, c) (by simp) (by simp)
    simp only [List.length_cons] at *
    simp at h3
    split <;> omega
theorem stuff_len_ge (bs : List Bool) : bs.length ≤ (stuff bs).length := stB_len_ge bs _

/-- no six alike: the run within what was laid between stays below six -/
def calm (r : Nat × Bool) (bs : List Bool) : Prop := ∀ k, (run r (bs.take k)).1 ≤ 5
theorem calm_cons {r : Nat × Bool} {c : Bool} {t : List Bool} (h0 : r.1 ≤ 5) (h : calm (step r c) t) : calm r (c :: t) := by
  intro k
  cases k with
  | zero => exact h0
  | succ k => rw [List.take_succ_cons, run_cons]; exact h k
theorem calm_stB (bs : List Bool) : ∀ r : Nat × Bool, r.1 < 5 → calm r (stB r [] bs) := by
  induction bs with
  | nil => intro r hr k; simp [stB, run]; omega
  | cons c t ih =>
    intro r hr
    have hle := step_le r c
    by_cases h : (step r c).1 = 5
    · rw [stB_cons5 r c t h]
      apply calm_cons (by omega)
      apply calm_cons (by omega)
      have hs : step r c = (5, c) := Prod.ext h (step_snd r c)
      rw [hs, step_other c 5 c rfl]
      exact ih (1, !c) (by simp)
    · rw [stB_cons r c t h]
      apply calm_cons (by omega)
      exact ih (step r c) (by omega)
theorem calm_stuff (bs : List Bool) : calm (0, false) (stuff bs) := calm_stB bs _ (by decide)

/-- in a calm row nothing is told -/
theorem un_calm (bs : List Bool) : ∀ r o i, calm r bs → (unB r o i bs).2 = -1 := by
  induction bs with
  | nil => intro r o i _; rfl
  | cons c t ih =>
    intro r o i h
    have h1 := h 1
    rw [List.take_succ_cons, List.take_zero, run_cons, run_nil] at h1
    unfold unB
    rw [if_neg (by omega)]
    exact ih _ _ _ (fun k => by have := h (k + 1); rwa [List.take_succ_cons, run_cons] at this)
end Go.Proofs.Ytcgpnnmceijmjab.Sm
