/- Plain mathematics of whether a matrix can be: units, steps, windows that meet, the first error; nothing of the program is in it. -/
import Derived.Test.YtnbfnipdiffphaaDoorMx
namespace Go.Proofs.YtnbfnipdiffphaaDoor.Lq
open Mx
set_option linter.unusedVariables false
def units (unit bits : Int) : Int := 4 * max 0 (min bits 1000) / max 1 unit + (if 4 * max 0 (min bits 1000) % max 1 unit = 0 then 0 else 1) + 1
theorem units_bound14 {u b : Int} : 0 ≤ units u b ∧ units u b ≤ 4002 := by
  unfold units
  have h1 : 0 ≤ 4 * max 0 (min b 1000) ∧ 4 * max 0 (min b 1000) ≤ 4000 := by omega
  have h2 : 1 ≤ max 1 u := by omega
  generalize 4 * max 0 (min b 1000) = n at *
  generalize max 1 u = k at *
  have h3 : 0 ≤ n / k := Int.ediv_nonneg h1.1 (by omega)
  have h4 : n / k ≤ n := Int.ediv_le_self _ h1.1
  split <;> omega
def step (m : M) : Int := if is m then units m.unit 140 + m.enable else 0
def both (cycles : Int) (x y : Win) (c : Nat) : Bool := decide ((c : Int) < cycles) && comes x.cycle x.rep c && comes y.cycle y.rep c
def cross (x y : Win) : Bool := decide (x.start < y.fin) && decide (y.start < x.fin)
def meetW (cycles : Int) (x y : Win) : Bool := cross x y && (List.range 8).any (both cycles x y)
def getW (m : M) (a : Int) : Option Win := if 0 ≤ a then m.windows[a.toNat]? else none
def meet (m : M) (a b : Int) : Bool := match getW m a, getW m b with
  | some x, some y => meetW m.cycles x y
  | _, _ => false
/-- The first place of so many at which there is an error, and which. -/
def scan (f : Nat → Int) : Nat → Nat → Int × Int
  | 0, _ => (0, 0)
  | n + 1, k => if f k = 0 then scan f n (k + 1) else ((k : Int), f k)
def orElse (a b : Int × Int) : Int × Int := if a.2 = 0 then b else a
def eMaster (m : M) (k : Nat) : Int := match m.masters[k]? with | some x => if m.nodes ≤ x then 141 else 0 | none => 0
def eOwner (m : M) (k : Nat) : Int := match m.messages[k]? with | some x => if m.nodes ≤ x.owner then 141 else 0 | none => 0
def eRank (m : M) (k : Nat) : Int := match m.masters[k]? with | some x => if rank m x < (k : Int) then 142 else 0 | none => 0
def eFind (m : M) (k : Nat) : Int := match m.messages[k]? with | some x => if find m false false x.id < (k : Int) ∨ x.id / 8 = m.ref / 8 then 142 else 0 | none => 0
/-- Whether an exclusive window has no message of its kind. -/
def noMsg (m : M) (x : Win) : Bool := x.kind == 1 && (match getMsg m x.msg with | some y => y.event | none => true)
where getMsg (m : M) (i : Int) : Option Msg := if 0 ≤ i then m.messages[i.toNat]? else none
def tight (m : M) (x : Win) : Bool := decide (x.start < step m) || x.kind != 3 && decide (x.fin - x.start < step m)
def meets (m : M) (i : Nat) : Bool := (List.range i).any (fun k => meet m (k : Int) (i : Int))
def eWin (m : M) (i : Nat) : Int := match m.windows[i]? with
  | some x => if noMsg m x then 145 else if tight m x then 144 else if meets m i then 143 else 0
  | none => 0
def twice (m : M) : Int × Int := orElse (scan (eRank m) m.masters.length 0) (scan (eFind m) m.messages.length 0)
def check (m : M) : Int × Int :=
  if is m = false then (0, 120) else if m.length < step m then (0, 140) else
  orElse (scan (eMaster m) m.masters.length 0) (orElse (scan (eOwner m) m.messages.length 0) (orElse (twice m) (scan (eWin m) m.windows.length 0)))
theorem scan_none {f : Nat → Int} : ∀ {n k : Nat}, (∀ j, k ≤ j → j < k + n → f j = 0) → scan f n k = (0, 0)
  | 0, _, _ => rfl
  | n + 1, k, h => by
    rw [scan, if_pos (h k (Nat.le_refl _) (by omega))]
    exact scan_none (fun j h1 h2 => h j (by omega) (by omega))
theorem scan_some {f : Nat → Int} {j : Nat} (hj : f j ≠ 0) : ∀ {n k : Nat}, k ≤ j → j < k + n → (∀ i, k ≤ i → i < j → f i = 0) → scan f n k = ((j : Int), f j)
  | 0, k, h1, h2, _ => by omega
  | n + 1, k, h1, h2, h => by
    rw [scan]
    by_cases hk : f k = 0
    · rw [if_pos hk]
      have : k ≠ j := fun e => hj (e ▸ hk)
      exact scan_some hj (by omega) (by omega) (fun i h3 h4 => h i (by omega) h4)
    · rw [if_neg hk]
      have : k = j := by
        apply Classical.byContradiction
        intro hne
        exact hk (h k (Nat.le_refl _) (by omega))
      rw [this]
theorem scan_zero {f : Nat → Int} : ∀ {n k : Nat}, (scan f n k).2 = 0 → ∀ j, k ≤ j → j < k + n → f j = 0
  | 0, _, _, j, h1, h2 => by omega
  | n + 1, k, h, j, h1, h2 => by
    rw [scan] at h
    by_cases hk : f k = 0
    · rw [if_pos hk] at h
      by_cases e : j = k
      · rw [e]; exact hk
      · exact scan_zero h j (by omega) (by omega)
    · rw [if_neg hk] at h
      exact absurd h hk
/-- What is so far without an error goes on. -/
theorem upto {f : Nat → Int} {k : Nat} (h : ∀ j, j < k → f j = 0) (hk : f k = 0) : ∀ j, j < k + 1 → f j = 0 := fun j hj => by
  rcases Nat.lt_or_eq_of_le (Nat.le_of_lt_succ hj) with h1 | h1
  · exact h j h1
  · rw [h1]; exact hk
theorem orElse_zero {a b : Int × Int} (h : a.2 = 0) : orElse a b = b := if_pos h
theorem orElse_some {a b : Int × Int} (h : a.2 ≠ 0) : orElse a b = a := if_neg h
/-- What passes. -/
structure Passes (m : M) : Prop where
  is : Mx.is m = true
  room : step m ≤ m.length
  masters : ∀ j, j < m.masters.length → eMaster m j = 0
  owners : ∀ j, j < m.messages.length → eOwner m j = 0
  ranks : ∀ j, j < m.masters.length → eRank m j = 0
  finds : ∀ j, j < m.messages.length → eFind m j = 0
  wins : ∀ j, j < m.windows.length → eWin m j = 0
theorem passes_of {m : M} (h : (check m).2 = 0) : Passes m := by
  unfold check at h
  cases hi : is m with
  | false => rw [hi] at h; simp at h
  | true =>
    rw [hi, if_neg (by simp)] at h
    by_cases hl : m.length < step m
    · rw [if_pos hl] at h; simp at h
    · rw [if_neg hl] at h
      unfold orElse twice orElse at h
      by_cases h1 : (scan (eMaster m) m.masters.length 0).2 = 0
      · rw [if_pos h1] at h
        by_cases h2 : (scan (eOwner m) m.messages.length 0).2 = 0
        · rw [if_pos h2] at h
          by_cases h3 : (scan (eRank m) m.masters.length 0).2 = 0
          · rw [if_pos h3] at h
            by_cases h4 : (scan (eFind m) m.messages.length 0).2 = 0
            · rw [if_pos h4] at h
              exact ⟨hi, by omega, fun j hj => scan_zero h1 j (Nat.zero_le _) (by omega), fun j hj => scan_zero h2 j (Nat.zero_le _) (by omega), fun j hj => scan_zero h3 j (Nat.zero_le _) (by omega), fun j hj => scan_zero h4 j (Nat.zero_le _) (by omega), fun j hj => scan_zero h j (Nat.zero_le _) (by omega)⟩
            · rw [if_neg h4] at h; exact absurd h h4
          · rw [if_neg h3, if_neg h3] at h; exact absurd h h3
        · rw [if_neg h2] at h; exact absurd h h2
      · rw [if_neg h1] at h; exact absurd h h1
theorem check_of {m : M} (h : Passes m) : check m = (0, 0) := by
  have s1 := scan_none (f := eMaster m) (n := m.masters.length) (k := 0) (fun j _ hj => h.masters j (by omega))
  have s2 := scan_none (f := eOwner m) (n := m.messages.length) (k := 0) (fun j _ hj => h.owners j (by omega))
  have s3 := scan_none (f := eRank m) (n := m.masters.length) (k := 0) (fun j _ hj => h.ranks j (by omega))
  have s4 := scan_none (f := eFind m) (n := m.messages.length) (k := 0) (fun j _ hj => h.finds j (by omega))
  have s5 := scan_none (f := eWin m) (n := m.windows.length) (k := 0) (fun j _ hj => h.wins j (by omega))
  have := h.room
  unfold check twice
  rw [h.is, if_neg (by simp), if_neg (by omega), s1, s2, s3, s4, s5]
  rfl
end Go.Proofs.YtnbfnipdiffphaaDoor.Lq
