/- Layer 20, plain: how bad it is. Nothing of the program is in it. -/
import Derived.Test.YtfempghbkchepaaDoorC19
namespace Go.Proofs.YtfempghbkchepaaDoor.Q19
set_option linter.unusedVariables false
def lev (s : List Nat) : Nat := if hi s = 7 then 2 else if 2 < spread s then 1 else 0
def of_ (s : List Nat) (a b : Bool) : Nat := if a || b then 3 else lev s
def may (l : Int) : Bool := decide (0 ≤ l) && decide (l < 2)
def beats (l : Int) : Bool := decide (0 ≤ l) && decide (l < 3)
theorem lev_le (s : List Nat) : lev s ≤ 2 := by unfold lev; split; omega; split <;> omega
theorem of_le (s : List Nat) (a b : Bool) : of_ s a b ≤ 3 := by unfold of_; have := lev_le s; split <;> omega
theorem hi_rep (k x : Nat) (h : 0 < k) : hi (List.replicate k x) = x := by
  have h1 : hi (List.replicate k x) ≤ x := hi_le (fun y hy => by rw [List.eq_of_mem_replicate hy]; exact Nat.le_refl _)
  have h2 : x ≤ hi (List.replicate k x) := mem_hi (List.mem_replicate.2 ⟨by omega, rfl⟩)
  omega
theorem lo_rep (k x : Nat) (h : 0 < k) : lo (List.replicate k x) = x := by
  have h1 : lo (List.replicate k x) ≤ x := lo_mem (List.mem_replicate.2 ⟨by omega, rfl⟩)
  have h2 : x ≤ lo (List.replicate k x) := le_lo (by intro h0; have := congrArg List.length h0; rw [List.length_replicate] at this; simp at this; omega) (fun y hy => by rw [List.eq_of_mem_replicate hy]; exact Nat.le_refl _)
  omega
theorem lev_rep (k x : Nat) (h : 0 < k) : lev (List.replicate k x) = if x = 7 then 2 else 0 := by
  unfold lev spread
  rw [hi_rep k x h, lo_rep k x h, Nat.sub_self, if_neg (by omega : ¬ 2 < 0)]
theorem hi_two (x y : Nat) : hi [x, y] = max x y := rfl
theorem lo_two (x y : Nat) : lo [x, y] = min x y := rfl
theorem lev_two (x y : Nat) : lev [x, y] = if max x y = 7 then 2 else if 2 < max x y - min x y then 1 else 0 := rfl
/-- One counter alone that isn't 0. -/
theorem One.hi {s : List Nat} {n : Nat} {k : Int} {x : Nat} (h : One s n k x) (hk : 0 ≤ k ∧ k < (n : Int)) : Q19.hi s = x := by
  have hx : s[k.toNat]? = some x := by
    have hl : k.toNat < s.length := by rw [h.len]; omega
    have := h.got
    rw [show k = ((k.toNat : Nat) : Int) by omega, get_nat (List.getElem?_eq_getElem hl)] at this
    rw [List.getElem?_eq_getElem hl, this]
  have h1 : Q19.hi s ≤ x := hi_le (fun y hy => by
    obtain ⟨j, hj⟩ := List.mem_iff_getElem?.1 hy
    rcases h.mem hj with ⟨_, e⟩ | ⟨_, e⟩ <;> omega)
  have h2 : x ≤ Q19.hi s := mem_hi (List.mem_of_getElem? hx)
  omega
theorem One.lev {s : List Nat} {n : Nat} {k : Int} {x : Nat} (h : One s n k x) (hk : 0 ≤ k ∧ k < (n : Int)) (hn : 2 ≤ n) : Q19.lev s = if x = 7 then 2 else if 2 < x then 1 else 0 := by
  unfold Q19.lev
  rw [h.hi hk, h.spread hk hn]
/-- The first so many are one more. -/
def part (k j x : Nat) : List Nat := List.replicate j (min 7 (x + 1)) ++ List.replicate (k - j) x
theorem part_zero (k x : Nat) : part k 0 x = List.replicate k x := by unfold part; simp
theorem part_end (k x : Nat) : part k k x = List.replicate k (min 7 (x + 1)) := by unfold part; simp
theorem part_up {k j x : Nat} (h : j < k) : up (part k j x) (j : Int) = part k (j + 1) x := by
  have hx : (part k j x)[j]? = some x := by
    unfold part
    rw [List.getElem?_append_right (by rw [List.length_replicate]; exact Nat.le_refl _), List.length_replicate, Nat.sub_self, List.getElem?_replicate, if_pos (by omega)]
  rw [up_nat hx]
  unfold part
  rw [List.set_append, if_neg (by rw [List.length_replicate]; omega), List.length_replicate, Nat.sub_self, show k - j = (k - (j + 1)) + 1 by omega, List.replicate_succ, List.set_cons_zero, List.replicate_succ', List.append_assoc]
  rfl
end Go.Proofs.YtfempghbkchepaaDoor.Q19
