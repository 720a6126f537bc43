/- Plain mathematics of counters: one more, one less, within their bounds; how far apart; nothing of the program is in it. -/
import Derived.Test.YtimcjhnanjeloaaRows
namespace Go.Proofs.Ytimcjhnanjeloaa.Q19
set_option linter.unusedVariables false
def held (n : Int) : Nat := (max 0 (min n 12)).toNat
theorem held_le (n : Int) : held n ≤ 12 := by unfold held; omega
def mk (n : Int) : List Nat := List.replicate (held n) 0
def inn (l : List Nat) (k : Int) : Bool := decide (0 ≤ k) && decide (k < (l.length : Int))
def at_ (l : List Nat) (k : Int) : Nat := l.getD k.toNat 0
def up (l : List Nat) (k : Int) : List Nat := if inn l k then l.set k.toNat (min 7 (at_ l k + 1)) else l
def down (l : List Nat) (k : Int) : List Nat := if inn l k then l.set k.toNat (at_ l k - 1) else l
def get (l : List Nat) (k : Int) : Nat := if inn l k then at_ l k else 0
def hi : List Nat → Nat
  | [] => 0
  | x :: l => l.foldl max x
def lo : List Nat → Nat
  | [] => 0
  | x :: l => l.foldl min x
def spread (l : List Nat) : Nat := hi l - lo l
structure Ok (l : List Nat) : Prop where
  len : l.length ≤ 12
  le : ∀ x ∈ l, x ≤ 7
theorem inn_iff {l : List Nat} {k : Int} : inn l k = true ↔ 0 ≤ k ∧ k < (l.length : Int) := by unfold inn; simp
theorem inn_nat {l : List Nat} {k : Nat} (h : k < l.length) : inn l (k : Int) = true := inn_iff.2 ⟨by omega, by omega⟩
theorem inn_no {l : List Nat} {k : Int} (h : ¬ (0 ≤ k ∧ k < (l.length : Int))) : inn l k = false := by
  cases e : inn l k
  · rfl
  · exact absurd (inn_iff.1 e) h
theorem at_nat {l : List Nat} {k x : Nat} (h : l[k]? = some x) : at_ l (k : Int) = x := by
  unfold at_
  rw [Int.toNat_natCast, List.getD_eq_getElem?_getD, h]
  rfl
theorem up_nat {l : List Nat} {k x : Nat} (h : l[k]? = some x) : up l (k : Int) = l.set k (min 7 (x + 1)) := by
  unfold up
  rw [inn_nat (List.getElem?_eq_some_iff.1 h).1, if_pos rfl, at_nat h, Int.toNat_natCast]
theorem down_nat {l : List Nat} {k x : Nat} (h : l[k]? = some x) : down l (k : Int) = l.set k (x - 1) := by
  unfold down
  rw [inn_nat (List.getElem?_eq_some_iff.1 h).1, if_pos rfl, at_nat h, Int.toNat_natCast]
theorem get_nat {l : List Nat} {k x : Nat} (h : l[k]? = some x) : get l (k : Int) = x := by
  unfold get
  rw [inn_nat (List.getElem?_eq_some_iff.1 h).1, if_pos rfl, at_nat h]
theorem up_no {l : List Nat} {k : Int} (h : inn l k = false) : up l k = l := by unfold up; rw [h]; rfl
theorem down_no {l : List Nat} {k : Int} (h : inn l k = false) : down l k = l := by unfold down; rw [h]; rfl
theorem get_no {l : List Nat} {k : Int} (h : inn l k = false) : get l k = 0 := by unfold get; rw [h]; rfl
theorem len_up (l : List Nat) (k : Int) : (up l k).length = l.length := by unfold up; split <;> simp
theorem len_down (l : List Nat) (k : Int) : (down l k).length = l.length := by unfold down; split <;> simp
theorem len_mk (n : Int) : (mk n).length = held n := by unfold mk; simp
theorem at_le {l : List Nat} (h : Ok l) (k : Int) : at_ l k ≤ 7 := by
  unfold at_
  rw [List.getD_eq_getElem?_getD]
  cases e : l[k.toNat]? with
  | none => simp
  | some x => exact h.le x (List.mem_of_getElem? e)
theorem get_le {l : List Nat} (h : Ok l) (k : Int) : get l k ≤ 7 := by
  unfold get
  split
  · exact at_le h k
  · omega
theorem ok_mk (n : Int) : Ok (mk n) := ⟨by rw [len_mk]; exact held_le n, fun x hx => by unfold mk at hx; rw [List.eq_of_mem_replicate hx]; omega⟩
theorem ok_up {l : List Nat} (h : Ok l) (k : Int) : Ok (up l k) := by
  refine ⟨by rw [len_up]; exact h.len, fun x hx => ?_⟩
  unfold up at hx
  split at hx
  · rcases List.mem_or_eq_of_mem_set hx with hx | rfl
    · exact h.le x hx
    · omega
  · exact h.le x hx
theorem ok_down {l : List Nat} (h : Ok l) (k : Int) : Ok (down l k) := by
  refine ⟨by rw [len_down]; exact h.len, fun x hx => ?_⟩
  unfold down at hx
  split at hx
  · rcases List.mem_or_eq_of_mem_set hx with hx | rfl
    · exact h.le x hx
    · have := at_le h k; omega
  · exact h.le x hx
theorem ok_zero {l : List Nat} (h : Ok l) : Ok (List.replicate l.length 0) := ⟨by rw [List.length_replicate]; exact h.len, fun x hx => by rw [List.eq_of_mem_replicate hx]; omega⟩
/-- The same read behind a change. -/
theorem get_up (l : List Nat) (k j : Int) : get (up l k) j = if inn l j && decide (j = k) then min 7 (get l j + 1) else get l j := by
  by_cases hk : inn l k = true
  · obtain ⟨h1, h2⟩ := inn_iff.1 hk
    obtain ⟨n, rfl⟩ := Int.eq_ofNat_of_zero_le h1
    obtain ⟨x, hx⟩ : ∃ x, l[n]? = some x := ⟨_, List.getElem?_eq_getElem (by omega)⟩
    rw [up_nat hx]
    by_cases hj : inn l j = true
    · obtain ⟨g1, g2⟩ := inn_iff.1 hj
      obtain ⟨m, rfl⟩ := Int.eq_ofNat_of_zero_le g1
      obtain ⟨y, hy⟩ : ∃ y, l[m]? = some y := ⟨_, List.getElem?_eq_getElem (by omega)⟩
      rw [hj, get_nat hy]
      by_cases e : m = n
      · subst e
        rw [hx] at hy
        injection hy with hy
        subst hy
        rw [get_nat (x := min 7 (x + 1)) (by rw [List.getElem?_set_self (by omega)])]
        simp
      · rw [get_nat (x := y) (by rw [List.getElem?_set_ne (fun h => e h.symm)]; exact hy)]
        rw [if_neg (by simp; omega)]
    · have hj' : inn l j = false := by simpa using hj
      have hs : inn (l.set n (min 7 (x + 1))) j = false := by unfold inn at *; rw [List.length_set]; exact hj'
      rw [get_no hs, get_no hj', hj']
      simp
  · have hk' : inn l k = false := by simpa using hk
    rw [up_no hk']
    by_cases e : j = k
    · subst e; rw [hk']; simp
    · rw [if_neg (by simp [e])]
theorem get_down (l : List Nat) (k j : Int) : get (down l k) j = if inn l j && decide (j = k) then get l j - 1 else get l j := by
  by_cases hk : inn l k = true
  · obtain ⟨h1, h2⟩ := inn_iff.1 hk
    obtain ⟨n, rfl⟩ := Int.eq_ofNat_of_zero_le h1
    obtain ⟨x, hx⟩ : ∃ x, l[n]? = some x := ⟨_, List.getElem?_eq_getElem (by omega)⟩
    rw [down_nat hx]
    by_cases hj : inn l j = true
    · obtain ⟨g1, g2⟩ := inn_iff.1 hj
      obtain ⟨m, rfl⟩ := Int.eq_ofNat_of_zero_le g1
      obtain ⟨y, hy⟩ : ∃ y, l[m]? = some y := ⟨_, List.getElem?_eq_getElem (by omega)⟩
      rw [hj, get_nat hy]
      by_cases e : m = n
      · subst e
        rw [hx] at hy
        injection hy with hy
        subst hy
        rw [get_nat (x := x - 1) (by rw [List.getElem?_set_self (by omega)])]
        simp
      · rw [get_nat (x := y) (by rw [List.getElem?_set_ne (fun h => e h.symm)]; exact hy)]
        rw [if_neg (by simp; omega)]
    · have hj' : inn l j = false := by simpa using hj
      have hs : inn (l.set n (x - 1)) j = false := by unfold inn at *; rw [List.length_set]; exact hj'
      rw [get_no hs, get_no hj', hj']
      simp
  · have hk' : inn l k = false := by simpa using hk
    rw [down_no hk']
    by_cases e : j = k
    · subst e; rw [hk']; simp
    · rw [if_neg (by simp [e])]
theorem inn_up (l : List Nat) (k j : Int) : inn (up l k) j = inn l j := by unfold inn; rw [len_up]
theorem inn_down (l : List Nat) (k j : Int) : inn (down l k) j = inn l j := by unfold inn; rw [len_down]
theorem get_mk (n k : Int) : get (mk n) k = 0 := by
  unfold get
  split
  · unfold at_ mk
    rw [List.getD_eq_getElem?_getD, List.getElem?_replicate]
    split <;> rfl
  · rfl
theorem get_zero (n : Nat) (k : Int) : get (List.replicate n 0) k = 0 := by
  unfold get
  split
  · unfold at_
    rw [List.getD_eq_getElem?_getD, List.getElem?_replicate]
    split <;> rfl
  · rfl
theorem foldl_max_le {b : Nat} : ∀ (l : List Nat) (x : Nat), x ≤ b → (∀ y ∈ l, y ≤ b) → l.foldl max x ≤ b
  | [], x, hx, _ => hx
  | y :: l, x, hx, h => foldl_max_le l (max x y) (by have := h y (List.mem_cons_self ..); omega) (fun z hz => h z (List.mem_cons_of_mem _ hz))
theorem le_foldl_max : ∀ (l : List Nat) (x : Nat), x ≤ l.foldl max x
  | [], x => Nat.le_refl _
  | y :: l, x => Nat.le_trans (Nat.le_max_left x y) (le_foldl_max l (max x y))
theorem mem_foldl_max : ∀ (l : List Nat) (x y : Nat), y ∈ l → y ≤ l.foldl max x
  | z :: l, x, y, h => by
    rcases List.mem_cons.1 h with rfl | h
    · exact Nat.le_trans (Nat.le_max_right x y) (le_foldl_max l (max x y))
    · exact mem_foldl_max l (max x z) y h
theorem foldl_min_le : ∀ (l : List Nat) (x : Nat), l.foldl min x ≤ x
  | [], x => Nat.le_refl _
  | y :: l, x => Nat.le_trans (foldl_min_le l (min x y)) (Nat.min_le_left x y)
theorem foldl_min_mem : ∀ (l : List Nat) (x y : Nat), y ∈ l → l.foldl min x ≤ y
  | z :: l, x, y, h => by
    rcases List.mem_cons.1 h with rfl | h
    · exact Nat.le_trans (foldl_min_le l (min x y)) (Nat.min_le_right x y)
    · exact foldl_min_mem l (min x z) y h
theorem le_foldl_min {b : Nat} : ∀ (l : List Nat) (x : Nat), b ≤ x → (∀ y ∈ l, b ≤ y) → b ≤ l.foldl min x
  | [], x, hx, _ => hx
  | y :: l, x, hx, h => le_foldl_min l (min x y) (by have := h y (List.mem_cons_self ..); omega) (fun z hz => h z (List.mem_cons_of_mem _ hz))
theorem hi_le {l : List Nat} {b : Nat} (h : ∀ y ∈ l, y ≤ b) : hi l ≤ b := by
  cases l with
  | nil => exact Nat.zero_le _
  | cons x l => exact foldl_max_le l x (h x (List.mem_cons_self ..)) (fun y hy => h y (List.mem_cons_of_mem _ hy))
theorem mem_hi {l : List Nat} {y : Nat} (h : y ∈ l) : y ≤ hi l := by
  cases l with
  | nil => cases h
  | cons x l =>
    rcases List.mem_cons.1 h with rfl | h
    · exact le_foldl_max l y
    · exact mem_foldl_max l x y h
theorem lo_mem {l : List Nat} {y : Nat} (h : y ∈ l) : lo l ≤ y := by
  cases l with
  | nil => cases h
  | cons x l =>
    rcases List.mem_cons.1 h with rfl | h
    · exact foldl_min_le l y
    · exact foldl_min_mem l x y h
theorem le_lo {l : List Nat} {b : Nat} (h0 : l ≠ []) (h : ∀ y ∈ l, b ≤ y) : b ≤ lo l := by
  cases l with
  | nil => exact absurd rfl h0
  | cons x l => exact le_foldl_min l x (h x (List.mem_cons_self ..)) (fun y hy => h y (List.mem_cons_of_mem _ hy))
theorem spread_le {l : List Nat} (h : Ok l) : spread l ≤ 7 := by
  have := hi_le h.le
  unfold spread
  omega
end Go.Proofs.Ytimcjhnanjeloaa.Q19
