/- Plain mathematics of what is asked of each one of a list and of its pairs with those ahead of it; nothing of the program is in it. -/
import Derived.Test.YtnbfnipdiffphaaDoorLq
import Derived.Test.YtnbfnipdiffphaaDoorPq
namespace Go.Proofs.YtnbfnipdiffphaaDoor.Lq
open Mx
set_option linter.unusedVariables false
/-- Of the one at a place: what is wrong of itself, or else between it and the first one ahead of it with which something is. -/
def pr (f : Nat → Int) (g : Nat → Nat → Int) (k : Nat) : Int := if f k = 0 then (scan (fun j => g j k) k 0).2 else f k
theorem pr_none {f : Nat → Int} {g : Nat → Nat → Int} {k : Nat} (h : f k = 0) (hg : ∀ j, j < k → g j k = 0) : pr f g k = 0 := by
  unfold pr
  rw [if_pos h, scan_none (fun j _ hj => hg j (by omega))]
theorem pr_self {f : Nat → Int} {g : Nat → Nat → Int} {k : Nat} (h : f k ≠ 0) : pr f g k = f k := if_neg h
theorem pr_pair {f : Nat → Int} {g : Nat → Nat → Int} {k j : Nat} (h : f k = 0) (hg : ∀ i, i < j → g i k = 0) (hj : j < k) (hn : g j k ≠ 0) : pr f g k = g j k := by
  unfold pr
  rw [if_pos h, scan_some (f := fun j => g j k) hn (Nat.zero_le _) (by omega) (fun i _ hi => hg i hi)]
theorem scan_same {f g : Nat → Int} : ∀ {n k : Nat}, (∀ j, k ≤ j → j < k + n → f j = g j) → scan f n k = scan g n k
  | 0, _, _ => rfl
  | n + 1, k, h => by
    rw [scan, scan, h k (Nat.le_refl _) (by omega), scan_same (fun j h1 h2 => h j (by omega) (by omega))]
theorem scan_any {c : Int} (hc : c ≠ 0) (p : Nat → Bool) : ∀ (n : Nat), (scan (fun j => if p j then c else 0) n 0).2 = if (List.range n).any p then c else 0 := fun n => by
  by_cases h : (List.range n).any p = true
  · rw [if_pos h]
    cases hz : (scan (fun j => if p j then c else 0) n 0).2 == 0
    · have hne : (scan (fun j => if p j then c else 0) n 0).2 ≠ 0 := by simpa using hz
      clear hz h
      have : ∀ n k, (scan (fun j => if p j then c else 0) n k).2 ≠ 0 → (scan (fun j => if p j then c else 0) n k).2 = c := by
        intro n
        induction n with
        | zero => intro k hk; exact absurd rfl hk
        | succ n ih =>
          intro k hk
          rw [scan] at hk ⊢
          by_cases h1 : (if p k then c else 0) = 0
          · rw [if_pos h1] at hk ⊢; exact ih _ hk
          · rw [if_neg h1]
            show (if p k then c else 0) = c
            cases hp : p k
            · rw [hp] at h1; exact absurd rfl h1
            · rfl
      exact this _ _ hne
    · have h0 := scan_zero (f := fun j => if p j then c else 0) (n := n) (k := 0) (by simpa using hz)
      obtain ⟨j, hj, hp⟩ := List.any_eq_true.1 h
      have := h0 j (Nat.zero_le _) (by have := List.mem_range.1 hj; omega)
      rw [if_pos hp] at this
      exact absurd this hc
  · rw [if_neg h, scan_none (fun j _ hj => ?_)]
    refine if_neg (fun hp => h (List.any_eq_true.2 ⟨j, List.mem_range.2 (by omega), hp⟩))
theorem first_lt {α : Type} {p : α → Bool} {l : List α} {k : Nat} {x : α} (hx : l[k]? = some x) (hp : p x = true) : firstAt p l < (k : Int) ↔ ∃ j, j < k ∧ ∃ y, l[j]? = some y ∧ p y = true := by
  obtain ⟨hk, hxe⟩ := List.getElem?_eq_some_iff.1 hx
  unfold firstAt
  cases e : l.findIdx? p with
  | none =>
    have := List.findIdx?_eq_none_iff.1 e x (List.mem_of_getElem? hx)
    rw [this] at hp
    cases hp
  | some i =>
    obtain ⟨hi, hpi, hb⟩ := List.findIdx?_eq_some_iff_getElem.1 e
    show ((i : Nat) : Int) < (k : Int) ↔ _
    constructor
    · intro h
      exact ⟨i, by omega, _, List.getElem?_eq_getElem hi, hpi⟩
    · rintro ⟨j, hj, y, hy, hpy⟩
      obtain ⟨hjl, hye⟩ := List.getElem?_eq_some_iff.1 hy
      apply Classical.byContradiction
      intro hn
      have := hb j (by omega)
      rw [hye] at this
      exact this hpy
def none2 (_ _ : Nat) : Int := 0
def none1 (_ : Nat) : Int := 0
theorem pr_none2 (f : Nat → Int) (k : Nat) : pr f none2 k = f k := by
  by_cases h : f k = 0
  · rw [h]; exact pr_none h (fun _ _ => rfl)
  · exact pr_self h
def twM (m : M) (j k : Nat) : Bool := decide (m.masters[j]? = m.masters[k]?)
def twI (m : M) (j k : Nat) : Bool := decide ((m.messages[j]?).map (·.id) = (m.messages[k]?).map (·.id))
def beatI (m : M) (k : Nat) : Int := match m.messages[k]? with | some x => if m.ref ≤ x.id ∧ x.id ≤ m.ref + 7 then 142 else 0 | none => 0
def own (m : M) (k : Nat) : Int := match m.windows[k]? with | some x => if noMsg m x then 145 else if tight m x then 144 else 0 | none => 0
theorem pr_rank {m : M} {k : Nat} (hk : k < m.masters.length) : pr none1 (fun j k => if twM m j k then 142 else 0) k = eRank m k := by
  obtain ⟨x, hx⟩ : ∃ x, m.masters[k]? = some x := ⟨_, List.getElem?_eq_getElem hk⟩
  unfold pr
  rw [if_pos (show none1 k = 0 from rfl), scan_any (by decide) (fun j => twM m j k)]
  have hf : firstAt (fun y => y == x) m.masters < (k : Int) ↔ _ := first_lt (p := fun y => y == x) hx (by simp)
  unfold eRank
  rw [hx]
  show _ = if rank m x < (k : Int) then 142 else 0
  unfold rank
  by_cases h : firstAt (fun y => y == x) m.masters < (k : Int)
  · obtain ⟨j, hj, y, hy, he⟩ := hf.1 h
    rw [if_pos h, if_pos (List.any_eq_true.2 ⟨j, List.mem_range.2 hj, by unfold twM; rw [hx, hy, beq_iff_eq.1 he]; simp⟩)]
  · rw [if_neg h, if_neg (fun ha => ?_)]
    obtain ⟨j, hj, he⟩ := List.any_eq_true.1 ha
    have hjk := List.mem_range.1 hj
    unfold twM at he
    rw [hx] at he
    exact h (hf.2 ⟨j, hjk, x, of_decide_eq_true he, by simp⟩)
theorem ref_eight {m : M} (h : is m = true) : m.ref % 8 = 0 := by
  unfold is lens at h
  simp only [Bool.and_eq_true, beq_iff_eq, decide_eq_true_eq] at h
  omega
theorem pr_find {m : M} (hm : is m = true) {k : Nat} (hk : k < m.messages.length) : pr (beatI m) (fun j k => if twI m j k then 142 else 0) k = eFind m k := by
  obtain ⟨x, hx⟩ : ∃ x, m.messages[k]? = some x := ⟨_, List.getElem?_eq_getElem hk⟩
  have h8 := ref_eight hm
  have hf : firstAt (fun y : Msg => !false && !false && y.id == x.id) m.messages < (k : Int) ↔ _ := first_lt (p := fun y : Msg => !false && !false && y.id == x.id) hx (by simp)
  have he : eFind m k = if firstAt (fun y : Msg => !false && !false && y.id == x.id) m.messages < (k : Int) ∨ x.id / 8 = m.ref / 8 then 142 else 0 := by unfold eFind; rw [hx]; rfl
  rw [he]
  by_cases hb : m.ref ≤ x.id ∧ x.id ≤ m.ref + 7
  · have h0 : beatI m k = 142 := by unfold beatI; rw [hx]; exact if_pos hb
    rw [pr_self (by rw [h0]; decide), h0, if_pos (Or.inr (by omega))]
  · have h0 : beatI m k = 0 := by unfold beatI; rw [hx]; exact if_neg hb
    unfold pr
    rw [h0, if_pos rfl, scan_any (by decide) (fun j => twI m j k)]
    have hb2 : ¬ (x.id / 8 = m.ref / 8) := by omega
    by_cases h : firstAt (fun y : Msg => !false && !false && y.id == x.id) m.messages < (k : Int)
    · obtain ⟨j, hj, y, hy, he⟩ := hf.1 h
      rw [if_pos (Or.inl h), if_pos (List.any_eq_true.2 ⟨j, List.mem_range.2 hj, by unfold twI; rw [hx, hy]; simpa using he⟩)]
    · rw [if_neg (c := firstAt (fun y : Msg => !false && !false && y.id == x.id) m.messages < (k : Int) ∨ x.id / 8 = m.ref / 8) (fun ho => ho.elim h hb2), if_neg (fun ha => ?_)]
      obtain ⟨j, hj, he⟩ := List.any_eq_true.1 ha
      have hjk := List.mem_range.1 hj
      obtain ⟨y, hy⟩ : ∃ y, m.messages[j]? = some y := ⟨_, List.getElem?_eq_getElem (by omega)⟩
      unfold twI at he
      rw [hx, hy] at he
      exact h (hf.2 ⟨j, hjk, y, hy, by simpa using he⟩)
theorem own_at {m : M} {k : Nat} {x : Win} (hx : m.windows[k]? = some x) : own m k = if noMsg m x then 145 else if tight m x then 144 else 0 := by unfold own; rw [hx]
theorem pr_win {m : M} {k : Nat} (hk : k < m.windows.length) : pr (own m) (fun j k => if meet m (j : Int) (k : Int) then 143 else 0) k = eWin m k := by
  obtain ⟨x, hx⟩ : ∃ x, m.windows[k]? = some x := ⟨_, List.getElem?_eq_getElem hk⟩
  have ho := own_at hx
  have he : eWin m k = if noMsg m x then 145 else if tight m x then 144 else if meets m k then 143 else 0 := by unfold eWin; rw [hx]
  rw [he]
  cases h1 : noMsg m x
  · cases h2 : tight m x
    · have h0 : own m k = 0 := by rw [ho, h1, h2]; rfl
      unfold pr
      rw [h0, if_pos rfl, if_neg (by simp), if_neg (by simp), scan_any (by decide) (fun j => meet m (j : Int) (k : Int))]
      rfl
    · have h0 : own m k = 144 := by rw [ho, h1, h2]; rfl
      rw [pr_self (by rw [h0]; decide), h0]
      rfl
  · have h0 : own m k = 145 := by rw [ho, h1]; rfl
    rw [pr_self (by rw [h0]; decide), h0]
    rfl
end Go.Proofs.YtnbfnipdiffphaaDoor.Lq
