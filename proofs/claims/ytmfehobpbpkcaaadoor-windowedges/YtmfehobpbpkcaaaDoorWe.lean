/- Plain mathematics of a matrix with one window: what is at a time; nothing of the program is in it. -/
import Derived.Test.YtmfehobpbpkcaaaDoorWq
import Derived.Test.YtmfehobpbpkcaaaDoorPq
namespace Go.Proofs.YtmfehobpbpkcaaaDoor.Wq
open Mx
set_option linter.unusedVariables false
def one (k s n q r : Int) : M := ⟨1, 2, 8, 600, 2, 64, 0, 8, [0], [⟨99, 1, false⟩], [⟨k, s, s + n, q, r, 0⟩]⟩
structure Ok (k s n q r : Int) : Prop where
  hk : 1 ≤ k ∧ k ≤ 3
  hs : 40 ≤ s ∧ s ≤ 295
  hn : 40 ≤ n ∧ n ≤ 139
  hr : r = 1 ∨ r = 2 ∨ r = 4 ∨ r = 8
  hq : 0 ≤ q ∧ q < r
theorem one_k1 : (scal ⟨1, 2, 8, 600, 2, 64, 0, 8, [0], [⟨99, 1, false⟩], []⟩ && (decide (8 < 2048) && 8 % 8 == 0 && within 1 1 4 && decide (1 ≤ 12) && decide (1 ≤ 16)) && ([0] : List Int).all (fun x => within x 0 99) && ([⟨99, 1, false⟩] : List Msg).all msgOk) = true := by decide
theorem one_k2 : (if firstAt (fun x : Msg => !false && !false && x.id == 99) [⟨99, 1, false⟩] < ((0 : Nat) : Int) ∨ 99 / 8 = 8 / 8 then (142 : Int) else 0) = 0 := by decide
section
variable {k s n q r : Int}
theorem one_is (h : Ok k s n q r) : Mx.is (one k s n q r) = true := by
  obtain ⟨⟨a, b⟩, ⟨c, d⟩, ⟨e, f⟩, g, ⟨i, j⟩⟩ := h
  have h5 : winOk (one k s n q r) ⟨k, s, s + n, q, r, 0⟩ = true := by
    rcases g with rfl | rfl | rfl | rfl <;> simp [winOk, one, within, power] <;> exact ⟨⟨⟨⟨⟨a, b⟩, by omega, decide_eq_true (by omega)⟩, by omega, decide_eq_true (by omega)⟩, by omega⟩, by omega, by omega⟩
  have h0 : (scal (one k s n q r) && lens (one k s n q r) && (one k s n q r).masters.all (fun x => within x 0 99) && (one k s n q r).messages.all msgOk) = true := by
    exact one_k1
  unfold Mx.is
  rw [h0, Bool.true_and]
  show ([⟨k, s, s + n, q, r, 0⟩] : List Win).all _ = true
  rw [List.all_cons, h5]
  rfl
theorem one_step (h : Ok k s n q r) : Lq.step (one k s n q r) = 12 := by
  unfold Lq.step
  rw [one_is h, if_pos rfl]
  show Lq.units 64 140 + 2 = 12
  decide
theorem one_passes (h : Ok k s n q r) : Lq.Passes (one k s n q r) := by
  have hst := one_step h
  refine ⟨one_is h, by rw [hst]; show (12 : Int) ≤ 600; decide, ?_, ?_, ?_, ?_, ?_⟩
  · intro j hj
    have : j = 0 := by have : j < 1 := hj; omega
    subst this; rfl
  · intro j hj
    have : j = 0 := by have : j < 1 := hj; omega
    subst this; rfl
  · intro j hj
    have : j = 0 := by have : j < 1 := hj; omega
    subst this; rfl
  · intro j hj
    have : j = 0 := by have : j < 1 := hj; omega
    subst this
    exact one_k2
  · intro j hj
    have : j = 0 := by have : j < 1 := hj; omega
    subst this
    show (if Lq.noMsg (one k s n q r) ⟨k, s, s + n, q, r, 0⟩ then (145 : Int) else if Lq.tight (one k s n q r) ⟨k, s, s + n, q, r, 0⟩ then 144 else if Lq.meets (one k s n q r) 0 then 143 else 0) = 0
    have h1 : Lq.noMsg (one k s n q r) ⟨k, s, s + n, q, r, 0⟩ = false := by
      unfold Lq.noMsg
      show (k == 1 && false) = false
      rw [Bool.and_false]
    have h2 : Lq.tight (one k s n q r) ⟨k, s, s + n, q, r, 0⟩ = false := by
      unfold Lq.tight
      rw [hst]
      have a := h.hs
      have b := h.hn
      rw [decide_eq_false (show ¬ s < 12 by omega), decide_eq_false (show ¬ s + n - s < 12 by omega)]
      simp
    rw [h1, h2]
    rfl
theorem one_check (h : Ok k s n q r) : (Lq.check (one k s n q r)).2 = 0 := by rw [Lq.check_of (one_passes h)]
theorem one_at (h : Ok k s n q r) (c u : Int) : atW (one k s n q r) c u = if comes q r c && (decide (s ≤ u) && decide (u < s + n)) then 0 else -1 := by
  unfold atW
  rw [if_pos (one_check h)]
  show firstAt (has c u) [⟨k, s, s + n, q, r, 0⟩] = _
  unfold firstAt
  rw [List.findIdx?_cons]
  show (match (if (comes q r c && (decide (s ≤ u) && decide (u < s + n))) = true then some 0 else Option.map (· + 1) (List.findIdx? (has c u) [])) with | some i => ((i : Nat) : Int) | none => -1) = _
  cases comes q r c && (decide (s ≤ u) && decide (u < s + n)) <;> rfl
theorem one_owner (h : Ok k s n q r) (c : Int) : owner (one k s n q r) c s = if comes q r c && k == 1 then 1 else -1 := by
  have hs : decide (s ≤ s) = true := decide_eq_true (by omega)
  have hn : decide (s < s + n) = true := decide_eq_true (by have := h.hn; omega)
  have ha := one_at h c s
  rw [hs, hn, Bool.and_self, Bool.and_true] at ha
  unfold owner
  cases hc : comes q r c
  · rw [hc] at ha
    rw [ha]
    rfl
  · rw [hc] at ha
    rw [ha]
    show (if k = 1 then (1 : Int) else -1) = _
    by_cases hk : k = 1
    · rw [if_pos hk, hk]; rfl
    · rw [if_neg hk, if_neg (by simpa using hk)]
theorem one_free (h : Ok k s n q r) {c : Nat} (hc : c < 8) : (free (one k s n q r) (c : Int) : Int) = if comes q r (c : Int) && k != 3 then 600 - n else 600 := by
  have := sums (one_passes h) (c := c) (show (c : Int) < 8 by omega)
  have hw : ((one k s n q r).windows.map (wid (c : Int))).sum = wid (c : Int) ⟨k, s, s + n, q, r, 0⟩ := by simp [one]
  rw [hw] at this
  unfold wid at this
  dsimp only at this
  have hl : (one k s n q r).length = 600 := rfl
  rw [hl] at this
  cases hcm : comes q r (c : Int) <;> cases hk : k != 3 <;> rw [hcm, hk] at this <;> simp at this ⊢ <;> omega
end
end Go.Proofs.YtmfehobpbpkcaaaDoor.Wq
