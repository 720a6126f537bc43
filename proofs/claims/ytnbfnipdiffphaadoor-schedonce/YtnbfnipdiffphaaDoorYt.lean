/- Layer 15: each trigger of a plan; what is due again; beats in their order; plain. -/
import Derived.Test.YtnbfnipdiffphaaDoorYr
namespace Go.Proofs.YtnbfnipdiffphaaDoor.Yq
open Mx
set_option linter.unusedVariables false
theorem mem_wins {m : M} {who : Int} {t : Tr} : ∀ {ws : List Win} {l : List Tr}, t ∈ ws.foldl (put m who) l → t ∈ l ∨ ∃ x ∈ ws, trig m who x = some t
  | [], l, h => Or.inl h
  | x :: ws, l, h => by
    rw [List.foldl_cons] at h
    rcases mem_wins (ws := ws) h with h1 | ⟨y, hy, e⟩
    · unfold put at h1
      cases e : trig m who x with
      | none => rw [e] at h1; exact Or.inl h1
      | some u =>
        rw [e] at h1
        rcases mem_lay.1 h1 with rfl | h2
        · exact Or.inr ⟨x, List.mem_cons_self, e⟩
        · exact Or.inl h2
    · exact Or.inr ⟨y, List.mem_cons_of_mem _ hy, e⟩
/-- What a plan's triggers are. -/
theorem mem_plan {m : M} {who : Int} {t : Tr} (h : t ∈ plan m who) : (∃ x ∈ m.windows, trig m who x = some t) ∨ (0 ≤ rank m who ∧ (t = ⟨4, m.length, 0, 1, 0, 0⟩ ∨ t = ⟨4, beat m (rank m who), 0, 1, 1, 0⟩)) ∨ t = ⟨5, watch m, 0, 1, 0, 0⟩ := by
  unfold plan at h
  split at h
  · rcases mem_lay.1 h with rfl | h1
    · exact Or.inr (Or.inr rfl)
    · unfold refs at h1
      split at h1
      · rename_i hr
        rcases mem_lay.1 h1 with rfl | h2
        · exact Or.inr (Or.inl ⟨hr, Or.inr rfl⟩)
        · rcases mem_lay.1 h2 with rfl | h3
          · exact Or.inr (Or.inl ⟨hr, Or.inl rfl⟩)
          · rcases mem_wins h3 with h4 | h4
            · cases h4
            · exact Or.inl h4
      · rcases mem_wins h1 with h4 | h4
        · cases h4
        · exact Or.inl h4
  · cases h
theorem watch_mem {m : M} (h : (Lq.check m).2 = 0) (who : Int) : (⟨5, watch m, 0, 1, 0, 0⟩ : Tr) ∈ plan m who := by
  unfold plan
  rw [if_pos h]
  exact mem_lay.2 (Or.inl rfl)
theorem rank_lt {m : M} {w : Int} : rank m w < (m.masters.length : Int) ∨ rank m w = -1 := by
  unfold rank firstAt
  cases e : m.masters.findIdx? (fun x => x == w) with
  | none => exact Or.inr rfl
  | some i =>
    rw [List.findIdx?_eq_some_iff_getElem] at e
    obtain ⟨h1, _⟩ := e
    exact Or.inl (by show (i : Int) < _; omega)
theorem beat_eq {m : M} (h : Mx.is m = true) {r : Int} (h0 : 0 ≤ r) (h1 : r ≤ 99) : beat m r = m.length + (r + 1) * Lq.step m := by
  unfold beat
  rw [if_pos h, if_neg (by omega)]
theorem watch_eq {m : M} (h : Mx.is m = true) : watch m = m.length + ((m.masters.length : Int) + 2) * Lq.step m := by
  unfold watch
  rw [if_pos h]
theorem lens4 {m : M} (h : Mx.is m = true) : m.masters.length ≤ 4 := by
  simp only [Mx.is, lens, within, Bool.and_eq_true, decide_eq_true_eq] at h
  omega
/-- What is known of each trigger. -/
structure Tx (m : M) (t : Tr) : Prop where
  kind : 1 ≤ t.kind ∧ t.kind ≤ 5
  til : t.til ≠ 0 ↔ (t.kind = 1 ∨ t.kind = 2)
  at_ : 0 < t.at_ ∧ t.at_ ≤ watch m
  cy : 0 ≤ t.cycle ∧ t.cycle < t.rep
  rep : ∃ q : Int, m.cycles = t.rep * q
  fits : t.kind = 1 ∨ t.kind = 2 → ∃ x ∈ m.windows, x.start = t.at_ ∧ x.cycle = t.cycle ∧ x.rep = t.rep ∧ t.at_ ≤ t.til ∧ ((t.kind = 1 ∧ t.til = t.at_ + m.enable ∧ t.til + Lq.step m - m.enable ≤ x.fin) ∨ (t.kind = 2 ∧ t.til + Lq.step m = x.fin))
theorem pow_div {a b : Int} (ha : a = 1 ∨ a = 2 ∨ a = 4 ∨ a = 8) (hb : b = 1 ∨ b = 2 ∨ b = 4 ∨ b = 8) (h : a ≤ b) : ∃ q : Int, b = a * q := by
  refine ⟨b / a, ?_⟩
  rcases ha with rfl | rfl | rfl | rfl <;> rcases hb with rfl | rfl | rfl | rfl <;> first | rfl | omega
theorem tx_of {m : M} (h : Lq.Passes m) {who : Int} {t : Tr} (ht : t ∈ plan m who) : Tx m t := by
  have hs := step_pos h.is
  have hc := Lq.cyc_of h.is
  have hw := watch_eq h.is
  have hl4 := lens4 h.is
  have hroom := h.room
  have hwb : m.length + 3 * Lq.step m ≤ watch m := by
    rw [hw]
    have : 3 * Lq.step m ≤ ((m.masters.length : Int) + 2) * Lq.step m := Int.mul_le_mul_of_nonneg_right (by omega) (by omega)
    omega
  rcases mem_plan ht with ⟨x, hx, e⟩ | ⟨hr, e⟩ | e
  · obtain ⟨i, hi⟩ := List.getElem?_of_mem hx
    have W := Lq.wx_of h hi
    have hwk := Lq.win_of h.is hx
    have hck : m.cycles = 1 ∨ m.cycles = 2 ∨ m.cycles = 4 ∨ m.cycles = 8 := by
      have := h.is
      simp only [Mx.is, scal, power, Bool.and_eq_true, Bool.or_eq_true, beq_iff_eq] at this
      omega
    have hrk : x.rep = 1 ∨ x.rep = 2 ∨ x.rep = 4 ∨ x.rep = 8 := by
      simp only [winOk, power, Bool.and_eq_true, Bool.or_eq_true, beq_iff_eq] at hwk
      omega
    have hdiv := pow_div hrk hck W.rep.2.2
    have w1 := W.st
    have w2 := W.rep
    have w3 := W.cy
    have w4 := W.t1
    rcases trig_ways h hi who with ⟨k1, y, _, ht, _⟩ | ⟨k2, ht⟩ | ⟨k3, ht⟩
    · have w5 := W.t2 (by omega)
      rw [ht] at e
      injection e with e
      by_cases ho : y.owner = who
      · rw [if_pos ho] at e
        subst e
        exact ⟨⟨by dsimp only; omega, by dsimp only; omega⟩, ⟨fun _ => Or.inl rfl, fun _ => by dsimp only; omega⟩, ⟨by dsimp only; omega, by dsimp only; omega⟩, w3, hdiv, fun _ => ⟨x, hx, rfl, rfl, rfl, by dsimp only; omega, Or.inl ⟨rfl, rfl, by dsimp only; omega⟩⟩⟩
      · rw [if_neg ho] at e
        subst e
        exact ⟨⟨by dsimp only; omega, by dsimp only; omega⟩, ⟨fun h => absurd rfl h, fun h => by dsimp only at h; omega⟩, ⟨by dsimp only; omega, by dsimp only; omega⟩, w3, hdiv, fun h => by dsimp only at h; omega⟩
    · have w5 := W.t2 (by omega)
      have e' := (ht who).symm.trans e
      injection e' with e'
      subst e'
      exact ⟨⟨by dsimp only; omega, by dsimp only; omega⟩, ⟨fun _ => Or.inr rfl, fun _ => by dsimp only; omega⟩, ⟨by dsimp only; omega, by dsimp only; omega⟩, w3, hdiv, fun _ => ⟨x, hx, rfl, rfl, rfl, by dsimp only; omega, Or.inr ⟨rfl, by dsimp only; omega⟩⟩⟩
    · have e' := (ht who).symm.trans e
      cases e'
  · rcases e with rfl | rfl
    · exact ⟨⟨by dsimp only; omega, by dsimp only; omega⟩, ⟨fun h => absurd rfl h, fun h => by dsimp only at h; omega⟩, ⟨by dsimp only; omega, by dsimp only; omega⟩, ⟨by dsimp only; omega, by dsimp only; omega⟩, ⟨m.cycles, by dsimp only; omega⟩, fun h => by dsimp only at h; omega⟩
    · have hrl : rank m who < (m.masters.length : Int) := by
        rcases rank_lt (m := m) (w := who) with h | h
        · exact h
        · omega
      have hb := beat_eq h.is hr (by omega)
      have h1 : 0 ≤ (rank m who + 1) * Lq.step m := Int.mul_nonneg (by omega) (by omega)
      have h2 : (rank m who + 1) * Lq.step m ≤ ((m.masters.length : Int) + 2) * Lq.step m := Int.mul_le_mul_of_nonneg_right (by omega) (by omega)
      exact ⟨⟨by dsimp only; omega, by dsimp only; omega⟩, ⟨fun h => absurd rfl h, fun h => by dsimp only at h; omega⟩, ⟨by dsimp only; omega, by dsimp only; omega⟩, ⟨by dsimp only; omega, by dsimp only; omega⟩, ⟨m.cycles, by dsimp only; omega⟩, fun h => by dsimp only at h; omega⟩
  · subst e
    exact ⟨⟨by dsimp only; omega, by dsimp only; omega⟩, ⟨fun h => absurd rfl h, fun h => by dsimp only at h; omega⟩, ⟨by dsimp only; omega, by dsimp only; omega⟩, ⟨by dsimp only; omega, by dsimp only; omega⟩, ⟨m.cycles, by dsimp only; omega⟩, fun h => by dsimp only at h; omega⟩
/-- What is due in a cycle is due again after all cycles. -/
theorem due_again {m : M} (h : Lq.Passes m) (who : Int) {c lo hi : Int} (hc : 0 ≤ c) : due (plan m who) (c + m.cycles) lo hi = due (plan m who) c lo hi := by
  unfold due
  refine List.filter_congr (fun t ht => ?_)
  have T := tx_of h ht
  have hcy := Lq.cyc_of h.is
  unfold isDue
  congr 1
  rw [Lq.comes_mod (by omega) T.cy.1 T.cy.2, Lq.comes_mod hc T.cy.1 T.cy.2]
  obtain ⟨q, hq⟩ := T.rep
  rw [hq, Int.add_mul_emod_self_left]
theorem due_none {m : M} (h : Lq.Passes m) (who : Int) (c : Int) : due (plan m who) c (watch m) (watch m + 1) = [] := by
  unfold due
  rw [List.filter_eq_nil_iff]
  intro t ht
  have T := tx_of h ht
  have := T.at_
  unfold isDue
  rw [decide_eq_false (by omega)]
  simp
theorem due_watch {m : M} (h : Lq.Passes m) (who : Int) {c : Int} (hc : 0 ≤ c) : 1 ≤ (due (plan m who) c (watch m - 1) (watch m)).length := by
  have hm : (⟨5, watch m, 0, 1, 0, 0⟩ : Tr) ∈ due (plan m who) c (watch m - 1) (watch m) := by
    unfold due
    refine List.mem_filter.2 ⟨watch_mem (by rw [Lq.check_of h]) who, ?_⟩
    unfold isDue
    dsimp only
    rw [decide_eq_true (by omega), decide_eq_true (by omega), Lq.comes_mod hc (by decide) (by decide)]
    simp
  have := List.length_pos_of_mem hm
  omega
/-- Beats in their order. -/
theorem order {m : M} (h : Mx.is m = true) {x y : Int} (hx : 0 ≤ x ∧ x ≤ 3) (hy : 0 ≤ y ∧ y ≤ 3) : beat m y - beat m x = (y - x) * Lq.step m ∧ m.length < beat m x ∧ beat m (-1) = m.length ∧ beat m ((m.masters.length : Int) - 1) + 2 * Lq.step m ≤ watch m := by
  have hs := step_pos h
  have hl := lens4 h
  have hc := Lq.cyc_of h
  rw [beat_eq h hy.1 (by omega), beat_eq h hx.1 (by omega), beat_eq h (r := (m.masters.length : Int) - 1) (by omega) (by omega), watch_eq h]
  have e1 : (y + 1) * Lq.step m = y * Lq.step m + Lq.step m := by rw [Int.add_mul, Int.one_mul]
  have e2 : (x + 1) * Lq.step m = x * Lq.step m + Lq.step m := by rw [Int.add_mul, Int.one_mul]
  have e3 : (y - x) * Lq.step m = y * Lq.step m - x * Lq.step m := Int.sub_mul _ _ _
  have e4 : ((m.masters.length : Int) - 1 + 1) * Lq.step m = (m.masters.length : Int) * Lq.step m := by congr 1; omega
  have e5 : ((m.masters.length : Int) + 2) * Lq.step m = (m.masters.length : Int) * Lq.step m + 2 * Lq.step m := Int.add_mul _ _ _
  have e6 : 0 ≤ x * Lq.step m := Int.mul_nonneg hx.1 (by omega)
  refine ⟨by omega, by omega, ?_, by omega⟩
  unfold beat
  rw [if_pos h, if_pos (Or.inl (by decide))]
end Go.Proofs.YtnbfnipdiffphaaDoor.Yq
