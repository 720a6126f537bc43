/- Plain mathematics of a lost arbitration: where two frames' bits part; nothing of the program is in it. -/
import Derived.Test.YthappkhiiopfgaaDoorUe
import Derived.Test.YthappkhiiopfgaaDoorU1
namespace Go.Proofs.YthappkhiiopfgaaDoor.Mm
open Go.Proofs.YthappkhiiopfgaaDoor.Bm Go.Proofs.YthappkhiiopfgaaDoor.Fm Go.Proofs.YthappkhiiopfgaaDoor.Sm Go.Proofs.YthappkhiiopfgaaDoor.Cm
set_option linter.unusedVariables false
theorem cmp_part (x : List Bool) : ∀ y, cmpB x y = -1 → ∃ p x' y', x = p ++ false :: x' ∧ y = p ++ true :: y' := by
  induction x with
  | nil => intro y h; cases h
  | cons a s ih =>
    intro y h
    cases y with
    | nil => cases h
    | cons b t =>
      unfold cmpB at h
      by_cases e : a = b
      · rw [if_pos e] at h
        obtain ⟨p, x', y', rfl, rfl⟩ := ih t h
        subst e
        exact ⟨a :: p, x', y', rfl, rfl⟩
      · rw [if_neg e] at h
        cases a
        · cases b
          · exact absurd rfl e
          · exact ⟨[], s, t, rfl, rfl⟩
        · simp at h
theorem stB_first (r : Nat × Bool) (c : Bool) (t : List Bool) : ∃ u, stB r [] (c :: t) = c :: u := by
  unfold stB
  split
  · rw [stB_out]; exact ⟨_, rfl⟩
  · rw [stB_out]; exact ⟨_, rfl⟩
theorem out_arb (f : Fr) : ∃ m, outB f = stuff (arb0 f.1 f.2.1 f.2.2.1) ++ m := by
  unfold outB enc0 plainOf body0 stuff
  rw [List.append_assoc, stB_append, List.append_assoc]
  exact ⟨_, rfl⟩
/-- Where the bits of two frames part on the wire. -/
theorem out_part {f g : Fr} (h : cmpB (arb0 f.1 f.2.1 f.2.2.1) (arb0 g.1 g.2.1 g.2.2.1) = -1) : ∃ P u v, outB f = P ++ false :: u ∧ outB g = P ++ true :: v ∧ P.length + 1 ≤ arbL g ∧ P.length + 1 ≤ arbL f := by
  obtain ⟨p, x', y', hx, hy⟩ := cmp_part _ _ h
  obtain ⟨mf, hf⟩ := out_arb f
  obtain ⟨mg, hg⟩ := out_arb g
  obtain ⟨u, hu⟩ := stB_first (stS (0, false) p) false x'
  obtain ⟨v, hv⟩ := stB_first (stS (0, false) p) true y'
  have ef : stuff (arb0 f.1 f.2.1 f.2.2.1) = stuff p ++ false :: u := by rw [hx]; unfold stuff; rw [stB_append, hu]
  have eg : stuff (arb0 g.1 g.2.1 g.2.2.1) = stuff p ++ true :: v := by rw [hy]; unfold stuff; rw [stB_append, hv]
  refine ⟨stuff p, u ++ mf, v ++ mg, by rw [hf, ef, List.append_assoc]; rfl, by rw [hg, eg, List.append_assoc]; rfl, ?_, ?_⟩
  · unfold arbL; rw [eg, List.length_append, List.length_cons]; omega
  · unfold arbL; rw [ef, List.length_append, List.length_cons]; omega
theorem ack_take (f : Fr) (j : Nat) (hj : j ≤ (outB f).length - 10) : (ackB f).take j = (outB f).take j := by
  obtain ⟨P, h1, h2⟩ := out_form f
  have hl : (outB f).length = P.length + 10 := by rw [h1, List.length_append, length_ones]
  rw [h1, h2, List.take_append_of_le_length (by omega), List.take_append_of_le_length (by omega)]
/-- The place at which the second one loses. -/
theorem lose_at {f g : Fr} (hg : isFr g = true) (h : cmpB (arb0 f.1 f.2.1 f.2.2.1) (arb0 g.1 g.2.1 g.2.2.1) = -1) :
    ∃ j, 1 ≤ j ∧ j + 1 ≤ arbL g ∧ j + 1 ≤ arbL f ∧ (∀ i, i ≤ j → (ackB f).take i = (ackB g).take i) ∧ (outB f).getD j true = false ∧ (outB g).getD j true = true := by
  obtain ⟨P, u, v, h1, h2, h3, h4⟩ := out_part h
  have hp : 1 ≤ P.length := by
    cases P with
    | nil =>
      exfalso
      have z := ack_zero hg
      rw [ack_take g 1 (by have := out_len hg; omega), h2] at z
      simp at z
    | cons a P => simp
  have a1 := arb_le f
  have a2 := arb_le g
  refine ⟨P.length, hp, h3, h4, fun i hi => ?_, ?_, ?_⟩
  · rw [ack_take f i (by omega), ack_take g i (by omega), h1, h2, List.take_append_of_le_length hi, List.take_append_of_le_length hi]
  · rw [h1, List.getD_eq_getElem?_getD, List.getElem?_append_right (Nat.le_refl _), Nat.sub_self]; rfl
  · rw [h2, List.getD_eq_getElem?_getD, List.getElem?_append_right (Nat.le_refl _), Nat.sub_self]; rfl
/-- Two frames that are not of one identifier and kind: one of them wins. -/
theorem one_wins {f g : Fr} (hf : isFr f = true) (hg : isFr g = true) (hne : ¬ (f.2.1 = g.2.1 ∧ f.1 = g.1 ∧ f.2.2.1 = g.2.2.1)) :
    cmpB (arb0 f.1 f.2.1 f.2.2.1) (arb0 g.1 g.2.1 g.2.2.1) = -1 ∨ cmpB (arb0 g.1 g.2.1 g.2.2.1) (arb0 f.1 f.2.1 f.2.2.1) = -1 := by
  have tf : f.2.1 < top f.1 := by
    have := hf; unfold isFr isF at this; simp at this; exact this.1
  have tg : g.2.1 < top g.1 := by
    have := hg; unfold isFr isF at this; simp at this; exact this.1
  have hk : key f.1 f.2.1 f.2.2.1 ≠ key g.1 g.2.1 g.2.2.1 := fun e => by
    obtain ⟨a, b, c⟩ := key_inj _ _ _ _ _ _ tf tg e
    exact hne ⟨b, a, c⟩
  rw [cmp_key _ _ _ _ _ _ tf tg, cmp_key _ _ _ _ _ _ tg tf]
  rcases Nat.lt_or_gt_of_ne hk with k | k
  · left; exact sgn_lt k
  · right; exact sgn_lt k
end Go.Proofs.YthappkhiiopfgaaDoor.Mm
