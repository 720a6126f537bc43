/- Plain mathematics of a lost arbitration: who wins, what is counted; nothing of the program is in it. -/
import Derived.Test.YthappkhiiopfgaaDoorMl2
namespace Go.Proofs.YthappkhiiopfgaaDoor.Mm
open Go.Proofs.YthappkhiiopfgaaDoor.Bm Go.Proofs.YthappkhiiopfgaaDoor.Fm Go.Proofs.YthappkhiiopfgaaDoor.Sm Go.Proofs.YthappkhiiopfgaaDoor.Cm
set_option linter.unusedVariables false
/-- Two that begin at once, and a third one. -/
theorem race {a b : Fr} (ha : isFr a = true) (hb : isFr b = true) (hne : ¬ (a.2.1 = b.2.1 ∧ a.1 = b.1 ∧ a.2.2.1 = b.2.2.1)) :
    ∃ (F G : Fr) (j : Nat) (I : Nat → St → St → St → Prop), isFr F = true ∧ (F = a ∨ F = b) ∧ 1 ≤ j ∧ j + 11 ≤ (outB F).length ∧
      (∀ x y z : St, x.ph = .idle → x.has = true → x.f = a → y.ph = .idle → y.has = true → y.f = b → z.ph = .idle → z.has = false → I 0 x y z) ∧
      ∀ (i : Nat) (x y z : St), i < (outB F).length → I i x y z → ∃ x' y' z' e1 e2 e3, (drive x && drive y && drive z) = wire F i ∧ sample x (wire F i) = (x', e1) ∧ sample y (wire F i) = (y', e2) ∧ sample z (wire F i) = (z', e3) ∧ I (i + 1) x' y' z' ∧ e1 ++ e2 ++ e3 = evs F G j i := by
  rcases one_wins ha hb hne with h | h
  · obtain ⟨j, j1, jG, jF, ht, dF, dG⟩ := lose_at hb h
    have hl := (out_len ha).1
    have hal := arb_le a
    refine ⟨a, b, j, fun i x y z => Win a i x ∧ Los a b j i y ∧ Thi a i z, ha, Or.inl rfl, j1, by omega, fun x y z x1 x2 x3 y1 y2 y3 z1 z2 => ?_, fun i x y z hi h => ?_⟩
    · refine ⟨?_, ?_, ?_⟩
      · unfold Win; rw [if_pos rfl]; exact ⟨x1, x2, x3⟩
      · unfold Los; rw [if_pos rfl]; exact ⟨y1, y2, y3⟩
      · unfold Thi; rw [if_pos rfl]; exact ⟨z1, z2⟩
    · obtain ⟨d, x', y', z', e1, e2, e3, s1, s2, s3, w1, w2, w3, q1, q2⟩ := all_step ha hb j1 jG jF ht dF dG hi h.1 h.2.1 h.2.2
      exact ⟨x', y', z', e1, e2, e3, d, s1, s2, s3, ⟨w1, w2, w3⟩, q1⟩
  · obtain ⟨j, j1, jG, jF, ht, dF, dG⟩ := lose_at ha h
    have hl := (out_len hb).1
    have hal := arb_le b
    refine ⟨b, a, j, fun i x y z => Win b i y ∧ Los b a j i x ∧ Thi b i z, hb, Or.inr rfl, j1, by omega, fun x y z x1 x2 x3 y1 y2 y3 z1 z2 => ?_, fun i x y z hi h => ?_⟩
    · refine ⟨?_, ?_, ?_⟩
      · unfold Win; rw [if_pos rfl]; exact ⟨y1, y2, y3⟩
      · unfold Los; rw [if_pos rfl]; exact ⟨x1, x2, x3⟩
      · unfold Thi; rw [if_pos rfl]; exact ⟨z1, z2⟩
    · obtain ⟨d, y', x', z', e1, e2, e3, s1, s2, s3, w1, w2, w3, q1, q2⟩ := all_step hb ha j1 jG jF ht dF dG hi h.1 h.2.1 h.2.2
      refine ⟨x', y', z', e2, e1, e3, ?_, s2, s1, s3, ⟨w1, w2, w3⟩, q2⟩
      rw [Bool.and_comm (drive x) (drive y)]; exact d
def tal (k : Nat) (l : List Ev) : Nat := l.countP (fun e => e.k == k)
def wonOf (w : Fr) (l : List Ev) : Fr := l.foldl (fun w e => if e.k = 2 then e.f else w) w
theorem tal_snoc (k : Nat) (l : List Ev) (e : Ev) : tal k (l ++ [e]) = tal k l + if e.k = k then 1 else 0 := by
  unfold tal
  rw [List.countP_append]
  by_cases h : e.k = k
  · simp [h]
  · simp [h]
theorem won_snoc (w : Fr) (l : List Ev) (e : Ev) : wonOf w (l ++ [e]) = if e.k = 2 then e.f else wonOf w l := by
  unfold wonOf; rw [List.foldl_append]; rfl
def gotAt (F : Fr) (i : Nat) : Nat := if (outB F).length ≤ i + 1 then 2 else 0
def losAt (j i : Nat) : Nat := if j < i then 1 else 0
def senAt (F : Fr) (i : Nat) : Nat := if (outB F).length ≤ i then 1 else 0
def wonAt (F : Fr) (i : Nat) : Fr := if (outB F).length ≤ i + 1 then F else noF
/-- What the events of one bit make of the counts. -/
theorem count_step (F G : Fr) (j i : Nat) (hL : 44 ≤ (outB F).length) (j1 : 1 ≤ j) (hj : j + 11 ≤ (outB F).length) (hi : i < (outB F).length) :
    gotAt F i + tal 2 (evs F G j i) = gotAt F (i + 1) ∧ losAt j i + tal 3 (evs F G j i) = losAt j (i + 1) ∧ senAt F i + tal 1 (evs F G j i) = senAt F (i + 1) ∧ wonOf (wonAt F i) (evs F G j i) = wonAt F (i + 1) := by
  by_cases h0 : i = 0
  · subst h0
    have a1 : gotAt F 0 = 0 := if_neg (by omega)
    have a2 : gotAt F (0 + 1) = 0 := if_neg (by omega)
    have a5 : senAt F 0 = 0 := if_neg (by omega)
    have a6 : senAt F (0 + 1) = 0 := if_neg (by omega)
    have a7 : wonAt F 0 = noF := if_neg (by omega)
    have a8 : wonAt F (0 + 1) = noF := if_neg (by omega)
    have a3 : losAt j 0 = 0 := if_neg (by omega)
    have a4 : losAt j (0 + 1) = 0 := if_neg (by omega)
    have a9 : evs F G j 0 = [⟨6, noF, 0⟩, ⟨6, noF, 0⟩, ⟨6, noF, 0⟩] := by unfold evs; exact if_pos rfl
    rw [a1, a2, a3, a4, a5, a6, a7, a8, a9]
    exact ⟨rfl, rfl, rfl, rfl⟩
  · by_cases h1 : i = j
    · subst h1
      have a1 : gotAt F i = 0 := if_neg (by omega)
      have a2 : gotAt F (i + 1) = 0 := if_neg (by omega)
      have a5 : senAt F i = 0 := if_neg (by omega)
      have a6 : senAt F (i + 1) = 0 := if_neg (by omega)
      have a7 : wonAt F i = noF := if_neg (by omega)
      have a8 : wonAt F (i + 1) = noF := if_neg (by omega)
      have a3 : losAt i i = 0 := if_neg (by omega)
      have a4 : losAt i (i + 1) = 1 := if_pos (by omega)
      have a9 : evs F G i i = [⟨3, G, 0⟩] := by unfold evs; rw [if_neg h0, if_pos rfl]
      rw [a1, a2, a3, a4, a5, a6, a7, a8, a9]
      exact ⟨rfl, rfl, rfl, rfl⟩
    · skip
      have a3 : losAt j (i + 1) = losAt j i := by
        unfold losAt
        by_cases k : j < i
        · rw [if_pos k, if_pos (by omega)]
        · rw [if_neg k, if_neg (by omega)]
      by_cases h2 : i + 2 = (outB F).length
      · skip
        have a1 : gotAt F i = 0 := if_neg (by omega)
        have a2 : gotAt F (i + 1) = 2 := if_pos (by omega)
        have a5 : senAt F i = 0 := if_neg (by omega)
        have a6 : senAt F (i + 1) = 0 := if_neg (by omega)
        have a7 : wonAt F i = noF := if_neg (by omega)
        have a8 : wonAt F (i + 1) = F := if_pos (by omega)
        have a9 : evs F G j i = [⟨2, F, 0⟩, ⟨2, F, 0⟩] := by unfold evs; rw [if_neg h0, if_neg h1, if_pos h2]
        rw [a1, a2, a3, a5, a6, a7, a8, a9]
        exact ⟨rfl, rfl, rfl, rfl⟩
      · by_cases h3 : i + 1 = (outB F).length
        · skip
          have a1 : gotAt F i = 2 := if_pos (by omega)
          have a2 : gotAt F (i + 1) = 2 := if_pos (by omega)
          have a5 : senAt F i = 0 := if_neg (by omega)
          have a6 : senAt F (i + 1) = 1 := if_pos (by omega)
          have a7 : wonAt F i = F := if_pos (by omega)
          have a8 : wonAt F (i + 1) = F := if_pos (by omega)
          have a9 : evs F G j i = [⟨1, F, 0⟩] := by unfold evs; rw [if_neg h0, if_neg h1, if_neg h2, if_pos h3]
          rw [a1, a2, a3, a5, a6, a7, a8, a9]
          exact ⟨rfl, rfl, rfl, rfl⟩
        · skip
          have a1 : gotAt F i = 0 := if_neg (by omega)
          have a2 : gotAt F (i + 1) = 0 := if_neg (by omega)
          have a5 : senAt F i = 0 := if_neg (by omega)
          have a6 : senAt F (i + 1) = 0 := if_neg (by omega)
          have a7 : wonAt F i = noF := if_neg (by omega)
          have a8 : wonAt F (i + 1) = noF := if_neg (by omega)
          have a9 : evs F G j i = [] := by unfold evs; rw [if_neg h0, if_neg h1, if_neg h2, if_neg h3]
          rw [a1, a2, a3, a5, a6, a7, a8, a9]
          exact ⟨rfl, rfl, rfl, rfl⟩
theorem evs_kind (F G : Fr) (j i : Nat) : ∀ v ∈ evs F G j i, v.k = 1 ∨ v.k = 2 ∨ v.k = 3 ∨ v.k = 6 := by
  unfold evs
  intro v hv
  split at hv
  · simp at hv; subst hv; exact Or.inr (Or.inr (Or.inr rfl))
  · split at hv
    · simp at hv; subst hv; exact Or.inr (Or.inr (Or.inl rfl))
    · split at hv
      · simp at hv; subst hv; exact Or.inr (Or.inl rfl)
      · split at hv
        · simp at hv; subst hv; exact Or.inl rfl
        · cases hv
theorem evs_len (F G : Fr) (j i : Nat) : (evs F G j i).length ≤ 3 := by
  unfold evs
  split
  · exact Nat.le_refl 3
  · split
    · show 1 ≤ 3; omega
    · split
      · show 2 ≤ 3; omega
      · split
        · show 1 ≤ 3; omega
        · show 0 ≤ 3; omega
/-- Ones ahead of all. -/
def p5 (k : Nat) : St := if k < 3 then ⟨.pause, 3 - k, false, false, false, false, noF, [], 0, 0⟩ else ⟨.idle, 0, false, false, false, false, noF, [], 0, 0⟩
theorem p5_one (k : Nat) (hk : k < 5) : sample (p5 k) true = (p5 (k + 1), []) := by
  obtain rfl | rfl | rfl | rfl | rfl : k = 0 ∨ k = 1 ∨ k = 2 ∨ k = 3 ∨ k = 4 := by omega
  all_goals rfl
theorem p5_fresh : p5 0 = fresh := rfl
theorem p5_ask (f : Fr) : ask (p5 5) f = if isFr f = false then (12, p5 5) else (0, { p5 5 with has := true, f := f }) := by
  unfold ask
  rw [if_neg (by intro k; cases k)]
  rfl
end Go.Proofs.YthappkhiiopfgaaDoor.Mm
