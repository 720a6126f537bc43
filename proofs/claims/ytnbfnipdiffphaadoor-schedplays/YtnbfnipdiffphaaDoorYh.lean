/- Layer 15: how long a plan is. -/
import Derived.Test.YtnbfnipdiffphaaDoorYe
namespace Go.Proofs.YtnbfnipdiffphaaDoor
set_option linter.unusedVariables false
theorem u8rng {x : Int} (h : (Lit.int .u8 x).wf = true) : 0 ≤ x ∧ x < 256 := by
  simp [Lit.wf, IntKind.min, IntKind.max, IntKind.signed, IntKind.bits] at h
  omega
theorem Yq.plan_len (m : Mx.M) (who : Int) (hs : Mx.Small m) : (Yq.plan m who).length ≤ 1000 := by
  by_cases hc : (Lq.check m).2 = 0
  · have h16 := Yq.wins16 (Lq.passes_of hc).is
    have hw : ∀ (ws : List Mx.Win) (l : List Yq.Tr), (ws.foldl (Yq.put m who) l).length ≤ l.length + ws.length := by
      intro ws
      induction ws with
      | nil => intro l; simp
      | cons x ws ih =>
        intro l
        rw [List.foldl_cons]
        refine Nat.le_trans (ih _) ?_
        have : (Yq.put m who l x).length ≤ l.length + 1 := by
          unfold Yq.put
          split
          · rw [Yq.len_lay]; exact Nat.le_refl _
          · omega
        rw [List.length_cons]
        omega
    have h1 := hw m.windows []
    unfold Yq.plan
    rw [if_pos hc, Yq.len_lay]
    have h2 : (Yq.refs m who (Yq.wins m who m.windows)).length ≤ (Yq.wins m who m.windows).length + 2 := by
      unfold Yq.refs
      split
      · rw [Yq.len_lay, Yq.len_lay]; exact Nat.le_refl _
      · omega
    have h3 : (Yq.wins m who m.windows).length ≤ m.windows.length := by
      have : (Yq.wins m who m.windows).length ≤ ([] : List Yq.Tr).length + m.windows.length := h1
      simpa using this
    omega
  · unfold Yq.plan
    rw [if_neg hc]
    simp
theorem Yq.watch_rng {m : Mx.M} (h : Mx.is m = true) : 1 ≤ Yq.watch m ∧ Yq.watch m ≤ 34000 := by
  have hs := Yq.step_pos h
  have hc := Lq.cyc_of h
  have h4 := Yq.lens4 h
  have b1 : 0 ≤ ((m.masters.length : Int) + 2) * Lq.step m := Int.mul_nonneg (by omega) (by omega)
  have b2 : ((m.masters.length : Int) + 2) * Lq.step m ≤ 6 * 5000 := Int.mul_le_mul (by omega) (by omega) (by omega) (by omega)
  rw [Yq.watch_eq h]
  omega
theorem Yq.plan_wf {m : Mx.M} {who : Int} {t : Yq.Tr} (h : Lq.Passes m) (ht : t ∈ Yq.plan m who) : Yq.Wf t := by
  have hs := Yq.step_pos h.is
  have hc := Lq.cyc_of h.is
  have h4 := Yq.lens4 h.is
  have hw := Yq.watch_rng h.is
  rcases Yq.mem_plan ht with ⟨x, hx, htr⟩ | ⟨h0, rfl | rfl⟩ | rfl
  · obtain ⟨i, hi⟩ := List.getElem?_of_mem hx
    have wx := Lq.wx_of h hi
    obtain ⟨k1, k2, k3, k4, k5, _⟩ := wx
    unfold Yq.trig at htr
    split at htr
    · split at htr
      · split at htr
        · injection htr with e
          subst e
          exact ⟨wfi (by dsimp only; omega), wfi (by dsimp only; omega), wfi (by dsimp only; omega), wfi (by dsimp only; omega), wfi (by dsimp only; omega), wfi (by dsimp only; omega)⟩
        · injection htr with e
          subst e
          exact ⟨wfi (by dsimp only; omega), wfi (by dsimp only; omega), wfi (by dsimp only; omega), wfi (by dsimp only; omega), wfi (by dsimp only; omega), wfi (by dsimp only; omega)⟩
      · cases htr
    · split at htr
      · injection htr with e
        subst e
        exact ⟨wfi (by dsimp only; omega), wfi (by dsimp only; omega), wfi (by dsimp only; omega), wfi (by dsimp only; omega), wfi (by dsimp only; omega), wfi (by dsimp only; omega)⟩
      · cases htr
  · exact ⟨wfi (by dsimp only; omega), wfi (by dsimp only; omega), wfi (by dsimp only; omega), wfi (by dsimp only; omega), wfi (by dsimp only; omega), wfi (by dsimp only; omega)⟩
  · have hr : Mx.rank m who < (m.masters.length : Int) := by
      rcases Yq.rank_lt (m := m) (w := who) with h | h
      · exact h
      · omega
    have b1 : 0 ≤ (Mx.rank m who + 1) * Lq.step m := Int.mul_nonneg (by omega) (by omega)
    have b2 : (Mx.rank m who + 1) * Lq.step m ≤ 4 * 5000 := Int.mul_le_mul (by omega) (by omega) (by omega) (by omega)
    have hb := Yq.beat_eq h.is h0 (by omega)
    exact ⟨wfi (by dsimp only; omega), wfi (by dsimp only; rw [hb]; omega), wfi (by dsimp only; omega), wfi (by dsimp only; omega), wfi (by dsimp only; omega), wfi (by dsimp only; omega)⟩
  · exact ⟨wfi (by dsimp only; omega), wfi (by dsimp only; omega), wfi (by dsimp only; omega), wfi (by dsimp only; omega), wfi (by dsimp only; omega), wfi (by dsimp only; omega)⟩
end Go.Proofs.YtnbfnipdiffphaaDoor
