/- Layer 23, plain: what is told in leaps. Nothing of the program is in it. -/
import Derived.Test.YtnbfnipdiffphaaDoorQ23
namespace Go.Proofs.YtnbfnipdiffphaaDoor.Yq
open Mx
set_option linter.unusedVariables false
theorem isDue_hi {t : Tr} {c lo hi : Int} (h : isDue c lo hi t = true) : lo < t.at_ ∧ t.at_ ≤ hi := by
  simp only [isDue, Bool.and_eq_true, decide_eq_true_eq] at h
  exact ⟨h.1.1, h.1.2⟩
theorem due_ahead {l : List Tr} {c lo hi : Int} (h : ∀ t ∈ l, hi < t.at_) : due l c lo hi = [] := by
  unfold due
  rw [List.filter_eq_nil_iff]
  intro t ht hd
  have h1 := (isDue_hi hd).2
  have h2 := h t ht
  omega
theorem due_append {l : List Tr} (h : Srt l) (c : Int) {lo mid hi : Int} (h1 : lo ≤ mid) (h2 : mid ≤ hi) : due l c lo mid ++ due l c mid hi = due l c lo hi := by
  induction l with
  | nil => rfl
  | cons t l ih =>
    have hs : (∀ x ∈ l, t.at_ ≤ x.at_) ∧ Srt l := List.pairwise_cons.1 h
    have ih := ih hs.2
    have e : ∀ a b, due (t :: l) c a b = if isDue c a b t = true then t :: due l c a b else due l c a b := fun a b => by
      unfold due
      rw [List.filter_cons]
    rw [e lo mid, e mid hi, e lo hi]
    rcases isDue_ways t c h1 h2 with ⟨a1, a2, a3⟩ | ⟨a1, a2, a3⟩ | ⟨a1, a2, a3⟩
    · rw [if_pos a1, if_neg (by rw [a2]; simp), if_pos a3, List.cons_append, ih]
    · have h0 : due l c lo mid = [] := due_ahead (fun x hx => by have := (isDue_hi a2).1; have := hs.1 x hx; omega)
      rw [if_neg (by rw [a1]; simp), if_pos a2, if_pos a3]
      rw [h0] at ih ⊢
      rw [List.nil_append] at ih ⊢
      rw [ih]
    · rw [if_neg (by rw [a1]; simp), if_neg (by rw [a2]; simp), if_neg (by rw [a3]; simp), ih]
theorem due_self (l : List Tr) (c x : Int) : due l c x x = [] := by
  unfold due
  rw [List.filter_eq_nil_iff]
  intro t ht hd
  have := isDue_hi hd
  omega
theorem due_tail23 {m : M} (h : Lq.Passes m) (hc : (Lq.check m).2 = 0) (who : Int) {c : Int} (h0 : 0 ≤ c) (hw : 0 < watch m) : 1 ≤ (due (plan m who) c 0 (watch m)).length := by
  have hm : (⟨5, watch m, 0, 1, 0, 0⟩ : Tr) ∈ plan m who := by
    unfold plan
    rw [if_pos hc]
    exact mem_lay.2 (Or.inl rfl)
  have hd : (⟨5, watch m, 0, 1, 0, 0⟩ : Tr) ∈ due (plan m who) c 0 (watch m) := by
    unfold due
    refine List.mem_filter.2 ⟨hm, ?_⟩
    unfold isDue comes
    simp [hw, h0]
  exact List.length_pos_of_mem hd
end Go.Proofs.YtnbfnipdiffphaaDoor.Yq
namespace Go.Proofs.YtnbfnipdiffphaaDoor.Q23
set_option linter.unusedVariables false
/-- A sched of this plan and cycle, come to x. -/
def Cm (s : St) (pl : List Yq.Tr) (c x : Int) : Prop := s.plan = pl ∧ s.cycle = c ∧ s.at_ = x
theorem Cm.begin_ {s : St} {pl : List Yq.Tr} (h : s.plan = pl) (c : Int) : Cm (begin_ s c) pl c 0 := ⟨h, rfl, rfl⟩
theorem Cm.told {s : St} {pl : List Yq.Tr} {c x y : Int} (h : Cm s pl c x) (hxy : x ≤ y) : told s y = Yq.due pl c x y := by
  obtain ⟨h1, h2, h3⟩ := h
  rw [told_hi (by omega), h1, h2, h3]
theorem Cm.now {s : St} {pl : List Yq.Tr} {c x y : Int} (h : Cm s pl c x) (hxy : x ≤ y) : Cm (now s y) pl c y := by
  obtain ⟨h1, h2, h3⟩ := h
  rw [now_hi (by omega)]
  exact ⟨h1, h2, rfl⟩
end Go.Proofs.YtnbfnipdiffphaaDoor.Q23
