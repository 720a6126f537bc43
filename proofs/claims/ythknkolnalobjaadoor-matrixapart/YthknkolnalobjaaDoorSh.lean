/- Slices of things that can be read: one cell set. Nothing of the program is in it. -/
import Derived.Test.YthknkolnalobjaaDoorMo
import Derived.Test.YthknkolnalobjaaDoorSg
namespace Go.Proofs.YthknkolnalobjaaDoor
open Go.RowKit
set_option linter.unusedVariables false
theorem place_ne {sz i k j j' : Nat} (hj : j < sz) (hj' : j' < sz) (h : i * sz + j' = k * sz + j) : i = k ∧ j' = j := by
  have h1 : (i * sz + j') / sz = i := by rw [Nat.mul_comm, Nat.mul_add_div (by omega), Nat.div_eq_of_lt hj']; rfl
  have h2 : (k * sz + j) / sz = k := by rw [Nat.mul_comm, Nat.mul_add_div (by omega), Nat.div_eq_of_lt hj]; rfl
  have h3 : i = k := by rw [← h1, h, h2]
  subst h3
  exact ⟨rfl, by omega⟩
theorem LI.setAt {α : Type} {w : World} {g o cap : Nat} {l : List α} {f : α → List Value} {sz : Nat} (h : LI w (some ⟨g, o, none⟩) cap l.length (l.flatMap f)) (hf : ∀ x, (f x).length = sz) (k j : Nat) (x x' : α) (hx : l[k]? = some x) (v : Value) (hx' : f x' = (f x).set j v) (hj : j < sz) :
    LI (w.setCell ⟨g, o + (k * sz + j), none⟩ v) (some ⟨g, o, none⟩) cap (l.set k x').length ((l.set k x').flatMap f) := by
  have hk := (List.getElem?_eq_some_iff.1 hx).1
  have old : ∀ i y, l[i]? = some y → ∀ j u, (f y)[j]? = some u → w.cell? ⟨g, o + (i * sz + j), none⟩ = some u := fun i y hy j u hu => by
    obtain ⟨g', o', e, _, hc⟩ := h.at hf i y hy
    injection e with e
    injection e with e1 e2
    subst e1 e2
    exact hc j u hu
  refine ⟨by rw [List.length_set]; exact h.1, h.2.1, ?_⟩
  rcases h.2.2 with h0 | ⟨g', o', e, hg, hc⟩
  · omega
  injection e with e
  injection e with e1 e2
  subst e1 e2
  refine Or.inr ⟨g, o, rfl, by simpa [World.setCell] using hg, fun K u hu => ?_⟩
  obtain ⟨i, j', y, rfl, hy, hv⟩ := flat_get hf (by omega) _ K u hu
  have hj' : j' < sz := by rw [← hf y]; exact (List.getElem?_eq_some_iff.1 hv).1
  by_cases hik : i = k
  · subst hik
    rw [List.getElem?_set_self hk] at hy
    injection hy with hy
    subst hy
    rw [hx'] at hv
    by_cases hjj : j' = j
    · subst hjj
      rw [List.getElem?_set_self (by rw [hf]; exact hj)] at hv
      injection hv with hv
      subst hv
      exact World.cell?_setCell_same _ _ _ (old i x hx j' _ (List.getElem?_eq_getElem (by rw [hf]; exact hj)))
    · rw [List.getElem?_set_ne (fun e => hjj e.symm)] at hv
      rw [World.cell?_setCell_other _ _ _ _ (fun e => by injection e with _ e; exact hjj (by omega))]
      exact old i x hx j' u hv
  · rw [List.getElem?_set_ne (fun e => hik e.symm)] at hy
    rw [World.cell?_setCell_other _ _ _ _ (fun e => by injection e with _ e; exact hik (place_ne hj hj' (by omega)).1)]
    exact old i y hy j' u hv
end Go.Proofs.YthknkolnalobjaaDoor
