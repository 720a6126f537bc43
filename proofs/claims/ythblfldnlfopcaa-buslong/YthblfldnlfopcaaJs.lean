/- Package bus, over the landed code: a wire as the laws want it. -/
import Derived.Test.YthblfldnlfopcaaJc
namespace Go.Proofs.Ythblfldnlfopcaa
open Go.RowKit
set_option linter.unusedVariables false
/-- The ring holds the latest bits, each at its number modulo 4000. -/
def Ring (rg : List UInt8) (bs : List Bool) : Prop := ∀ i b, bs[i]? = some b → bs.length ≤ i + 4000 → rg[i % 4000]? = some (bsg b)
theorem Ring.step {rg : List UInt8} {bs : List Bool} (h : Ring rg bs) (hl : rg.length = 4000) (b : Bool) : Ring (rg.set (bs.length % 4000) (bsg b)) (bs ++ [b]) := by
  intro i c hc hi
  have hlt : i < (bs ++ [b]).length := (List.getElem?_eq_some_iff.1 hc).1
  simp only [List.length_append, List.length_cons, List.length_nil] at hlt hi
  by_cases he : i = bs.length
  · subst he
    rw [List.getElem?_append_right (Nat.le_refl _)] at hc
    have hb : b = c := by simpa using hc
    subst hb
    rw [List.getElem?_set_self (by rw [hl]; exact Nat.mod_lt _ (by omega))]
  · rw [List.getElem?_append_left (by omega)] at hc
    rw [List.getElem?_set_ne (by omega)]
    exact h i c hc (by omega)
theorem Ring.last {rg : List UInt8} {bs : List Bool} (h : Ring rg bs) (hl : rg.length = 4000) (L E A : Nat) (hL : L = min bs.length 4000) (hE : E = (bs.length - L) % 4000) (hA : A = min (4000 - E) L) :
    (rg.drop E).take A ++ (rg.drop 0).take (L - A) = Bm.row (Bz.last bs) := by
  have hX : ((rg.drop E).take A).length = A := by simp [hl]; omega
  have hY : ((rg.drop 0).take (L - A)).length = L - A := by simp [hl]; omega
  have hB : (Bz.last bs).length = L := by unfold Bz.last; rw [List.length_drop]; omega
  apply List.ext_getElem?
  intro j
  by_cases hj : j < L
  · obtain ⟨b, hb⟩ : ∃ b, bs[bs.length - L + j]? = some b := ⟨_, List.getElem?_eq_getElem (by omega)⟩
    have hr := h _ b hb (by omega)
    have hz : (Bm.row (Bz.last bs))[j]? = some (bsg b) := by
      unfold Bm.row Bz.last
      rw [List.getElem?_map, List.getElem?_drop, show bs.length - 4000 + j = bs.length - L + j by omega, hb]
      rfl
    rw [hz, ← hr]
    by_cases ha : j < A
    · rw [List.getElem?_append_left (by omega), List.getElem?_take, if_pos ha, List.getElem?_drop, show E + j = (bs.length - L + j) % 4000 by omega]
    · rw [List.getElem?_append_right (by omega), hX, List.getElem?_take, if_pos (by omega), List.getElem?_drop, show 0 + (j - A) = (bs.length - L + j) % 4000 by omega]
  · rw [List.getElem?_eq_none (by rw [List.length_append, hX, hY]; omega), List.getElem?_eq_none (by unfold Bm.row; rw [List.length_map, hB]; omega)]
def BusAt (w : World) (p : Nat) (F : Nat → Prop) (bs : List Bool) (fl : Bool) : Prop := F = (· = p) ∧ ∃ rg, BRow w p rg bs.length fl ∧ Ring rg bs
theorem busSpec : BusSpec BusAt where
  on := by
    rintro w w' p F bs fl ⟨rfl, rg, hR, hG⟩ hk
    exact ⟨rfl, rg, ⟨(hk p rfl).trans hR.1, hR.2⟩, hG⟩
  lt := by
    rintro w p F bs fl ⟨rfl, rg, hR, hG⟩ g rfl
    exact hR.lt
  new := fun w => (bnew_any w).mono fun e w' ⟨he, hR, hb⟩ => ⟨_, (· = w.heap.size), he, ⟨rfl, _, hR, fun i b hb => by simp at hb⟩, fun g hg => by omega, hb⟩
  step := by
    rintro w p F bs fl s ⟨rfl, rg, hR, hG⟩ h1 h2
    refine (bstep_any w p rg bs.length fl s hR h1).mono fun e w' ⟨he, hR', hk⟩ => ⟨he, (· = p), ⟨rfl, _, ?_, hG.step hR.2 _⟩, fun g hg => Or.inl hg, hk⟩
    rw [List.length_append]; exact hR'
  flip := by
    rintro w p F bs fl ⟨rfl, rg, hR, hG⟩
    refine (bflip_any w p rg bs.length fl hR).mono fun e w' ⟨he, hw⟩ => ⟨he, (· = p), ?_⟩
    subst hw
    exact ⟨⟨rfl, rg, hR.setF true, hG⟩, fun g hg => Or.inl hg, Kept.set _ _ _ rfl⟩
  trace := by
    rintro w p F bs fl ⟨rfl, rg, hR, hG⟩ h1
    have hl := hG.last hR.2 _ _ _ rfl rfl rfl
    refine (btrace_any w p rg bs.length fl hR h1 _ _ _ rfl rfl rfl).mono fun e w' ⟨he, hb⟩ => ⟨?_, hb⟩
    rw [he, hl]
  len := by
    rintro w p F bs fl ⟨rfl, rg, hR, hG⟩ h1
    exact (blen_any w p rg bs.length fl hR).mono fun e w' ⟨he, hw⟩ => ⟨he, hw ▸ Below.refl _ _⟩
  copy := by
    rintro w p F bs fl ⟨rfl, rg, hR, hG⟩ h1
    exact (bcopy_any w p rg bs.length fl hR).mono fun e w' ⟨he, hR', hb⟩ => ⟨_, (· = w.heap.size), he, ⟨rfl, rg, hR', hG⟩, fun g hg => by omega, hb⟩
end Go.Proofs.Ythblfldnlfopcaa
