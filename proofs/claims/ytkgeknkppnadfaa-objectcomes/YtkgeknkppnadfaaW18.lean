/- Layer 18: one object beside rows that are stored into; what sends leave of what came. -/
import Derived.Test.YtkgeknkppnadfaaR18
import Derived.Test.YtkgeknkppnadfaaB18
import Derived.Test.YtkgeknkppnadfaaD19
namespace Go.Proofs.Ytkgeknkppnadfaa
open Go.RowKit
set_option linter.unusedVariables false
theorem Oq.O1.store {σ : Type} {At : Ob.A σ} {W w : World} {p g k : Nat} {s : σ} {R R' : Oq.Rs} {cs : Array Value} {T : TypeId} {v : Value} (O : Ob.Is At) (h : Oq.O1 At W w p s R) (hm : (g, .cells cs T) ∈ R) (hg : W.heap.size ≤ g) (hR : ∀ x ∈ R', x = (g, .cells (cs.setIfInBounds k v) T) ∨ (x ∈ R ∧ x.1 ≠ g)) : Oq.O1 At W (w.setCell ⟨g, k, none⟩ v) p s R' := by
  obtain ⟨F, h1, b1, hw, hr⟩ := h
  obtain ⟨r1, r2⟩ := hr _ hm
  dsimp only at r1 r2
  have hk : Kept (fun j => j = g) w (w.setCell ⟨g, k, none⟩ v) := Kept.set _ _ _ rfl
  refine ⟨F, O.on h1 (fun j hj => hk.block j (O.lt h1 j hj) (fun e => r2 (e ▸ hj))), b1, hw.setCell hg _, fun x hx => ?_⟩
  rcases hR x hx with rfl | ⟨hx, hne⟩
  · exact ⟨heap_setCell_same _ _ _ _ _ _ r1, r2⟩
  · obtain ⟨q1, q2⟩ := hr x hx
    exact ⟨(hk.block x.1 (Array.getElem?_eq_some_iff.1 q1).1 hne).trans q1, q2⟩
namespace Q18
theorem came_send (s : St) (k : Int) (d : ByteArray) : (sendS s k d).came = s.came := by unfold sendS; split; rfl; split; split; rfl; split <;> rfl; rfl
theorem own_got (s : St) (k : Int) (d : ByteArray) : (gotS s k d).own = s.own := rfl
end Q18
end Go.Proofs.Ytkgeknkppnadfaa
