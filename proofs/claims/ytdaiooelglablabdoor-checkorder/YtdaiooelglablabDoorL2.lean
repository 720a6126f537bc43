/- Layer 14: the document's Meet. -/
import Derived.Test.YtdaiooelglablabDoorBc
import Derived.Test.YtdaiooelglablabDoorLq
import Derived.Test.YtdaiooelglablabDoorHl
import Derived.Deep.RegionHeld3
import Derived.Deep.CutBlock
import Derived.WalkArith
import Derived.WalkSpells
namespace Go.Proofs.YtdaiooelglablabDoor
open Go.RowKit Go.WideShapes
set_option linter.unusedVariables false
theorem Hl.step_store_row {P : Program} {ops : Array Oper} {o : Oper} {a : Act} {w : World} {K : Act → World → Prop} {Q : Exit → Act → World → Prop} {X : Prop} (hgd : o.guard = none) (ty : TypeId) (x y : Operand) (ho : o.op = .store ty x y)
    (g : Nat) (cells : Array Value) (hx : a.eval x = .pointer (some ⟨g, 0, none⟩)) (hy : a.eval y = .agg cells) (t : TypeId) (old : Array Value) (hg : w.heap[g]? = some (.cells old t (0, 0))) (hi : (P.info? ty).map (·.size) = some cells.size)
    (hold : old.size = cells.size) (h1 : cells.all (·.oneCell') = true) (h : K (a.put o.dst undef) (w.setRow g cells)) : if Region.wanted o (yielded ops a.tmps) = true then Oper.wp P o a w K Q else X := by
  have hw : Region.wanted o (yielded ops a.tmps) = true := by simp [Region.wanted, hgd]
  rw [if_pos hw]
  exact wp_store_row ty x y ho g cells hx hy t old hg hi hold h1 h
theorem winfo14 : (Tryd.prog.info? 31).map (·.size) = some 6 := by kernel_rfl
theorem mc3_one (x : Mx.Win) : (mC3 x).toArray.all (·.oneCell') = true := by simp [mC3, Value.oneCell']
theorem Lq.upto_b {f : Nat → Bool} {k : Nat} (h : ∀ j, j < k → f j = false) (hk : f k = false) : ∀ j, j < k + 1 → f j = false := fun j hj => by
  rcases Nat.lt_or_eq_of_le (Nat.le_of_lt_succ hj) with h1 | h1
  · exact h j h1
  · rw [h1]; exact hk
theorem Lq.any_none {f : Nat → Bool} {n : Nat} (h : ∀ c, c < n → f c = false) : (List.range n).any f = false := by
  rw [List.any_eq_false]
  intro c hc
  rw [h c (List.mem_range.1 hc)]
  simp
theorem Lq.getW_none {m : Mx.M} {i : Int} (h : Mx.within i 0 ((m.windows.length : Int) - 1) = false) : Lq.getW m i = none := by
  unfold Lq.getW
  split
  · refine List.getElem?_eq_none ?_
    unfold Mx.within at h
    simp at h
    omega
  · rfl
theorem Lq.getW_some {m : Mx.M} {i : Int} (h : Mx.within i 0 ((m.windows.length : Int) - 1) = true) : ∃ (k : Nat) (x : Mx.Win), i = (k : Int) ∧ k < m.windows.length ∧ m.windows[k]? = some x ∧ Lq.getW m i = some x := by
  rw [Pq.within_iff] at h
  obtain ⟨k, rfl⟩ := Int.eq_ofNat_of_zero_le h.1
  have hk : k < m.windows.length := by omega
  refine ⟨k, m.windows[k], rfl, hk, List.getElem?_eq_getElem hk, ?_⟩
  unfold Lq.getW
  rw [if_pos h.1, Int.toNat_natCast]
  exact List.getElem?_eq_getElem hk
end Go.Proofs.YtdaiooelglablabDoor
