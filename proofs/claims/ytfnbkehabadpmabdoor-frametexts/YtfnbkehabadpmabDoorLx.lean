/- A law of the walk: one cell stored in a block of the call's own, the world behind it under a name of its own. -/
import Derived.Test.YtfnbkehabadpmabDoorLw
namespace Go.Proofs.YtfnbkehabadpmabDoor.Lw
open Go.RowKit
theorem wpList_store_cellB {P : Program} {ops : Array Oper} {rest : List Oper} {o : Oper} {a : Act} {w : World} {Q : Exit → Act → World → Prop} (hgd : o.guard = none) (ty : TypeId) (x y : Operand) (ho : o.op = .store ty x y)
    (g k : Nat) (v : Value) (hx : a.eval x = .pointer (some ⟨g, k, none⟩)) (hy : a.eval y = v) (h1 : v.oneCell' = true)
    (t : TypeId) (old : Array Value) (hg : w.heap[g]? = some (.cells old t (0, 0))) (hi : (P.info? ty).map (·.size) = some 1) (hk : k < old.size) (B : Nat) (w0 : World) (hb : Below B w0 w) (hBg : B ≤ g)
    (h : ∀ w', Hid (w'.heap[g]? = some (.cells (old.setIfInBounds k v) t (0, 0))) → Hid (∀ j, j ≠ g → w'.heap[j]? = w.heap[j]?) → Hid (w'.heap.size = w.heap.size) → Below B w0 w' → wpList P ops Q rest (a.put o.dst undef) w') :
    wpList P ops Q (o :: rest) a w :=
  wpList_plain hgd fun _ hK => by
    have hc : v.cells = #[v] := by cases v <;> first | rfl | cases h1
    have hcell : w.cell? ⟨g, k, none⟩ = some old[k] := by rw [cell_of_row _ _ _ _ _ _ hg]; simp [hk]
    have hfz : w.frozen? ⟨g, k, none⟩ = false := frozen_of_row _ _ _ _ _ hg
    have hgo := hK _ _ (h (w.setCell ⟨g, k, none⟩ v) (by show _ = _; rw [heap_setCell_same _ _ _ _ _ _ hg]) (fun j hj => heap_setCell_other _ ⟨g, k, none⟩ j v hj) (by show _ = _; simp) (hb.setCell hBg _))
    cases hq : P.info? ty with
    | none => simp [hq] at hi
    | some i =>
      have hs : i.size = 1 := by simpa [hq] using hi
      have hst : (storeVar ty ⟨g, k, none⟩ v).run P w = .ok () (w.setCell ⟨g, k, none⟩ v) := by
        simp [storeVar, sizeOf, typeInfo, hq, hs, hc]
        simp [go_sem]
        rw [run_store P w _ v _ h1]
        simp [go_sem, hcell, hfz]
      unfold Oper.wp execOp
      simp only [ho, hx, hy, Instr.storeAt, Instr.sureAddr, Sem.run_bind, Sem.run_pure, Result.andThen_ok, hst]
      exact hgo
end Go.Proofs.YtfnbkehabadpmabDoor.Lw
