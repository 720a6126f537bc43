/- Layer 17: steps that came in. -/
import Derived.Test.YtkgeknkppnadfaaVh
import Derived.Test.YtkgeknkppnadfaaFo
import Derived.Test.YtkgeknkppnadfaaHl
import Derived.ProofKit
import Derived.OpenShut
namespace Go.Proofs.Ytkgeknkppnadfaa
open Go.ChangeShapes Go.WideShapes Go.ChangeAt Go.RowKit
set_option linter.unusedVariables false
/-- The steps' cells, as the walk meets them. -/
def StepRow17 (W : World) (s : Option Addr) (len : Nat) (wh ms : Nat → Int) (ds : Nat → ByteArray) : Prop := len = 0 ∨ ∃ b off, s = some ⟨b, off, none⟩ ∧ ∀ i, i < len →
  W.cell? ⟨b, off + i * 3, none⟩ = some (.int .i64 (wh i)) ∧ W.cell? ⟨b, off + i * 3 + 1, none⟩ = some (.int .i64 (ms i)) ∧ W.cell? ⟨b, off + i * 3 + 2, none⟩ = some (.string (ds i)) ∧
  (Lit.int .i64 (wh i)).wf = true ∧ (Lit.int .i64 (ms i)).wf = true
/-- A block that is there. -/
theorem cell_lt17 {w : World} {g k : Nat} {v : Value} (h : w.cell? ⟨g, k, none⟩ = some v) : g < w.heap.size := by
  apply Classical.byContradiction
  intro h0
  have hn : w.heap[g]? = none := Array.getElem?_eq_none (by omega)
  unfold World.cell? at h
  dsimp only at h
  rw [hn] at h
  simp at h
/-- An operation that its guard leaves out, taken ahead. -/
theorem skipL {P : Program} {ops : Array Oper} {Q : Exit → Act → World → Prop} {md : Region.Mode} {S : World → Prop} {i d : Nat} {op : Op} {ty : TypeId} {pos : String} {after : Array Edge} {guard : Option (Nat × Bool)} {fuel : Nat} {listed : Array Bool} {a : Act} {w : World} (hi : ops[i]? = some ⟨some d, op, ty, pos, after, guard⟩)
    (hs : Region.noSelect ops = true) (hf : Region.free md ops listed i = true) (hr : (Region.ready md ops listed).contains i = true) (hQ : ∀ c a w, Q (.panic c) (a.put (some d) undef) w → Q (.panic c) a w)
    (hw : Region.wanted ⟨some d, op, ty, pos, after, guard⟩ (yielded ops a.tmps) = false) (hS : S w)
    (h : wpAnyH P md ops Q S fuel (listed.setIfInBounds i true) (a.put (some d) undef) w) : wpAnyH P md ops Q S (fuel + 1) listed a w :=
  wpAnyH_take hi hs hf hr hQ (Or.inr ⟨hw, rfl⟩) hS h
def Rows17 (R : List (Nat × Obj)) (w : World) : Prop := ∀ x ∈ R, w.heap[x.1]? = some x.2
theorem Rows17.more {R R' : List (Nat × Obj)} {w : World} (h : Rows17 R' w) (hs : ∀ x ∈ R, x ∈ R') : Rows17 R w := fun x hx => h x (hs x hx)
end Go.Proofs.Ytkgeknkppnadfaa
