/- The document's matrices, over their text: within, power, Comes, Rank, Find, Frame. -/
import Derived.Test.YtkgeknkppnadfaaMv
import Derived.Test.YtkgeknkppnadfaaU2
namespace Go.Proofs.Ytkgeknkppnadfaa
open Go.RowKit Go.WideShapes
set_option linter.unusedVariables false
/-- A matrix that came in and was copied into a block. -/
structure Bx (w wB : World) (p : Nat) (m : Mx.M) (a : Ma) : Prop where
  row : RowT 29 wB p (mCs m a)
  mem : MIn wB m a
  below : Below w.heap.size w wB
theorem Bx.mk' {w : World} {m : Mx.M} {a : Ma} (hm : MIn w m a) : Bx w (w.alloc (.cells (mCs m a) 29)) w.heap.size m a := by
  have hb : Below w.heap.size w (w.alloc (.cells (mCs m a) 29)) := (Below.refl _ _).alloc (Nat.le_refl _) _
  exact ⟨RowT.new _ _ _, hm.on hb, hb⟩
theorem Bx.on {w wB w' : World} {p : Nat} {m : Mx.M} {a : Ma} (h : Bx w wB p m a) (hb : Below wB.heap.size wB w') : Bx w w' p m a := ⟨h.row.on hb, h.mem.on hb, h.below.trans (hb.mono h.below.size)⟩
end Go.Proofs.Ytkgeknkppnadfaa
