/- A region that does not draw, walked by hand, an operation a step: what reads, what is not wanted. Nothing of the program is in it. -/
import Derived.Test.YtlfhneiddfgoaaaDoorHl
namespace Go.Proofs.YtlfhneiddfgoaaaDoor.Hn
open Go.RowKit
variable {P : Program} {ops : Array Oper} {Q : Exit → Act → World → Prop} {a : Act} {w : World} {rest : List Oper} {o : Oper}
theorem take {v : Value} (hw : Region.wanted o (yielded ops a.tmps) = true) (hy : (execOp a.eval o).run P w = .ok (.value v) w) (h : wpList P ops Q rest (a.put o.dst v) w) : wpList P ops Q (o :: rest) a w := by
  rw [wpList, if_pos hw]
  refine Or.inl ?_
  rw [Oper.wp, hy]
  exact h
theorem skip (hw : Region.wanted o (yielded ops a.tmps) = false) (h : wpList P ops Q rest (a.put o.dst undef) w) : wpList P ops Q (o :: rest) a w := by
  rw [wpList, if_neg (by rw [hw]; decide)]
  exact h
theorem done (h : Q .normal a w) : wpList P ops Q [] a w := h
end Go.Proofs.YtlfhneiddfgoaaaDoor.Hn
