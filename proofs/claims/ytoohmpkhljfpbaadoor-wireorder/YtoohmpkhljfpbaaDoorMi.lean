/- Law 7's 'idle': a node that has seen four ones. -/
import Derived.Test.YtoohmpkhljfpbaaDoorMk
namespace Go.Proofs.YtoohmpkhljfpbaaDoor
open Go.RowKit
set_option linter.unusedVariables false
variable {At : World → Nat → (Nat → Prop) → Mm.St → Prop}
theorem cnt_field1 (a b : Int) (W : World) : (Instr.field 47 (.agg #[.int .i64 a, .int .i64 b]) 1).run Tryd.prog W = .ok (.int .i64 b) W := by
  simp [Instr.field, go_sem, asAgg]
theorem cnt_field0 (a b : Int) (W : World) : (Instr.field 47 (.agg #[.int .i64 a, .int .i64 b]) 0).run Tryd.prog W = .ok (.int .i64 a) W := by
  simp [Instr.field, go_sem, asAgg]
/-- A new node behind k ones. -/
def Mm.newS (k : Nat) : Mm.St := if 3 ≤ k then Mm.idS false Cm.noF [] false 0 0 else Mm.pz (3 - k) false Cm.noF [] false 0 0
theorem Mm.newS_one (k : Nat) : Mm.sample (Mm.newS k) true = (Mm.newS (k + 1), []) := by
  unfold Mm.newS
  by_cases h : 3 ≤ k
  · rw [if_pos h, if_pos (by omega)]; rfl
  · obtain rfl | rfl | rfl : k = 0 ∨ k = 1 ∨ k = 2 := by omega
    all_goals rfl
theorem Mm.newS_zero : Mm.newS 0 = Mm.fresh := rfl
theorem Mm.newS_idle {k : Nat} (h : 3 ≤ k) : Mm.newS k = Mm.idS false Cm.noF [] false 0 0 := by unfold Mm.newS; rw [if_pos h]
end Go.Proofs.YtoohmpkhljfpbaaDoor
