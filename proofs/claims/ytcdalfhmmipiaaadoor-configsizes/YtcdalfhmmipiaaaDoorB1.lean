/- The document's matrices, over their text: within, power, Comes, Rank, Find, Frame. -/
import Derived.Test.YtcdalfhmmipiaaaDoorMv
import Derived.Test.YtcdalfhmmipiaaaDoorU2
namespace Go.Proofs.YtcdalfhmmipiaaaDoor
open Go.RowKit Go.WideShapes
set_option linter.unusedVariables false
set_option maxRecDepth 100000 in
set_option maxHeartbeats 1000000 in
theorem rwithin_any (w : World) (n lo hi : Int) : Calls Tryd.prog 28 #[.int .i64 n, .int .i64 lo, .int .i64 hi] w fun e w' => e = .returned (.bool (Mx.within n lo hi)) ∧ w' = w := by
  unfold Mx.within
  by_cases h : lo ≤ n
  · rw [decide_eq_true h, Bool.true_and]
    go_enter Tryd.func28, Tryd.ntmps28
    go_wp2
    go_ret
    exact ⟨by simp, rfl⟩
  · rw [decide_eq_false h, Bool.false_and]
    go_enter Tryd.func28, Tryd.ntmps28
    go_wp2
    go_ret
    exact ⟨rfl, rfl⟩
set_option maxRecDepth 100000 in
set_option maxHeartbeats 1000000 in
theorem rpower_any (w : World) (n most : Int) : Calls Tryd.prog 29 #[.int .i64 n, .int .i64 most] w fun e w' => e = .returned (.bool (Mx.power n most)) ∧ w' = w := by
  unfold Mx.power
  cases h1 : (n == 1) <;> cases h2 : (n == 2) <;> cases h4 : (n == 4) <;> cases h8 : (n == 8)
  all_goals
    go_enter Tryd.func29, Tryd.ntmps29
    go_wp2
    go_ret
    exact ⟨by simp, rfl⟩
/-- A matrix that came in and was copied into a block. -/
structure Bx (w wB : World) (p : Nat) (m : Mx.M) (a : Ma) : Prop where
  row : RowT 27 wB p (mCs m a)
  mem : MIn wB m a
  below : Below w.heap.size w wB
theorem Bx.mk' {w : World} {m : Mx.M} {a : Ma} (hm : MIn w m a) : Bx w (w.alloc (.cells (mCs m a) 27)) w.heap.size m a := by
  have hb : Below w.heap.size w (w.alloc (.cells (mCs m a) 27)) := (Below.refl _ _).alloc (Nat.le_refl _) _
  exact ⟨RowT.new _ _ _, hm.on hb, hb⟩
theorem Bx.on {w wB w' : World} {p : Nat} {m : Mx.M} {a : Ma} (h : Bx w wB p m a) (hb : Below wB.heap.size wB w') : Bx w w' p m a := ⟨h.row.on hb, h.mem.on hb, h.below.trans (hb.mono h.below.size)⟩
end Go.Proofs.YtcdalfhmmipiaaaDoor
