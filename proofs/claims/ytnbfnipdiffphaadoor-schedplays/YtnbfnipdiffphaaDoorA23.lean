/- Layer 23: what package sched is said to do, whatever it is made of. -/
import Derived.Test.YtnbfnipdiffphaaDoorOs
import Derived.Test.YtnbfnipdiffphaaDoorQ23
import Derived.Test.YtnbfnipdiffphaaDoorYa
import Derived.Test.YtnbfnipdiffphaaDoorMo
import Derived.Test.YtnbfnipdiffphaaDoorB1
import Derived.WalkKit
import Derived.WalkSpells
namespace Go.Proofs.YtnbfnipdiffphaaDoor
open Go.RowKit Go.WideShapes
set_option linter.unusedVariables false
abbrev trV (t : Yq.Tr) : Value := .agg #[.int .i64 t.kind, .int .i64 t.at_, .int .i64 t.cycle, .int .i64 t.rep, .int .i64 t.msg, .int .i64 t.til]
def opV (o : Option Yq.Tr) : Value := .tuple #[trV (o.getD Q23.tz), .bool o.isSome]
/-- Q: what worlds must keep. V: a world in which the matrix lies. R: rows that stay, on which a sched may depend. -/
structure SchedSpec (Q : World → Prop) (At : Oq.Rs → Ob.A Q23.St) : Prop where
  is : ∀ R, Ob.Is (At R)
  new : ∀ (V w : World) (m : Mx.M) (a : Ma) (who : Int), Q w → Below V.heap.size V w → MIn V m a → Mx.Small m → Mx.Wf m → (Lit.int .i64 who).wf = true → Oq.MakesR Tryd.prog At 9 #[mV m a, .int .i64 who] V w (Q23.mk m who)
  begin_ : ∀ (R : Oq.Rs) (w : World) (p : Nat) (F : Nat → Prop) (s : Q23.St) (n : Int), Q w → Oq.Rows R w → (Lit.int .i64 n).wf = true → At R w p F s → Ob.Turns Tryd.prog (At R) 12 #[Ob.ptr p, .int .i64 n] w p F (Q23.begin_ s n) (.tuple #[])
  now : ∀ (R : Oq.Rs) (w : World) (p : Nat) (F : Nat → Prop) (s : Q23.St) (n : Int), Q w → Oq.Rows R w → (Lit.int .i64 n).wf = true → At R w p F s → Oq.TurnsL Tryd.prog (At R) 15 #[Ob.ptr p, .int .i64 n] w p F (Q23.now s n) (Q23.told s n).length ((Q23.told s n).flatMap tC)
  open_ : ∀ (R : Oq.Rs) (w : World) (p : Nat) (F : Nat → Prop) (s : Q23.St), Q w → Oq.Rows R w → At R w p F s → Ob.Looks Tryd.prog 16 #[Ob.ptr p] w (opV s.op)
  close : ∀ (R : Oq.Rs) (w : World) (p : Nat) (F : Nat → Prop) (s : Q23.St), Q w → Oq.Rows R w → At R w p F s → Ob.Turns Tryd.prog (At R) 13 #[Ob.ptr p] w p F (Q23.close s) (.tuple #[])
  over : ∀ (R : Oq.Rs) (w : World) (p : Nat) (F : Nat → Prop) (s : Q23.St) (n : Int), Q w → Oq.Rows R w → (Lit.int .i64 n).wf = true → At R w p F s → Ob.Looks Tryd.prog 17 #[Ob.ptr p, .int .i64 n] w (.bool (Q23.over s n))
  copy : ∀ (R : Oq.Rs) (w : World) (p : Nat) (F : Nat → Prop) (s : Q23.St), Q w → Oq.Rows R w → At R w p F s → Ob.Makes Tryd.prog (At R) 11 #[Ob.ptr p] w s
theorem wf23 {x : Int} (h : -9223372036854775808 ≤ x ∧ x ≤ 9223372036854775807) : (Lit.int .i64 x).wf = true := WalkArith.wf_i64 ⟨h.1, by omega⟩
end Go.Proofs.YtnbfnipdiffphaaDoor
