/- Layer 22: what package master is said to do, whatever it is made of. -/
import Derived.Test.YtimcjhnanjeloaaOq
import Derived.Test.YtimcjhnanjeloaaQ22
import Derived.WalkKit
import Derived.WalkSpells
namespace Go.Proofs.Ytimcjhnanjeloaa
open Go.RowKit
set_option linter.unusedVariables false
structure MasterSpec (At : Ob.A Q22.St) : Prop where
  is : Ob.Is At
  ok : ∀ {w : World} {p : Nat} {F : Nat → Prop} {s : Q22.St}, At w p F s → Q22.Ok s
  new : ∀ (w : World) (r : Int), (Lit.int .i64 r).wf = true → Ob.Makes Try.prog At 8 #[.int .i64 r] w (Q22.mk r)
  beat : ∀ (w : World) (p : Nat) (F : Nat → Prop) (s : Q22.St) (r : Int), (Lit.int .i64 r).wf = true → At w p F s → Ob.Turns Try.prog At 15 #[Ob.ptr p, .int .i64 r] w p F (Q22.beat s r) (.tuple #[])
  sent : ∀ (w : World) (p : Nat) (F : Nat → Prop) (s : Q22.St), At w p F s → Ob.Turns Try.prog At 11 #[Ob.ptr p] w p F (Q22.sent s) (.tuple #[])
  watch : ∀ (w : World) (p : Nat) (F : Nat → Prop) (s : Q22.St), At w p F s → Ob.Turns Try.prog At 13 #[Ob.ptr p] w p F (Q22.watch s) (.tuple #[])
  state : ∀ (w : World) (p : Nat) (F : Nat → Prop) (s : Q22.St), At w p F s → Ob.Looks Try.prog 17 #[Ob.ptr p] w (.int .i64 (s.st : Int))
  leader : ∀ (w : World) (p : Nat) (F : Nat → Prop) (s : Q22.St), At w p F s → Ob.Looks Try.prog 18 #[Ob.ptr p] w (.int .i64 s.lead)
  leads : ∀ (w : World) (p : Nat) (F : Nat → Prop) (s : Q22.St), At w p F s → Ob.Looks Try.prog 19 #[Ob.ptr p] w (.bool (Q22.leads s))
  stands : ∀ (w : World) (p : Nat) (F : Nat → Prop) (s : Q22.St), At w p F s → Ob.Looks Try.prog 21 #[Ob.ptr p] w (.bool (Q22.stands s))
  copy : ∀ (w : World) (p : Nat) (F : Nat → Prop) (s : Q22.St), At w p F s → Ob.Makes Try.prog At 10 #[Ob.ptr p] w s
theorem wf22 {x : Int} (h : -9223372036854775808 ≤ x ∧ x ≤ 9223372036854775807) : (Lit.int .i64 x).wf = true := WalkArith.wf_i64 ⟨h.1, by omega⟩
end Go.Proofs.Ytimcjhnanjeloaa
