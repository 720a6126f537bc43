/- Layer 19: what package status is said to do, whatever it is made of. -/
import Derived.Test.YtfempghbkchepaaDoorOq
import Derived.Test.YtfempghbkchepaaDoorQ19
import Derived.WalkKit
import Derived.WalkArith
import Derived.WalkSpells
import Derived.Laws.CopyOwn
namespace Go.Proofs.YtfempghbkchepaaDoor
open Go.RowKit
set_option linter.unusedVariables false
def sL (l : List Nat) : List Value := l.map (fun (x : Nat) => .int .i64 (x : Int))
structure StatusSpec (At : Ob.A (List Nat)) : Prop where
  is : Ob.Is At
  ok : ∀ {w : World} {p : Nat} {F : Nat → Prop} {s : List Nat}, At w p F s → Q19.Ok s
  new : ∀ (w : World) (n : Int), (Lit.int .i64 n).wf = true → Ob.Makes Tryd.prog At 7 #[.int .i64 n] w (Q19.mk n)
  bad : ∀ (w : World) (p : Nat) (F : Nat → Prop) (s : List Nat) (k : Int), (Lit.int .i64 k).wf = true → At w p F s → Ob.Turns Tryd.prog At 9 #[Ob.ptr p, .int .i64 k] w p F (Q19.up s k) (.tuple #[])
  all : ∀ (w : World) (p : Nat) (F : Nat → Prop) (s : List Nat), At w p F s → Oq.Tells Tryd.prog 17 #[Ob.ptr p] w s.length (sL s)
  spread : ∀ (w : World) (p : Nat) (F : Nat → Prop) (s : List Nat), At w p F s → Ob.Looks Tryd.prog 18 #[Ob.ptr p] w (.int .i64 (Q19.spread s : Int))
theorem wf19 {x : Int} (h : -9223372036854775808 ≤ x ∧ x ≤ 9223372036854775807) : (Lit.int .i64 x).wf = true := WalkArith.wf_i64 ⟨h.1, by omega⟩
end Go.Proofs.YtfempghbkchepaaDoor
