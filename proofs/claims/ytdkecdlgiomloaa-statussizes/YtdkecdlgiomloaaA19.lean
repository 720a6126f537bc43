/- Layer 19: what package status is said to do, whatever it is made of. -/
import Derived.Test.YtdkecdlgiomloaaOq
import Derived.Test.YtdkecdlgiomloaaQ19
import Derived.WalkKit
import Derived.WalkArith
import Derived.WalkSpells
import Derived.Laws.CopyOwn
namespace Go.Proofs.Ytdkecdlgiomloaa
open Go.RowKit
set_option linter.unusedVariables false
def sL (l : List Nat) : List Value := l.map (fun (x : Nat) => .int .i64 (x : Int))
structure StatusSpec (At : Ob.A (List Nat)) : Prop where
  is : Ob.Is At
  ok : ∀ {w : World} {p : Nat} {F : Nat → Prop} {s : List Nat}, At w p F s → Q19.Ok s
  new : ∀ (w : World) (n : Int), (Lit.int .i64 n).wf = true → Ob.Makes Try.prog At 8 #[.int .i64 n] w (Q19.mk n)
  good : ∀ (w : World) (p : Nat) (F : Nat → Prop) (s : List Nat) (k : Int), (Lit.int .i64 k).wf = true → At w p F s → Ob.Turns Try.prog At 11 #[Ob.ptr p, .int .i64 k] w p F (Q19.down s k) (.tuple #[])
  bad : ∀ (w : World) (p : Nat) (F : Nat → Prop) (s : List Nat) (k : Int), (Lit.int .i64 k).wf = true → At w p F s → Ob.Turns Try.prog At 13 #[Ob.ptr p, .int .i64 k] w p F (Q19.up s k) (.tuple #[])
  get : ∀ (w : World) (p : Nat) (F : Nat → Prop) (s : List Nat) (k : Int), (Lit.int .i64 k).wf = true → At w p F s → Ob.Looks Try.prog 17 #[Ob.ptr p, .int .i64 k] w (.int .i64 (Q19.get s k : Int))
  all : ∀ (w : World) (p : Nat) (F : Nat → Prop) (s : List Nat), At w p F s → Oq.Tells Try.prog 14 #[Ob.ptr p] w s.length (sL s)
  spread : ∀ (w : World) (p : Nat) (F : Nat → Prop) (s : List Nat), At w p F s → Ob.Looks Try.prog 16 #[Ob.ptr p] w (.int .i64 (Q19.spread s : Int))
  clear : ∀ (w : World) (p : Nat) (F : Nat → Prop) (s : List Nat), At w p F s → Ob.Turns Try.prog At 19 #[Ob.ptr p] w p F (List.replicate s.length 0) (.tuple #[])
  copy : ∀ (w : World) (p : Nat) (F : Nat → Prop) (s : List Nat), At w p F s → Ob.Makes Try.prog At 10 #[Ob.ptr p] w s
theorem wf19 {x : Int} (h : -9223372036854775808 ≤ x ∧ x ≤ 9223372036854775807) : (Lit.int .i64 x).wf = true := WalkArith.wf_i64 ⟨h.1, by omega⟩
end Go.Proofs.Ytdkecdlgiomloaa
