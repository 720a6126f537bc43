/- A mark: what its methods are said to do, whatever holds it. -/
import Derived.Test.YtkdpdeokpndblaaOb
import Derived.Test.YtkdpdeokpndblaaMq
import Derived.WalkKit
import Derived.WalkArith
import Derived.Laws.CopyOwn
import Derived.Lib.SlBytesRow
import Derived.WalkSpells
import Derived.WalkLawsBesides
namespace Go.Proofs.Ytkdpdeokpndblaa
open Go.RowKit
set_option linter.unusedVariables false
structure MarkSpec (At : Ob.A Mq.St) : Prop where
  is : Ob.Is At
  ok : ∀ {w : World} {p : Nat} {F : Nat → Prop} {m : Mq.St}, At w p F m → Mq.Ok m
  new : ∀ (w : World), Ob.Makes Try.prog At 7 #[] w Mq.no
  start : ∀ (w : World) (p : Nat) (F : Nat → Prop) (m : Mq.St) (t : Nat), t < 65536 → At w p F m → Ob.Turns Try.prog At 9 #[Ob.ptr p, .int .u16 (t : Int)] w p F (Mq.begin m t) (.tuple #[])
  beat : ∀ (w : World) (p : Nat) (F : Nat → Prop) (m : Mq.St) (c : Int), (Lit.int .i64 c).wf = true → At w p F m → Ob.Turns Try.prog At 11 #[Ob.ptr p, .int .i64 c] w p F (Mq.beat m c) (.tuple #[])
  forget : ∀ (w : World) (p : Nat) (F : Nat → Prop) (m : Mq.St), At w p F m → Ob.Turns Try.prog At 13 #[Ob.ptr p] w p F Mq.no (.tuple #[])
  tell : ∀ (w : World) (p : Nat) (F : Nat → Prop) (m : Mq.St) (t : Nat), t < 65536 → At w p F m → Ob.Looks Try.prog 14 #[Ob.ptr p, .int .u16 (t : Int)] w (.tuple #[.int .i64 (Mq.tell m t : Int), .bool (Mq.is m)])
  cycle : ∀ (w : World) (p : Nat) (F : Nat → Prop) (m : Mq.St), At w p F m → Ob.Looks Try.prog 18 #[Ob.ptr p] w (.int .i64 (Mq.cycle m : Int))
  last : ∀ (w : World) (p : Nat) (F : Nat → Prop) (m : Mq.St), At w p F m → Ob.Looks Try.prog 16 #[Ob.ptr p] w (.tuple #[.int .u16 (Mq.last m : Int), .bool (Mq.is m)])
  copy : ∀ (w : World) (p : Nat) (F : Nat → Prop) (m : Mq.St), At w p F m → Ob.Makes Try.prog At 8 #[Ob.ptr p] w m
end Go.Proofs.Ytkdpdeokpndblaa
