/- A clock: what its methods are said to do, whatever holds it. -/
import Derived.Test.YtjjahfmjiinpcaaOb
import Derived.Test.YtjjahfmjiinpcaaCk
import Derived.WalkKit
import Derived.WalkArith
import Derived.Laws.CopyOwn
import Derived.Lib.SlBytesRow
import Derived.WalkSpells
import Derived.WalkLawsBesides
namespace Go.Proofs.Ytjjahfmjiinpcaa
open Go.RowKit
set_option linter.unusedVariables false
structure ClockSpec (At : Ob.A Ck.St) : Prop where
  is : Ob.Is At
  ok : ∀ {w : World} {p : Nat} {F : Nat → Prop} {c : Ck.St}, At w p F c → Ck.Ok c
  new : ∀ (w : World) (u : Int), (Lit.int .i64 u).wf = true → Ob.Makes Try.prog At 10 #[.int .i64 u] w (Ck.new u)
  tick : ∀ (w : World) (p : Nat) (F : Nat → Prop) (c : Ck.St) (n : Int), (Lit.int .i64 n).wf = true → At w p F c → Ob.Turns Try.prog At 15 #[Ob.ptr p, .int .i64 n] w p F (Ck.tick c n) (.tuple #[])
  time : ∀ (w : World) (p : Nat) (F : Nat → Prop) (c : Ck.St), At w p F c → Ob.Looks Try.prog 18 #[Ob.ptr p] w (.int .u16 (c.t : Int))
  part : ∀ (w : World) (p : Nat) (F : Nat → Prop) (c : Ck.St), At w p F c → Ob.Looks Try.prog 19 #[Ob.ptr p] w (.int .i64 (c.part : Int))
  rate : ∀ (w : World) (p : Nat) (F : Nat → Prop) (c : Ck.St), At w p F c → Ob.Looks Try.prog 17 #[Ob.ptr p] w (.tuple #[.int .i64 (c.num : Int), .int .i64 256])
  setRate : ∀ (w : World) (p : Nat) (F : Nat → Prop) (c : Ck.St) (num den : Int), (Lit.int .i64 num).wf = true → (Lit.int .i64 den).wf = true → At w p F c → Ob.Turns Try.prog At 12 #[Ob.ptr p, .int .i64 num, .int .i64 den] w p F (Ck.setRate c num den) (.bool (Ck.may c num den))
  copy : ∀ (w : World) (p : Nat) (F : Nat → Prop) (c : Ck.St), At w p F c → Ob.Makes Try.prog At 14 #[Ob.ptr p] w c
  since : ∀ (w : World) (a b : Nat), a < 65536 → b < 65536 → Ob.Looks Try.prog 20 #[.int .u16 (a : Int), .int .u16 (b : Int)] w (.int .i64 (Ck.since a b : Int))
end Go.Proofs.Ytjjahfmjiinpcaa
