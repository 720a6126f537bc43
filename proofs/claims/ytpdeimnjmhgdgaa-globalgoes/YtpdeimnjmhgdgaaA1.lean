/- One time for all: what its methods are said to do, whatever holds it. -/
import Derived.Test.YtpdeimnjmhgdgaaOb
import Derived.Test.YtpdeimnjmhgdgaaGq
import Derived.WalkKit
import Derived.WalkArith
import Derived.Laws.CopyOwn
import Derived.Lib.SlBytesRow
import Derived.WalkSpells
import Derived.WalkLawsBesides
namespace Go.Proofs.Ytpdeimnjmhgdgaa
open Go.RowKit
set_option linter.unusedVariables false
structure GlobalSpec (At : Ob.A Gq.St) : Prop where
  is : Ob.Is At
  ok : ∀ {w : World} {p : Nat} {F : Nat → Prop} {s : Gq.St}, At w p F s → Gq.Ok s
  new : ∀ (w : World), Ob.Makes Try.prog At 9 #[] w .no
  beat : ∀ (w : World) (p : Nat) (F : Nat → Prop) (s : Gq.St) (who : Int) (g m : Nat) (disc : Bool), (Lit.int .i64 who).wf = true → g < 65536 → m < 65536 → At w p F s → Ob.Turns Try.prog At 11 #[Ob.ptr p, .int .i64 who, .int .u16 (g : Int), .int .u16 (m : Int), .bool disc] w p F (Gq.beat s who g m disc) (.tuple #[])
  tell : ∀ (w : World) (p : Nat) (F : Nat → Prop) (s : Gq.St) (t : Nat), t < 65536 → At w p F s → Ob.Looks Try.prog 18 #[Ob.ptr p, .int .u16 (t : Int)] w (.int .u16 (Gq.tell s t : Int))
  steady : ∀ (w : World) (p : Nat) (F : Nat → Prop) (s : Gq.St), At w p F s → Ob.Looks Try.prog 20 #[Ob.ptr p] w (.int .i64 (Gq.steady s : Int))
  lens : ∀ (w : World) (p : Nat) (F : Nat → Prop) (s : Gq.St), At w p F s → Ob.Looks Try.prog 14 #[Ob.ptr p] w (.tuple #[.int .i64 (Gq.la s : Int), .int .i64 (Gq.lb s : Int), .bool (Gq.lo s)])
  rate : ∀ (w : World) (p : Nat) (F : Nat → Prop) (s : Gq.St) (num : Int), (Lit.int .i64 num).wf = true → At w p F s → Ob.Looks Try.prog 16 #[Ob.ptr p, .int .i64 num] w (.tuple #[.int .i64 (Gq.rate s num), .bool (Gq.can s num)])
  forget : ∀ (w : World) (p : Nat) (F : Nat → Prop) (s : Gq.St), At w p F s → Ob.Turns Try.prog At 10 #[Ob.ptr p] w p F .no (.tuple #[])
  copy : ∀ (w : World) (p : Nat) (F : Nat → Prop) (s : Gq.St), At w p F s → Ob.Makes Try.prog At 13 #[Ob.ptr p] w s
end Go.Proofs.Ytpdeimnjmhgdgaa
