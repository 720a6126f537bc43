/- Layer 18: what package object is said to do, whatever it is made of. -/
import Derived.Test.YtkgeknkppnadfaaVa
import Derived.Test.YtkgeknkppnadfaaOq
import Derived.Test.YtkgeknkppnadfaaQ18
import Derived.Test.YtkgeknkppnadfaaMo
import Derived.Test.YtkgeknkppnadfaaB1
namespace Go.Proofs.Ytkgeknkppnadfaa
open Go.RowKit Go.WideShapes
set_option linter.unusedVariables false
/-- A call that makes one; V1: a world in which all lies that it never writes: old, or new and made ahead of it. -/
def Ob.MakesV (P : Program) {σ : Type} (At : World → Ob.A σ) (f : FuncId) (args : Array Value) (w : World) (s : σ) : Prop :=
  Calls P f args w fun e w' => ∃ V1 p F, e = .returned (Ob.ptr p) ∧ Below w.heap.size w V1 ∧ At V1 w' p F s ∧ (∀ g, F g → V1.heap.size ≤ g) ∧ Below V1.heap.size V1 w'
theorem Oq.O1.makeV {P : Program} {σ : Type} {At : World → Ob.A σ} {f : FuncId} {args : Array Value} {w : World} {s : σ} (c : Ob.MakesV P At f args w s) : Calls P f args w fun e w' => ∃ V1 p, e = .returned (Ob.ptr p) ∧ Below w.heap.size w V1 ∧ Oq.O1 (At V1) V1 w' p s [] :=
  c.mono fun e w' ⟨V1, p, F, he, hb, hA, hF, h1⟩ => ⟨V1, p, he, hb, F, hA, hF, h1, fun x hx => by cases hx⟩
/-- Q: what worlds must keep. V: a world in which all lies that the object never writes. -/
structure ObjectSpec (Q : World → Prop) (At : World → Ob.A Q18.St) : Prop where
  is : ∀ V, Ob.Is (At V)
  ok : ∀ {V w : World} {p : Nat} {F : Nat → Prop} {s : Q18.St}, At V w p F s → Q18.Ok s
  new : ∀ (V w : World) (m : Mx.M) (a : Ma) (who : Int), Q w → Below V.heap.size V w → MIn V m a → Mx.Small m → (Lit.int .i64 who).wf = true → Ob.MakesV Try.prog At 8 #[mV m a, .int .i64 who] w (Q18.mk m.messages who)
  send : ∀ (V w : World) (p : Nat) (F : Nat → Prop) (s : Q18.St) (k : Int) (d : ByteArray), Q w → Below V.heap.size V w → (Lit.int .i64 k).wf = true → At V w p F s → Ob.Turns Try.prog (At V) 11 #[Ob.ptr p, .int .i64 k, .string d] w p F (Q18.sendS s k d) (.int .i64 (Q18.sendE s k d))
  state : ∀ (V w : World) (p : Nat) (F : Nat → Prop) (s : Q18.St) (k : Int), Q w → Below V.heap.size V w → (Lit.int .i64 k).wf = true → At V w p F s → Ob.Turns Try.prog (At V) 19 #[Ob.ptr p, .int .i64 k] w p F s (.tuple #[.string ((Q18.get s.own k).getD ByteArray.empty), .bool (Q18.get s.own k).isSome])
  event : ∀ (V w : World) (p : Nat) (F : Nat → Prop) (s : Q18.St), Q w → Below V.heap.size V w → At V w p F s → Ob.Turns Try.prog (At V) 17 #[Ob.ptr p] w p F s (.tuple #[dV (Vq.hd s.q), .bool (decide (0 < s.q.l.length))])
  sent : ∀ (V w : World) (p : Nat) (F : Nat → Prop) (s : Q18.St) (k : Int), Q w → Below V.heap.size V w → (Lit.int .i64 k).wf = true → At V w p F s → Ob.Turns Try.prog (At V) 13 #[Ob.ptr p, .int .i64 k] w p F (Q18.sentS s k) (.tuple #[])
  got : ∀ (V w : World) (p : Nat) (F : Nat → Prop) (s : Q18.St) (k : Int) (d : ByteArray), Q w → Below V.heap.size V w → (Lit.int .i64 k).wf = true → At V w p F s → Ob.Turns Try.prog (At V) 15 #[Ob.ptr p, .int .i64 k, .string d] w p F (Q18.gotS s k d) (.tuple #[])
  read : ∀ (V w : World) (p : Nat) (F : Nat → Prop) (s : Q18.St) (k : Int), Q w → Below V.heap.size V w → (Lit.int .i64 k).wf = true → At V w p F s → Ob.Turns Try.prog (At V) 21 #[Ob.ptr p, .int .i64 k] w p F s (.tuple #[.string ((Q18.get s.came k).getD ByteArray.empty), .bool (Q18.get s.came k).isSome])
  waiting : ∀ (V w : World) (p : Nat) (F : Nat → Prop) (s : Q18.St), Q w → Below V.heap.size V w → At V w p F s → Ob.Turns Try.prog (At V) 18 #[Ob.ptr p] w p F s (.int .i64 (s.q.l.length : Int))
  copy : ∀ (V w : World) (p : Nat) (F : Nat → Prop) (s : Q18.St), Q w → Below V.heap.size V w → At V w p F s → Calls Try.prog 10 #[Ob.ptr p] w fun e w' => ∃ q F' G, e = .returned (Ob.ptr q) ∧ At V w' p F' s ∧ At V w' q G s ∧ (∀ g, F' g → F g ∨ w.heap.size ≤ g) ∧ (∀ g, G g → w.heap.size ≤ g) ∧ (∀ g, F' g → ¬ G g) ∧ Kept F w w'
theorem wf18 {x : Int} (h : -9223372036854775808 ≤ x ∧ x ≤ 9223372036854775807) : (Lit.int .i64 x).wf = true := WalkArith.wf_i64 ⟨h.1, by omega⟩
end Go.Proofs.Ytkgeknkppnadfaa
