/- Layer 17: what package queue is said to do, whatever it is made of; a queue of one's own beside blocks that stay. -/
import Derived.Test.YtkgeknkppnadfaaOb
import Derived.Test.YtkgeknkppnadfaaRg
import Derived.Test.YtkgeknkppnadfaaSg
import Derived.Test.YtkgeknkppnadfaaVq
import Derived.WalkKit
import Derived.WalkArith
import Derived.Laws.CopyOwn
import Derived.WalkSpells
namespace Go.Proofs.Ytkgeknkppnadfaa
open Go.RowKit Go.WideShapes
set_option linter.unusedVariables false
def dC (d : Vq.Dl) : List Value := [.int .i64 d.msg, .string d.data]
abbrev dV (d : Vq.Dl) : Value := .agg #[.int .i64 d.msg, .string d.data]
structure QueueSpec (At : Ob.A Vq.St) : Prop where
  is : Ob.Is At
  ok : ∀ {w : World} {p : Nat} {F : Nat → Prop} {s : Vq.St}, At w p F s → Vq.Ok s
  new : ∀ (w : World) (r : Int), (Lit.int .i64 r).wf = true → Ob.Makes Try.prog At 25 #[.int .i64 r] w ⟨Vq.held r, []⟩
  put : ∀ (w : World) (p : Nat) (F : Nat → Prop) (s : Vq.St) (m : Int) (d : ByteArray), (Lit.int .i64 m).wf = true → At w p F s → Ob.Turns Try.prog At 30 #[Ob.ptr p, .int .i64 m, .string d] w p F (Vq.putS s ⟨m, d⟩) (.int .i64 (Vq.putE s))
  take : ∀ (w : World) (p : Nat) (F : Nat → Prop) (s : Vq.St), At w p F s → Ob.Turns Try.prog At 35 #[Ob.ptr p] w p F (Vq.takeS s) (.tuple #[dV (Vq.hd s), .int .i64 (Vq.takeE s)])
  head : ∀ (w : World) (p : Nat) (F : Nat → Prop) (s : Vq.St), At w p F s → Ob.Turns Try.prog At 34 #[Ob.ptr p] w p F s (.tuple #[dV (Vq.hd s), .bool (decide (0 < s.l.length))])
  len : ∀ (w : World) (p : Nat) (F : Nat → Prop) (s : Vq.St), At w p F s → Ob.Turns Try.prog At 38 #[Ob.ptr p] w p F s (.int .i64 (s.l.length : Int))
  all : ∀ (w : World) (p : Nat) (F : Nat → Prop) (s : Vq.St), At w p F s → Calls Try.prog 45 #[Ob.ptr p] w fun e w' => ∃ a c F', e = .returned (.slice a s.l.length c) ∧ Sg.OL 43 2 w.heap.size w' a c s.l.length (s.l.flatMap dC) ∧ At w' p F' s ∧ (∀ g, F' g → F g ∨ w.heap.size ≤ g) ∧ (∀ g, Sg.At_ a c g → ¬ F' g) ∧ Kept F w w'
  copy : ∀ (w : World) (p : Nat) (F : Nat → Prop) (s : Vq.St), At w p F s → Calls Try.prog 28 #[Ob.ptr p] w fun e w' => ∃ q F' G, e = .returned (Ob.ptr q) ∧ At w' p F' s ∧ At w' q G s ∧ (∀ g, F' g → F g ∨ w.heap.size ≤ g) ∧ (∀ g, G g → w.heap.size ≤ g) ∧ (∀ g, F' g → ¬ G g) ∧ Kept F w w'
/-- A queue of one's own, and blocks beside it that stay as they are. -/
def Qs (At : Ob.A Vq.St) (W w : World) (p : Nat) (s : Vq.St) (R : List (Nat × Obj)) : Prop :=
  ∃ F, At w p F s ∧ (∀ g, F g → W.heap.size ≤ g) ∧ Below W.heap.size W w ∧ ∀ x ∈ R, w.heap[x.1]? = some x.2 ∧ ¬ F x.1
section
variable {At : Ob.A Vq.St} {W w w' : World} {p : Nat} {s s' : Vq.St} {R : List (Nat × Obj)}
theorem Qs.bel (h : Qs At W w p s R) : Below W.heap.size W w := by obtain ⟨F, _, _, hb, _⟩ := h; exact hb
theorem Qs.ok (S : QueueSpec At) (h : Qs At W w p s R) : Vq.Ok s := by obtain ⟨F, h1, _⟩ := h; exact S.ok h1
theorem Qs.row (h : Qs At W w p s R) {g : Nat} {o : Obj} (hm : (g, o) ∈ R) : w.heap[g]? = some o := by obtain ⟨F, _, _, _, hr⟩ := h; exact (hr _ hm).1
theorem Qs.on (S : QueueSpec At) (h : Qs At W w p s R) (hb : Below w.heap.size w w') : Qs At W w' p s R := by
  obtain ⟨F, h1, h2, h3, h4⟩ := h
  refine ⟨F, S.is.on h1 (fun g hg => hb.block g (S.is.lt h1 g hg)), h2, h3.trans (hb.mono h3.size), fun x hx => ⟨?_, (h4 x hx).2⟩⟩
  rw [hb.block _ (Array.getElem?_eq_some_iff.1 (h4 x hx).1).1]
  exact (h4 x hx).1
theorem Qs.drop (h : Qs At W w p s R) : Qs At W w p s [] := by
  obtain ⟨F, h1, h2, h3, h4⟩ := h
  exact ⟨F, h1, h2, h3, fun x hx => by cases hx⟩
theorem Qs.al (S : QueueSpec At) (h : Qs At W w p s R) (o : Obj) : Qs At W (w.alloc o) p s ((w.heap.size, o) :: R) := by
  have hb : Below w.heap.size w (w.alloc o) := (Below.refl _ _).alloc (Nat.le_refl _) _
  obtain ⟨F, h1, h2, h3, h4⟩ := h.on S hb
  obtain ⟨F0, k1, k2, k3, k4⟩ := h
  refine ⟨F0, S.is.on k1 (fun g hg => hb.block g (S.is.lt k1 g hg)), k2, h3, fun x hx => ?_⟩
  rcases List.mem_cons.1 hx with rfl | hx
  · exact ⟨heap_alloc_new w o, fun hf => Nat.lt_irrefl _ (S.is.lt k1 _ hf)⟩
  · exact ⟨(h4 x hx).1, (k4 x hx).2⟩
theorem Qs.new {P : Program} {f : FuncId} {args : Array Value} (c : Ob.Makes P At f args w s) (hb0 : Below W.heap.size W w) : Calls P f args w fun e w' => ∃ p, e = .returned (Ob.ptr p) ∧ Qs At W w' p s [] :=
  c.mono fun e w' ⟨p, F, he, hA, hF, hb⟩ => ⟨p, he, F, hA, fun g hg => Nat.le_trans hb0.size (hF g hg), hb0.trans (hb.mono hb0.size), fun x hx => by cases hx⟩
theorem Qs.turn {P : Program} {f : FuncId} {args : Array Value} {v : Value} (c : ∀ F, At w p F s → Ob.Turns P At f args w p F s' v) (h : Qs At W w p s R) : Calls P f args w fun e w' => e = .returned v ∧ Qs At W w' p s' R := by
  obtain ⟨F, h1, h2, h3, h4⟩ := h
  refine (c F h1).mono fun e w' ⟨he, F', hA, hs, hk⟩ => ⟨he, F', hA, fun g hg => (hs g hg).elim (h2 g) (Nat.le_trans h3.size), h3.trans (hk.below h2 h3.size), fun x hx => ?_⟩
  obtain ⟨r1, r2⟩ := h4 x hx
  have hl := (Array.getElem?_eq_some_iff.1 r1).1
  exact ⟨(hk.block _ hl r2).trans r1, fun hf => (hs _ hf).elim r2 (fun k => by omega)⟩
end
theorem row_cells {w : World} {g k : Nat} {cs : Array Value} {T : TypeId} {v : Value} (h : w.heap[g]? = some (.cells cs T)) (hv : cs[k]? = some v) : w.cell? ⟨g, k, none⟩ = some v := RowT.c (T := T) h k v hv
end Go.Proofs.Ytkgeknkppnadfaa
