/- Layer 15: what package plan is said to do, whatever it is made of; law 15's own few, same. -/
import Derived.Test.YtnbfnipdiffphaaDoorYa
import Derived.Test.YtnbfnipdiffphaaDoorBc
import Derived.Test.YtnbfnipdiffphaaDoorU2
namespace Go.Proofs.YtnbfnipdiffphaaDoor
open Go.RowKit Go.WideShapes
set_option linter.unusedVariables false
/-- A call that tells triggers. -/
def Tells (P : Program) (f : FuncId) (args : Array Value) (w : World) (l : List Yq.Tr) : Prop := Calls P f args w fun e w' => ∃ s c n, n = l.length ∧ e = .returned (.slice s n c) ∧ LI w' s c n (l.flatMap tC) ∧ Below w.heap.size w w'
/-- The list is one of its own. -/
def TellsN (P : Program) (f : FuncId) (args : Array Value) (w : World) (l : List Yq.Tr) : Prop := Calls P f args w fun e w' => ∃ s c n, n = l.length ∧ e = .returned (.slice s n c) ∧ Sg.OL 36 6 w.heap.size w' s c n (l.flatMap tC) ∧ Below w.heap.size w w'
theorem TellsN.tells {P : Program} {f : FuncId} {args : Array Value} {w : World} {l : List Yq.Tr} (c : TellsN P f args w l) : Tells P f args w l := c.mono fun e w' ⟨s, c, n, h1, h2, h3, h4⟩ => ⟨s, c, n, h1, h2, h3.sl.li, h4⟩
structure PlanSpec (Q : World → Prop) : Prop where
  plan : ∀ (w : World) (m : Mx.M) (a : Ma) (who : Int), Q w → MIn w m a → Mx.Small m → Mx.Wf m → (Lit.int .i64 who).wf = true → Tells Tryd.prog 21 #[mV m a, .int .i64 who] w (Yq.plan m who)
  due : ∀ (w : World) (l : List Yq.Tr) (s : Option Addr) (c : Nat) (cy lo hi : Int), Q w → LI w s c l.length (l.flatMap tC) → l.length ≤ 1000 → (∀ t ∈ l, Yq.Wf t) → (Lit.int .i64 cy).wf = true → (Lit.int .i64 lo).wf = true → (Lit.int .i64 hi).wf = true → Tells Tryd.prog 27 #[.slice s l.length c, .int .i64 cy, .int .i64 lo, .int .i64 hi] w (Yq.due l cy lo hi)
  beat : ∀ (w : World) (m : Mx.M) (a : Ma) (r : Int), Q w → MIn w m a → Mx.Small m → Mx.Wf m → (Lit.int .i64 r).wf = true → Ob.Looks Tryd.prog 51 #[mV m a, .int .i64 r] w (.int .i64 (Yq.beat m r))
  watch : ∀ (w : World) (m : Mx.M) (a : Ma), Q w → MIn w m a → Mx.Small m → Mx.Wf m → Ob.Looks Tryd.prog 52 #[mV m a] w (.int .i64 (Yq.watch m))
namespace Yq
theorem lsucc {l r : List Tr} {k : Nat} {x y : Tr} (hx : l[k]? = some x) (hy : r[k]? = some y) (hb : ∀ j a b, j < k → l[j]? = some a → r[j]? = some b → a = b) (h : x = y) : ∀ j a b, j < k + 1 → l[j]? = some a → r[j]? = some b → a = b := fun j a b hj ha hb' => by
  rcases Nat.lt_or_eq_of_le (Nat.le_of_lt_succ hj) with h1 | h1
  · exact hb j a b h1 ha hb'
  · subst h1
    rw [hx] at ha
    rw [hy] at hb'
    injection ha with ha
    injection hb' with hb'
    rw [← ha, ← hb', h]
theorem lsame {l r : List Tr} (hl : l.length = r.length) (h : ∀ (j : Nat) x y, l[j]? = some x → r[j]? = some y → x = y) : l = r := by
  apply List.ext_getElem?
  intro j
  by_cases hj : j < l.length
  · have h1 := List.getElem?_eq_getElem hj
    have h2 := List.getElem?_eq_getElem (show j < r.length by omega)
    rw [h1, h2, h j _ _ h1 h2]
  · rw [List.getElem?_eq_none (by omega), List.getElem?_eq_none (by omega)]
theorem lother {l r : List Tr} {k : Nat} {x y : Tr} (hx : l[k]? = some x) (hy : r[k]? = some y) (h : x ≠ y) : false = decide (l = r) := by
  refine (decide_eq_false (fun e => h ?_)).symm
  subst e
  rw [hx] at hy
  injection hy
end Yq
/-- The trigger at a place. -/
theorem LI.trig {w : World} {s : Option Addr} {c : Nat} {l : List Yq.Tr} (h : LI w s c l.length (l.flatMap tC)) {i : Nat} {t : Yq.Tr} (ht : l[i]? = some t) : ∃ g o, s = some ⟨g, o, none⟩ ∧ ∀ w', Below w.heap.size w w' → w'.cell? ⟨g, o + i * 6, none⟩ = some (.int .i64 t.kind) ∧ w'.cell? ⟨g, o + i * 6 + 1, none⟩ = some (.int .i64 t.at_) ∧ w'.cell? ⟨g, o + i * 6 + 2, none⟩ = some (.int .i64 t.cycle) ∧ w'.cell? ⟨g, o + i * 6 + 3, none⟩ = some (.int .i64 t.rep) ∧ w'.cell? ⟨g, o + i * 6 + 4, none⟩ = some (.int .i64 t.msg) ∧ w'.cell? ⟨g, o + i * 6 + 5, none⟩ = some (.int .i64 t.til) := by
  obtain ⟨g, o, hs, hg, _⟩ := h.at (sz := 6) (fun _ => rfl) i t ht
  refine ⟨g, o, hs, fun w' hb => ?_⟩
  obtain ⟨g', o', hs', _, hc⟩ := (h.on hb).at (sz := 6) (fun _ => rfl) i t ht
  rw [hs] at hs'
  injection hs' with hs'
  injection hs' with e1 e2
  subst e1 e2
  refine ⟨?_, ?_, ?_, ?_, ?_, ?_⟩
  · have := hc 0 _ rfl; rwa [Nat.add_zero] at this
  · have := hc 1 _ rfl; rwa [← Nat.add_assoc] at this
  · have := hc 2 _ rfl; rwa [← Nat.add_assoc] at this
  · have := hc 3 _ rfl; rwa [← Nat.add_assoc] at this
  · have := hc 4 _ rfl; rwa [← Nat.add_assoc] at this
  · have := hc 5 _ rfl; rwa [← Nat.add_assoc] at this
end Go.Proofs.YtnbfnipdiffphaaDoor
