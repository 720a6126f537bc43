/- A struct that lies in a block, whatever its type: its cells; one made anew. Nothing of the program is in it. -/
import Derived.Test.YtnbfnipdiffphaaDoorOb
import Derived.OpenShut
namespace Go.Proofs.YtnbfnipdiffphaaDoor
open Go.RowKit
set_option linter.unusedVariables false
def RowT (T : TypeId) (w : World) (p : Nat) (cs : Array Value) : Prop := w.heap[p]? = some (.cells cs T (0, 0))
theorem RowT.lt {T : TypeId} {w : World} {p : Nat} {cs : Array Value} (h : RowT T w p cs) : p < w.heap.size := (Array.getElem?_eq_some_iff.1 h).1
theorem RowT.c {T : TypeId} {w : World} {p : Nat} {cs : Array Value} (h : RowT T w p cs) (k : Nat) (v : Value) (hv : cs[k]? = some v) : w.cell? ⟨p, k, none⟩ = some v := by rw [cell_of_row _ _ _ _ _ _ h]; exact hv
theorem RowT.on {T : TypeId} {w w' : World} {p : Nat} {cs : Array Value} (h : RowT T w p cs) (hb : Below w.heap.size w w') : RowT T w' p cs := (hb.block p h.lt).trans h
theorem RowT.f {T : TypeId} {w : World} {p : Nat} {cs : Array Value} (h : RowT T w p cs) (k : Nat) : w.frozen? ⟨p, k, none⟩ = false := frozen_of_row _ _ k _ _ h
theorem RowT.set {T : TypeId} {w : World} {p : Nat} {cs : Array Value} (h : RowT T w p cs) (k : Nat) (v : Value) : RowT T (w.setCell ⟨p, k, none⟩ v) p (cs.setIfInBounds k v) := heap_setCell_same _ _ _ _ _ _ h
theorem RowT.new (T : TypeId) (w : World) (cs : Array Value) : RowT T (w.alloc (.cells cs T)) w.heap.size cs := heap_alloc_new _ _
theorem RowT.kept {T : TypeId} {w w' : World} {p : Nat} {cs : Array Value} (h : RowT T w p cs) {F : Nat → Prop} (hk : Kept F w w') (hp : ¬ F p) : RowT T w' p cs := (hk.block p h.lt hp).trans h
theorem Kept.sets {p k : Nat} {v : Value} {w w' : World} (h : Kept (fun j => j = p) w w') : Kept (fun j => j = p) w (w'.setCell ⟨p, k, none⟩ v) := h.trans (Kept.set (F := fun j => j = p) w' ⟨p, k, none⟩ v rfl) (fun g hg => Or.inl hg)
/-- An object that is one struct in one block. -/
def OneB {σ : Type} (T : TypeId) (cs : σ → Array Value) (ok : σ → Prop) : Ob.A σ := fun w p F s => F = (fun j => j = p) ∧ RowT T w p (cs s) ∧ ok s
theorem OneB.is {σ : Type} (T : TypeId) (cs : σ → Array Value) (ok : σ → Prop) : Ob.Is (OneB T cs ok) where
  on := by
    rintro w w' p F c ⟨rfl, h, k⟩ hk
    exact ⟨rfl, (hk p rfl).trans h, k⟩
  lt := by
    rintro w p F c ⟨rfl, h, k⟩ g rfl
    exact h.lt
/-- One more, made by the walk itself, beside one. -/
theorem OneB.beside {σ τ : Type} {At : Ob.A τ} {T : TypeId} {cs : σ → Array Value} {ok : σ → Prop} (O : Ob.Is At) {B : Nat} {w : World} {p : Nat} {t : τ} (s : σ) (hs : ok s) (h : Ob.Own At B w p t) (hB : B ≤ w.heap.size) : Ob.Two At (OneB T cs ok) B (w.alloc (.cells (cs s) T)) p t w.heap.size s := by
  have hb : Below w.heap.size w (w.alloc (.cells (cs s) T)) := (Below.refl _ _).alloc (Nat.le_refl _) _
  obtain ⟨F, h1, h2⟩ := h
  exact ⟨F, fun j => j = w.heap.size, O.on h1 (fun g hg => hb.block g (O.lt h1 g hg)), ⟨rfl, RowT.new _ _ _, hs⟩, fun g hf hg => by have := O.lt h1 g hf; omega, h2, fun g hg => by omega⟩
/-- The second of three made anew. -/
theorem OneB.anew {σ τ υ : Type} {At : Ob.A τ} {Ct : Ob.A υ} {T : TypeId} {cs : σ → Array Value} {ok : σ → Prop} (O : Ob.Is At) (O3 : Ob.Is Ct) {B : Nat} {w : World} {p q r : Nat} {t : τ} {s0 : σ} {u : υ} (s : σ) (hs : ok s) (h : Ob.Three At (OneB T cs ok) Ct B w p t q s0 r u) (hB : B ≤ w.heap.size) : Ob.Three At (OneB T cs ok) Ct B (w.alloc (.cells (cs s) T)) p t w.heap.size s r u := by
  have hb : Below w.heap.size w (w.alloc (.cells (cs s) T)) := (Below.refl _ _).alloc (Nat.le_refl _) _
  obtain ⟨F, G, H, h1, h2, h3, d1, d2, d3, b1, b2, b3⟩ := h
  exact ⟨F, fun j => j = w.heap.size, H, O.on h1 (fun g hg => hb.block g (O.lt h1 g hg)), ⟨rfl, RowT.new _ _ _, hs⟩, O3.on h3 (fun g hg => hb.block g (O3.lt h3 g hg)), fun g hf hg => by have := O.lt h1 g hf; omega, d2, fun g hh hg => by have := O3.lt h3 g hh; omega, b1, fun g hg => by omega, b3⟩
/-- One more of whatever kind, in one block that the walk itself has made, beside one; the second of three anew; a third one. -/
theorem beside {σ τ : Type} {At : Ob.A τ} {Bt : Ob.A σ} (O : Ob.Is At) {B : Nat} {w : World} {p : Nat} {t : τ} {s : σ} {o : Obj} (hn : Bt (w.alloc o) w.heap.size (fun j => j = w.heap.size) s) (h : Ob.Own At B w p t) (hB : B ≤ w.heap.size) : Ob.Two At Bt B (w.alloc o) p t w.heap.size s := by
  have hb : Below w.heap.size w (w.alloc o) := (Below.refl _ _).alloc (Nat.le_refl _) _
  obtain ⟨F, h1, h2⟩ := h
  exact ⟨F, fun j => j = w.heap.size, O.on h1 (fun g hg => hb.block g (O.lt h1 g hg)), hn, fun g hf hg => by have := O.lt h1 g hf; omega, h2, fun g hg => by omega⟩
theorem anew {σ τ υ : Type} {At : Ob.A τ} {Bt : Ob.A σ} {Ct : Ob.A υ} (O : Ob.Is At) (O3 : Ob.Is Ct) {B : Nat} {w : World} {p q r : Nat} {t : τ} {s0 s : σ} {u : υ} {o : Obj} (hn : Bt (w.alloc o) w.heap.size (fun j => j = w.heap.size) s) (h : Ob.Three At Bt Ct B w p t q s0 r u) (hB : B ≤ w.heap.size) : Ob.Three At Bt Ct B (w.alloc o) p t w.heap.size s r u := by
  have hb : Below w.heap.size w (w.alloc o) := (Below.refl _ _).alloc (Nat.le_refl _) _
  obtain ⟨F, G, H, h1, h2, h3, d1, d2, d3, b1, b2, b3⟩ := h
  exact ⟨F, fun j => j = w.heap.size, H, O.on h1 (fun g hg => hb.block g (O.lt h1 g hg)), hn, O3.on h3 (fun g hg => hb.block g (O3.lt h3 g hg)), fun g hf hg => by have := O.lt h1 g hf; omega, d2, fun g hh hg => by have := O3.lt h3 g hh; omega, b1, fun g hg => by omega, b3⟩
theorem third {σ τ υ : Type} {At : Ob.A τ} {Bt : Ob.A σ} {Ct : Ob.A υ} (O : Ob.Is At) (O2 : Ob.Is Bt) {B : Nat} {w : World} {p q : Nat} {t : τ} {s : σ} {u : υ} {o : Obj} (hn : Ct (w.alloc o) w.heap.size (fun j => j = w.heap.size) u) (h : Ob.Two At Bt B w p t q s) (hB : B ≤ w.heap.size) : Ob.Three At Bt Ct B (w.alloc o) p t q s w.heap.size u := by
  have hb : Below w.heap.size w (w.alloc o) := (Below.refl _ _).alloc (Nat.le_refl _) _
  obtain ⟨F, G, h1, h2, d1, b1, b2⟩ := h
  exact ⟨F, G, fun j => j = w.heap.size, O.on h1 (fun g hg => hb.block g (O.lt h1 g hg)), O2.on h2 (fun g hg => hb.block g (O2.lt h2 g hg)), hn, d1, fun g hh hf => by have := O.lt h1 g hf; omega, fun g hh hg => by have := O2.lt h2 g hg; omega, b1, b2, fun g hg => by omega⟩
/-- The third, read. -/
theorem Ob.Three.row {σ τ υ : Type} {At : Ob.A τ} {Bt : Ob.A σ} {T : TypeId} {cs : υ → Array Value} {ok : υ → Prop} {B : Nat} {w : World} {p q r : Nat} {t : τ} {s : σ} {u : υ} (h : Ob.Three At Bt (OneB T cs ok) B w p t q s r u) : RowT T w r (cs u) := by
  obtain ⟨F, G, H, h1, h2, h3, _⟩ := h
  exact h3.2.1
end Go.Proofs.YtnbfnipdiffphaaDoor
