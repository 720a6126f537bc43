/- Objects that are written, whatever they are: one, two apart; what a method is said to do. Nothing of the program is in it. -/
import Derived.Test.YthkaekpoicodeaaGreatDoorJ0
namespace Go.Proofs.YthkaekpoicodeaaGreatDoor.Ob
open Go.RowKit
set_option linter.unusedVariables false
abbrev ptr (p : Nat) : Value := .pointer (some ⟨p, 0, none⟩)
/-- An object at a block, the blocks that are its own, its plain state. -/
abbrev A (σ : Type) := World → Nat → (Nat → Prop) → σ → Prop
structure Is {σ : Type} (At : A σ) : Prop where
  on : ∀ {w w' : World} {p : Nat} {F : Nat → Prop} {s : σ}, At w p F s → (∀ g, F g → w'.heap[g]? = w.heap[g]?) → At w' p F s
  lt : ∀ {w : World} {p : Nat} {F : Nat → Prop} {s : σ}, At w p F s → ∀ g, F g → g < w.heap.size
/-- A call that makes one. -/
def Makes (P : Program) {σ : Type} (At : A σ) (f : FuncId) (args : Array Value) (w : World) (s : σ) : Prop :=
  Calls P f args w fun e w' => ∃ p F, e = .returned (ptr p) ∧ At w' p F s ∧ (∀ g, F g → w.heap.size ≤ g) ∧ Below w.heap.size w w'
/-- A call that turns one. -/
def Turns (P : Program) {σ : Type} (At : A σ) (f : FuncId) (args : Array Value) (w : World) (p : Nat) (F : Nat → Prop) (s : σ) (v : Value) : Prop :=
  Calls P f args w fun e w' => e = .returned v ∧ ∃ F', At w' p F' s ∧ (∀ g, F' g → F g ∨ w.heap.size ≤ g) ∧ Kept F w w'
/-- A call that only looks. -/
def Looks (P : Program) (f : FuncId) (args : Array Value) (w : World) (v : Value) : Prop := Calls P f args w fun e w' => e = .returned v ∧ Below w.heap.size w w'
def Own {σ : Type} (At : A σ) (B : Nat) (w : World) (p : Nat) (s : σ) : Prop := ∃ F, At w p F s ∧ ∀ g, F g → B ≤ g
def Two {σ τ : Type} (At : A σ) (Bt : A τ) (B : Nat) (w : World) (p : Nat) (s : σ) (q : Nat) (t : τ) : Prop :=
  ∃ F G, At w p F s ∧ Bt w q G t ∧ (∀ g, F g → ¬ G g) ∧ (∀ g, F g → B ≤ g) ∧ (∀ g, G g → B ≤ g)
section
variable {P : Program} {σ τ : Type} {At : A σ} {Bt : A τ} {B : Nat} {w w' : World} {p q : Nat} {s s' : σ} {t t' : τ} {f : FuncId} {args : Array Value} {v : Value}
theorem Own.on (O : Is At) (h : Own At B w p s) (hb : Below w.heap.size w w') : Own At B w' p s := by
  obtain ⟨F, h1, h2⟩ := h
  exact ⟨F, O.on h1 (fun g hg => hb.block g (O.lt h1 g hg)), h2⟩
theorem Two.on (O : Is At) (O2 : Is Bt) (h : Two At Bt B w p s q t) (hb : Below w.heap.size w w') : Two At Bt B w' p s q t := by
  obtain ⟨F, G, h1, h2, h3, h4, h5⟩ := h
  exact ⟨F, G, O.on h1 (fun g hg => hb.block g (O.lt h1 g hg)), O2.on h2 (fun g hg => hb.block g (O2.lt h2 g hg)), h3, h4, h5⟩
theorem Two.swap (h : Two At Bt B w p s q t) : Two Bt At B w q t p s := by
  obtain ⟨F, G, h1, h2, h3, h4, h5⟩ := h
  exact ⟨G, F, h2, h1, fun g hg hf => h3 g hf hg, h5, h4⟩
theorem Two.fst (h : Two At Bt B w p s q t) : Own At B w p s := by
  obtain ⟨F, G, h1, h2, h3, h4, h5⟩ := h
  exact ⟨F, h1, h4⟩
theorem Two.snd (h : Two At Bt B w p s q t) : Own Bt B w q t := h.swap.fst
/-- Three apart: the third one is a thing of its own. -/
def Three {υ : Type} (At : A σ) (Bt : A τ) (Ct : A υ) (B : Nat) (w : World) (p : Nat) (s : σ) (q : Nat) (t : τ) (r : Nat) (u : υ) : Prop :=
  ∃ F G H, At w p F s ∧ Bt w q G t ∧ Ct w r H u ∧ (∀ g, F g → ¬ G g) ∧ (∀ g, H g → ¬ F g) ∧ (∀ g, H g → ¬ G g) ∧ (∀ g, F g → B ≤ g) ∧ (∀ g, G g → B ≤ g) ∧ (∀ g, H g → B ≤ g)
end
end Go.Proofs.YthkaekpoicodeaaGreatDoor.Ob
