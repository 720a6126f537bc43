/- Objects that are written, whatever they are: one, two apart; what a method is said to do. Nothing of the program is in it. -/
import Derived.Test.YtnbfnipdiffphaaDoorJ0
namespace Go.Proofs.YtnbfnipdiffphaaDoor.Ob
open Go.RowKit
set_option linter.unusedVariables false
abbrev ptr (p : Nat) : Value := .pointer (some ⟨p, 0, none⟩)
/-- An object at a block, the blocks that are its own, its plain state. -/
abbrev A (σ : Type) := World → Nat → (Nat → Prop) → σ → Prop
structure Is {σ : Type} (At : A σ) : Prop where
  on : ∀ {w w' : World} {p : Nat} {F : Nat → Prop} {s : σ}, At w p F s → (∀ g, F g → w'.heap[g]? = w.heap[g]?) → At w' p F s
  lt : ∀ {w : World} {p : Nat} {F : Nat → Prop} {s : σ}, At w p F s → ∀ g, F g → g < w.heap.size
/-- A call that makes one. -/
def Makes (P : Program) {σ : Type} (At : A σ) (f : FuncId) (args : Array Value) (w : World) (s : σ) : Prop :=
  Calls P f args w fun e w' => ∃ p F, e = .returned (ptr p) ∧ At w' p F s ∧ (∀ g, F g → w.heap.size ≤ g) ∧ Below w.heap.size w w'
/-- A call that turns one. -/
def Turns (P : Program) {σ : Type} (At : A σ) (f : FuncId) (args : Array Value) (w : World) (p : Nat) (F : Nat → Prop) (s : σ) (v : Value) : Prop :=
  Calls P f args w fun e w' => e = .returned v ∧ ∃ F', At w' p F' s ∧ (∀ g, F' g → F g ∨ w.heap.size ≤ g) ∧ Kept F w w'
/-- A call that only looks. -/
def Looks (P : Program) (f : FuncId) (args : Array Value) (w : World) (v : Value) : Prop := Calls P f args w fun e w' => e = .returned v ∧ Below w.heap.size w w'
def Own {σ : Type} (At : A σ) (B : Nat) (w : World) (p : Nat) (s : σ) : Prop := ∃ F, At w p F s ∧ ∀ g, F g → B ≤ g
def Two {σ τ : Type} (At : A σ) (Bt : A τ) (B : Nat) (w : World) (p : Nat) (s : σ) (q : Nat) (t : τ) : Prop :=
  ∃ F G, At w p F s ∧ Bt w q G t ∧ (∀ g, F g → ¬ G g) ∧ (∀ g, F g → B ≤ g) ∧ (∀ g, G g → B ≤ g)
section
variable {P : Program} {σ τ : Type} {At : A σ} {Bt : A τ} {B : Nat} {w w' : World} {p q : Nat} {s s' : σ} {t t' : τ} {f : FuncId} {args : Array Value} {v : Value}
theorem Own.on (O : Is At) (h : Own At B w p s) (hb : Below w.heap.size w w') : Own At B w' p s := by
  obtain ⟨F, h1, h2⟩ := h
  exact ⟨F, O.on h1 (fun g hg => hb.block g (O.lt h1 g hg)), h2⟩
theorem Two.on (O : Is At) (O2 : Is Bt) (h : Two At Bt B w p s q t) (hb : Below w.heap.size w w') : Two At Bt B w' p s q t := by
  obtain ⟨F, G, h1, h2, h3, h4, h5⟩ := h
  exact ⟨F, G, O.on h1 (fun g hg => hb.block g (O.lt h1 g hg)), O2.on h2 (fun g hg => hb.block g (O2.lt h2 g hg)), h3, h4, h5⟩
theorem Two.swap (h : Two At Bt B w p s q t) : Two Bt At B w q t p s := by
  obtain ⟨F, G, h1, h2, h3, h4, h5⟩ := h
  exact ⟨G, F, h2, h1, fun g hg hf => h3 g hf hg, h5, h4⟩
theorem Two.fst (h : Two At Bt B w p s q t) : Own At B w p s := by
  obtain ⟨F, G, h1, h2, h3, h4, h5⟩ := h
  exact ⟨F, h1, h4⟩
theorem Two.snd (h : Two At Bt B w p s q t) : Own Bt B w q t := h.swap.fst
theorem own_new (c : Makes P At f args w s) (hB : B ≤ w.heap.size) : Calls P f args w fun e w' => ∃ p, e = .returned (ptr p) ∧ Own At B w' p s ∧ Below B w w' :=
  c.mono fun e w' ⟨p, F, he, hA, hF, hb⟩ => ⟨p, he, ⟨F, hA, fun g hg => Nat.le_trans hB (hF g hg)⟩, hb.mono hB⟩
theorem own_turn (c : ∀ F, At w p F s → Turns P At f args w p F s' v) (h : Own At B w p s) (hB : B ≤ w.heap.size) : Calls P f args w fun e w' => e = .returned v ∧ Own At B w' p s' ∧ Below B w w' := by
  obtain ⟨F, h1, h2⟩ := h
  exact (c F h1).mono fun e w' ⟨he, F', hA, hs, hk⟩ => ⟨he, ⟨F', hA, fun g hg => (hs g hg).elim (h2 g) (Nat.le_trans hB)⟩, hk.below h2 hB⟩
theorem own_look (O : Is At) (c : ∀ F, At w p F s → Looks P f args w v) (h : Own At B w p s) (hB : B ≤ w.heap.size) : Calls P f args w fun e w' => e = .returned v ∧ Own At B w' p s ∧ Below B w w' := by
  have h' := h
  obtain ⟨F, h1, h2⟩ := h
  exact (c F h1).mono fun e w' ⟨he, hb⟩ => ⟨he, h'.on O hb, hb.mono hB⟩
/-- A second one, made apart from the first. -/
theorem two_new (O : Is At) (c : Makes P Bt f args w t) (h : Own At B w p s) (hB : B ≤ w.heap.size) : Calls P f args w fun e w' => ∃ q, e = .returned (ptr q) ∧ Two At Bt B w' p s q t ∧ Below B w w' := by
  obtain ⟨F, h1, h2⟩ := h
  exact c.mono fun e w' ⟨q, G, he, hA, hG, hb⟩ => ⟨q, he, ⟨F, G, O.on h1 (fun g hg => hb.block g (O.lt h1 g hg)), hA, fun g hf hg => by have := O.lt h1 g hf; have := hG g hg; omega, h2, fun g hg => Nat.le_trans hB (hG g hg)⟩, hb.mono hB⟩
/-- A copy, made of the first and apart from it. -/
theorem own_copy (O : Is At) (c : ∀ F, At w p F s → Makes P At f args w s') (h : Own At B w p s) (hB : B ≤ w.heap.size) : Calls P f args w fun e w' => ∃ q, e = .returned (ptr q) ∧ Two At At B w' p s q s' ∧ Below B w w' := by
  have h' := h
  obtain ⟨F, h1, h2⟩ := h
  exact two_new O (c F h1) h' hB
theorem two_turn (O2 : Is Bt) (c : ∀ F, At w p F s → Turns P At f args w p F s' v) (h : Two At Bt B w p s q t) (hB : B ≤ w.heap.size) : Calls P f args w fun e w' => e = .returned v ∧ Two At Bt B w' p s' q t ∧ Below B w w' := by
  obtain ⟨F, G, h1, h2, h3, h4, h5⟩ := h
  refine (c F h1).mono fun e w' ⟨he, F', hA, hs, hk⟩ => ⟨he, ⟨F', G, hA, O2.on h2 (fun g hg => hk.block g (O2.lt h2 g hg) (fun k => h3 g k hg)), fun g hf hg => ?_, fun g hg => (hs g hg).elim (h4 g) (Nat.le_trans hB), h5⟩, hk.below h4 hB⟩
  exact (hs g hf).elim (fun k => h3 g k hg) (fun k => by have := O2.lt h2 g hg; omega)
theorem two_turn2 (O : Is At) (c : ∀ F, Bt w q F t → Turns P Bt f args w q F t' v) (h : Two At Bt B w p s q t) (hB : B ≤ w.heap.size) : Calls P f args w fun e w' => e = .returned v ∧ Two At Bt B w' p s q t' ∧ Below B w w' :=
  (two_turn O c h.swap hB).mono fun e w' ⟨he, h, hb⟩ => ⟨he, h.swap, hb⟩
theorem two_look (O : Is At) (O2 : Is Bt) (c : ∀ F, At w p F s → Looks P f args w v) (h : Two At Bt B w p s q t) (hB : B ≤ w.heap.size) : Calls P f args w fun e w' => e = .returned v ∧ Two At Bt B w' p s q t ∧ Below B w w' := by
  have h' := h
  obtain ⟨F, G, h1, h2, h3, h4, h5⟩ := h
  exact (c F h1).mono fun e w' ⟨he, hb⟩ => ⟨he, h'.on O O2 hb, hb.mono hB⟩
theorem two_look2 (O : Is At) (O2 : Is Bt) (c : ∀ F, Bt w q F t → Looks P f args w v) (h : Two At Bt B w p s q t) (hB : B ≤ w.heap.size) : Calls P f args w fun e w' => e = .returned v ∧ Two At Bt B w' p s q t ∧ Below B w w' :=
  (two_look O2 O c h.swap hB).mono fun e w' ⟨he, h, hb⟩ => ⟨he, h.swap, hb⟩
/-- Three apart: the third one is a thing of its own. -/
def Three {υ : Type} (At : A σ) (Bt : A τ) (Ct : A υ) (B : Nat) (w : World) (p : Nat) (s : σ) (q : Nat) (t : τ) (r : Nat) (u : υ) : Prop :=
  ∃ F G H, At w p F s ∧ Bt w q G t ∧ Ct w r H u ∧ (∀ g, F g → ¬ G g) ∧ (∀ g, H g → ¬ F g) ∧ (∀ g, H g → ¬ G g) ∧ (∀ g, F g → B ≤ g) ∧ (∀ g, G g → B ≤ g) ∧ (∀ g, H g → B ≤ g)
theorem Three.pair {υ : Type} {Ct : A υ} {r : Nat} {u : υ} (h : Three At Bt Ct B w p s q t r u) : Two At Bt B w p s q t := by
  obtain ⟨F, G, H, h1, h2, h3, d1, d2, d3, b1, b2, b3⟩ := h
  exact ⟨F, G, h1, h2, d1, b1, b2⟩
theorem three_copy (O : Is At) (O2 : Is Bt) (c : ∀ F, At w p F s → Makes P At f args w s') (h : Two At Bt B w p s q t) (hB : B ≤ w.heap.size) : Calls P f args w fun e w' => ∃ r, e = .returned (ptr r) ∧ Three At Bt At B w' p s q t r s' ∧ Below B w w' := by
  obtain ⟨F, G, h1, h2, h3, h4, h5⟩ := h
  exact (c F h1).mono fun e w' ⟨r, H, he, hA, hH, hb⟩ => ⟨r, he, ⟨F, G, H, O.on h1 (fun g hg => hb.block g (O.lt h1 g hg)), O2.on h2 (fun g hg => hb.block g (O2.lt h2 g hg)), hA, h3, fun g hh hf => by have := O.lt h1 g hf; have := hH g hh; omega, fun g hh hg => by have := O2.lt h2 g hg; have := hH g hh; omega, h4, h5, fun g hg => Nat.le_trans hB (hH g hg)⟩, hb.mono hB⟩
theorem three_turn3 {υ : Type} {Ct : A υ} {r : Nat} {u u' : υ} (O : Is At) (O2 : Is Bt) (c : ∀ F, Ct w r F u → Turns P Ct f args w r F u' v) (h : Three At Bt Ct B w p s q t r u) (hB : B ≤ w.heap.size) : Calls P f args w fun e w' => e = .returned v ∧ Three At Bt Ct B w' p s q t r u' ∧ Below B w w' := by
  obtain ⟨F, G, H, h1, h2, h3, d1, d2, d3, b1, b2, b3⟩ := h
  refine (c H h3).mono fun e w' ⟨he, H', hA, hs, hk⟩ => ⟨he, ⟨F, G, H', O.on h1 (fun g hg => hk.block g (O.lt h1 g hg) (fun k => d2 g k hg)), O2.on h2 (fun g hg => hk.block g (O2.lt h2 g hg) (fun k => d3 g k hg)), hA, d1, fun g hh hf => ?_, fun g hh hg => ?_, b1, b2, fun g hg => (hs g hg).elim (b3 g) (Nat.le_trans hB)⟩, hk.below b3 hB⟩
  · exact (hs g hh).elim (fun k => d2 g k hf) (fun k => by have := O.lt h1 g hf; omega)
  · exact (hs g hh).elim (fun k => d3 g k hg) (fun k => by have := O2.lt h2 g hg; omega)
theorem three_turn {υ : Type} {Ct : A υ} {r : Nat} {u : υ} (O2 : Is Bt) (O3 : Is Ct) (c : ∀ F, At w p F s → Turns P At f args w p F s' v) (h : Three At Bt Ct B w p s q t r u) (hB : B ≤ w.heap.size) : Calls P f args w fun e w' => e = .returned v ∧ Three At Bt Ct B w' p s' q t r u ∧ Below B w w' := by
  obtain ⟨F, G, H, h1, h2, h3, d1, d2, d3, b1, b2, b3⟩ := h
  refine (c F h1).mono fun e w' ⟨he, F', hA, hs, hk⟩ => ⟨he, ⟨F', G, H, hA, O2.on h2 (fun g hg => hk.block g (O2.lt h2 g hg) (fun k => d1 g k hg)), O3.on h3 (fun g hg => hk.block g (O3.lt h3 g hg) (fun k => d2 g hg k)), fun g hf hg => ?_, fun g hh hf => ?_, d3, fun g hg => (hs g hg).elim (b1 g) (Nat.le_trans hB), b2, b3⟩, hk.below b1 hB⟩
  · exact (hs g hf).elim (fun k => d1 g k hg) (fun k => by have := O2.lt h2 g hg; omega)
  · exact (hs g hf).elim (fun k => d2 g hh k) (fun k => by have := O3.lt h3 g hh; omega)
theorem three_turn2 {υ : Type} {Ct : A υ} {r : Nat} {u : υ} (O : Is At) (O3 : Is Ct) (c : ∀ F, Bt w q F t → Turns P Bt f args w q F t' v) (h : Three At Bt Ct B w p s q t r u) (hB : B ≤ w.heap.size) : Calls P f args w fun e w' => e = .returned v ∧ Three At Bt Ct B w' p s q t' r u ∧ Below B w w' := by
  obtain ⟨F, G, H, h1, h2, h3, d1, d2, d3, b1, b2, b3⟩ := h
  have h' : Three Bt At Ct B w q t p s r u := ⟨G, F, H, h2, h1, h3, fun g hg hf => d1 g hf hg, d3, d2, b2, b1, b3⟩
  refine (three_turn O O3 c h' hB).mono fun e w' ⟨he, h, hb⟩ => ⟨he, ?_, hb⟩
  obtain ⟨F, G, H, h1, h2, h3, d1, d2, d3, b1, b2, b3⟩ := h
  exact ⟨G, F, H, h2, h1, h3, fun g hg hf => d1 g hf hg, d3, d2, b2, b1, b3⟩
end
end Go.Proofs.YtnbfnipdiffphaaDoor.Ob
