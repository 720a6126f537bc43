/- Objects apart, one, two or three of whatever kinds, and blocks beside them that stay: what calls make of them. Nothing of the program is in it. -/
import Derived.Test.YtnbfnipdiffphaaDoorOb
import Derived.Test.YtnbfnipdiffphaaDoorRg
import Derived.Test.YtnbfnipdiffphaaDoorMv
import Derived.OpenShut
namespace Go.Proofs.YtnbfnipdiffphaaDoor.Oq
open Go.RowKit Ob
set_option linter.unusedVariables false
abbrev Rs := List (Nat × Obj)
def Rows (R : Rs) (w : World) : Prop := ∀ x ∈ R, w.heap[x.1]? = some x.2
theorem Rows.more {R R' : Rs} {w : World} (h : Rows R' w) (hs : ∀ x ∈ R, x ∈ R') : Rows R w := fun x hx => h x (hs x hx)
/-- A list that lies in blocks that stay. -/
def Lst (R : Rs) (a : Option Addr) (c n : Nat) (C : List Value) : Prop :=
  n ≤ c ∧ c ≤ maxLen ∧ (n = 0 ∨ ∃ g o b, a = some ⟨g, o, none⟩ ∧ (g, b) ∈ R ∧ ∀ w : World, w.heap[g]? = some b → ∀ k v, C[k]? = some v → w.cell? ⟨g, o + k, none⟩ = some v)
theorem Lst.more {R R' : Rs} {a : Option Addr} {c n : Nat} {C : List Value} (h : Lst R a c n C) (hs : ∀ x ∈ R, x ∈ R') : Lst R' a c n C := by
  refine ⟨h.1, h.2.1, ?_⟩
  rcases h.2.2 with h0 | ⟨g, o, b, h1, h2, h3⟩
  · exact Or.inl h0
  · exact Or.inr ⟨g, o, b, h1, hs _ h2, h3⟩
theorem Lst.li {R : Rs} {w : World} {a : Option Addr} {c n : Nat} {C : List Value} (h : Lst R a c n C) (hr : Rows R w) : LI w a c n C := by
  refine ⟨h.1, h.2.1, ?_⟩
  rcases h.2.2 with h0 | ⟨g, o, b, h1, h2, h3⟩
  · exact Or.inl h0
  · exact Or.inr ⟨g, o, h1, (Array.getElem?_eq_some_iff.1 (hr _ h2)).1, h3 w (hr _ h2)⟩
theorem cell_same {w w' : World} {g k : Nat} (h : w'.heap[g]? = w.heap[g]?) : w'.cell? ⟨g, k, none⟩ = w.cell? ⟨g, k, none⟩ := by
  unfold World.cell?
  dsimp only
  rw [h]
theorem Lst.of {w : World} {a : Option Addr} {c n : Nat} {C : List Value} (h : LI w a c n C) : ∃ R : Rs, Lst R a c n C ∧ ∀ x ∈ R, w.heap[x.1]? = some x.2 ∧ ∃ o, 0 < n ∧ a = some ⟨x.1, o, none⟩ := by
  by_cases h0 : n = 0
  · exact ⟨[], ⟨h.1, h.2.1, Or.inl h0⟩, fun x hx => by cases hx⟩
  · rcases h.2.2 with k0 | ⟨g, o, h1, h2, h3⟩
    · exact absurd k0 h0
    · refine ⟨[(g, w.heap[g])], ⟨h.1, h.2.1, Or.inr ⟨g, o, w.heap[g], h1, List.mem_singleton.2 rfl, fun w' hw k v hk => ?_⟩⟩, fun x hx => ?_⟩
      · rw [cell_same (w := w) (hw.trans (Array.getElem?_eq_getElem h2).symm)]
        exact h3 k v hk
      · rw [List.mem_singleton.1 hx]
        exact ⟨Array.getElem?_eq_getElem h2, o, by omega, h1⟩
section
variable {P : Program} {σ τ υ : Type} {At : A σ} {Bt : A τ} {Ct : A υ} {W w w' : World} {p q r : Nat} {s s' : σ} {t t' : τ} {u u' : υ} {R R' : Rs} {f : FuncId} {args : Array Value} {v : Value}
def O1 (At : A σ) (W w : World) (p : Nat) (s : σ) (R : Rs) : Prop := ∃ F, At w p F s ∧ (∀ g, F g → W.heap.size ≤ g) ∧ Below W.heap.size W w ∧ ∀ x ∈ R, w.heap[x.1]? = some x.2 ∧ ¬ F x.1
def O2 (At : A σ) (Bt : A τ) (W w : World) (p : Nat) (s : σ) (q : Nat) (t : τ) (R : Rs) : Prop :=
  ∃ F G, At w p F s ∧ Bt w q G t ∧ (∀ g, F g → W.heap.size ≤ g) ∧ (∀ g, G g → W.heap.size ≤ g) ∧ (∀ g, F g → ¬ G g) ∧ Below W.heap.size W w ∧ ∀ x ∈ R, w.heap[x.1]? = some x.2 ∧ ¬ F x.1 ∧ ¬ G x.1
def O3 (At : A σ) (Bt : A τ) (Ct : A υ) (W w : World) (p : Nat) (s : σ) (q : Nat) (t : τ) (r : Nat) (u : υ) (R : Rs) : Prop :=
  ∃ F G H, At w p F s ∧ Bt w q G t ∧ Ct w r H u ∧ (∀ g, F g → W.heap.size ≤ g) ∧ (∀ g, G g → W.heap.size ≤ g) ∧ (∀ g, H g → W.heap.size ≤ g) ∧ (∀ g, F g → ¬ G g) ∧ (∀ g, F g → ¬ H g) ∧ (∀ g, G g → ¬ H g) ∧ Below W.heap.size W w ∧ ∀ x ∈ R, w.heap[x.1]? = some x.2 ∧ ¬ F x.1 ∧ ¬ G x.1 ∧ ¬ H x.1
theorem O1.bel (h : O1 At W w p s R) : Below W.heap.size W w := by obtain ⟨F, _, _, hb, _⟩ := h; exact hb
theorem O2.bel (h : O2 At Bt W w p s q t R) : Below W.heap.size W w := by obtain ⟨F, G, _, _, _, _, _, hb, _⟩ := h; exact hb
theorem O3.bel (h : O3 At Bt Ct W w p s q t r u R) : Below W.heap.size W w := by obtain ⟨F, G, H, _, _, _, _, _, _, _, _, _, hb, _⟩ := h; exact hb
theorem O1.rows (h : O1 At W w p s R) : Rows R w := by obtain ⟨F, _, _, _, hr⟩ := h; exact fun x hx => (hr x hx).1
theorem O2.rows (h : O2 At Bt W w p s q t R) : Rows R w := by obtain ⟨F, G, _, _, _, _, _, _, hr⟩ := h; exact fun x hx => (hr x hx).1
theorem O3.rows (h : O3 At Bt Ct W w p s q t r u R) : Rows R w := by obtain ⟨F, G, H, _, _, _, _, _, _, _, _, _, _, hr⟩ := h; exact fun x hx => (hr x hx).1
theorem O1.less (h : O1 At W w p s R) (hs : ∀ x ∈ R', x ∈ R) : O1 At W w p s R' := by
  obtain ⟨F, h1, h2, h3, h4⟩ := h
  exact ⟨F, h1, h2, h3, fun x hx => h4 x (hs x hx)⟩
theorem O2.less (h : O2 At Bt W w p s q t R) (hs : ∀ x ∈ R', x ∈ R) : O2 At Bt W w p s q t R' := by
  obtain ⟨F, G, h1, h2, b1, b2, d, hw, hr⟩ := h
  exact ⟨F, G, h1, h2, b1, b2, d, hw, fun x hx => hr x (hs x hx)⟩
theorem O3.less (h : O3 At Bt Ct W w p s q t r u R) (hs : ∀ x ∈ R', x ∈ R) : O3 At Bt Ct W w p s q t r u R' := by
  obtain ⟨F, G, H, h1, h2, h3, b1, b2, b3, d1, d2, d3, hw, hr⟩ := h
  exact ⟨F, G, H, h1, h2, h3, b1, b2, b3, d1, d2, d3, hw, fun x hx => hr x (hs x hx)⟩
theorem O1.on (O : Is At) (h : O1 At W w p s R) (hb : Below w.heap.size w w') : O1 At W w' p s R := by
  obtain ⟨F, h1, h2, h3, h4⟩ := h
  refine ⟨F, O.on h1 (fun g hg => hb.block g (O.lt h1 g hg)), h2, h3.trans (hb.mono h3.size), fun x hx => ⟨?_, (h4 x hx).2⟩⟩
  rw [hb.block _ (Array.getElem?_eq_some_iff.1 (h4 x hx).1).1]
  exact (h4 x hx).1
theorem O2.on (O : Is At) (O' : Is Bt) (h : O2 At Bt W w p s q t R) (hb : Below w.heap.size w w') : O2 At Bt W w' p s q t R := by
  obtain ⟨F, G, h1, h2, b1, b2, d, hw, hr⟩ := h
  refine ⟨F, G, O.on h1 (fun g hg => hb.block g (O.lt h1 g hg)), O'.on h2 (fun g hg => hb.block g (O'.lt h2 g hg)), b1, b2, d, hw.trans (hb.mono hw.size), fun x hx => ⟨?_, (hr x hx).2⟩⟩
  rw [hb.block _ (Array.getElem?_eq_some_iff.1 (hr x hx).1).1]
  exact (hr x hx).1
theorem O3.on (O : Is At) (O' : Is Bt) (O'' : Is Ct) (h : O3 At Bt Ct W w p s q t r u R) (hb : Below w.heap.size w w') : O3 At Bt Ct W w' p s q t r u R := by
  obtain ⟨F, G, H, h1, h2, h3, b1, b2, b3, d1, d2, d3, hw, hr⟩ := h
  refine ⟨F, G, H, O.on h1 (fun g hg => hb.block g (O.lt h1 g hg)), O'.on h2 (fun g hg => hb.block g (O'.lt h2 g hg)), O''.on h3 (fun g hg => hb.block g (O''.lt h3 g hg)), b1, b2, b3, d1, d2, d3, hw.trans (hb.mono hw.size), fun x hx => ⟨?_, (hr x hx).2⟩⟩
  rw [hb.block _ (Array.getElem?_eq_some_iff.1 (hr x hx).1).1]
  exact (hr x hx).1
theorem O1.al (O : Is At) (h : O1 At W w p s R) (o : Obj) : O1 At W (w.alloc o) p s ((w.heap.size, o) :: R) := by
  have hb : Below w.heap.size w (w.alloc o) := (Below.refl _ _).alloc (Nat.le_refl _) _
  have h' := (h.on O hb).rows
  obtain ⟨F, h1, h2, h3, h4⟩ := h
  refine ⟨F, O.on h1 (fun g hg => hb.block g (O.lt h1 g hg)), h2, h3.trans (hb.mono h3.size), fun x hx => ?_⟩
  rcases List.mem_cons.1 hx with rfl | hx
  · exact ⟨heap_alloc_new w o, fun hf => Nat.lt_irrefl _ (O.lt h1 _ hf)⟩
  · exact ⟨h' x hx, (h4 x hx).2⟩
theorem O2.al (O : Is At) (O' : Is Bt) (h : O2 At Bt W w p s q t R) (o : Obj) : O2 At Bt W (w.alloc o) p s q t ((w.heap.size, o) :: R) := by
  have hb : Below w.heap.size w (w.alloc o) := (Below.refl _ _).alloc (Nat.le_refl _) _
  have h' := (h.on O O' hb).rows
  obtain ⟨F, G, h1, h2, b1, b2, d, hw, hr⟩ := h
  refine ⟨F, G, O.on h1 (fun g hg => hb.block g (O.lt h1 g hg)), O'.on h2 (fun g hg => hb.block g (O'.lt h2 g hg)), b1, b2, d, hw.trans (hb.mono hw.size), fun x hx => ?_⟩
  rcases List.mem_cons.1 hx with rfl | hx
  · exact ⟨heap_alloc_new w o, fun hf => Nat.lt_irrefl _ (O.lt h1 _ hf), fun hf => Nat.lt_irrefl _ (O'.lt h2 _ hf)⟩
  · exact ⟨h' x hx, (hr x hx).2⟩
theorem O3.al (O : Is At) (O' : Is Bt) (O'' : Is Ct) (h : O3 At Bt Ct W w p s q t r u R) (o : Obj) : O3 At Bt Ct W (w.alloc o) p s q t r u ((w.heap.size, o) :: R) := by
  have hb : Below w.heap.size w (w.alloc o) := (Below.refl _ _).alloc (Nat.le_refl _) _
  have h' := (h.on O O' O'' hb).rows
  obtain ⟨F, G, H, h1, h2, h3, b1, b2, b3, d1, d2, d3, hw, hr⟩ := h
  refine ⟨F, G, H, O.on h1 (fun g hg => hb.block g (O.lt h1 g hg)), O'.on h2 (fun g hg => hb.block g (O'.lt h2 g hg)), O''.on h3 (fun g hg => hb.block g (O''.lt h3 g hg)), b1, b2, b3, d1, d2, d3, hw.trans (hb.mono hw.size), fun x hx => ?_⟩
  rcases List.mem_cons.1 hx with rfl | hx
  · exact ⟨heap_alloc_new w o, fun hf => Nat.lt_irrefl _ (O.lt h1 _ hf), fun hf => Nat.lt_irrefl _ (O'.lt h2 _ hf), fun hf => Nat.lt_irrefl _ (O''.lt h3 _ hf)⟩
  · exact ⟨h' x hx, (hr x hx).2⟩
/-- Made. -/
theorem O1.make (c : Makes P At f args w s) (hb0 : Below W.heap.size W w) : Calls P f args w fun e w' => ∃ p, e = .returned (ptr p) ∧ O1 At W w' p s [] :=
  c.mono fun e w' ⟨p, F, he, hA, hF, hb⟩ => ⟨p, he, F, hA, fun g hg => Nat.le_trans hb0.size (hF g hg), hb0.trans (hb.mono hb0.size), fun x hx => by cases hx⟩
theorem O1.make2 (O : Is At) (c : ∀ F, At w p F s → Makes P Bt f args w t) (h : O1 At W w p s R) : Calls P f args w fun e w' => ∃ q, e = .returned (ptr q) ∧ O2 At Bt W w' p s q t R := by
  obtain ⟨F, h1, h2, h3, h4⟩ := h
  refine (c F h1).mono ?_
  rintro e w' ⟨q, G, rfl, hA, hG, hb⟩
  refine ⟨q, rfl, F, G, O.on h1 (fun g hg => hb.block g (O.lt h1 g hg)), hA, h2, fun g hg => Nat.le_trans h3.size (hG g hg), fun g hf hg => by have := O.lt h1 g hf; have := hG g hg; omega, h3.trans (hb.mono h3.size), fun x hx => ?_⟩
  obtain ⟨r1, r2⟩ := h4 x hx
  have hl := (Array.getElem?_eq_some_iff.1 r1).1
  exact ⟨(hb.block _ hl).trans r1, r2, fun hg => by have := hG _ hg; omega⟩
theorem O2.make3 (O : Is At) (O' : Is Bt) (c : ∀ F, At w p F s → Makes P Ct f args w u) (h : O2 At Bt W w p s q t R) : Calls P f args w fun e w' => ∃ r, e = .returned (ptr r) ∧ O3 At Bt Ct W w' p s q t r u R := by
  obtain ⟨F, G, h1, h2, b1, b2, d, hw, hr⟩ := h
  refine (c F h1).mono ?_
  rintro e w' ⟨r, H, rfl, hA, hH, hb⟩
  refine ⟨r, rfl, F, G, H, O.on h1 (fun g hg => hb.block g (O.lt h1 g hg)), O'.on h2 (fun g hg => hb.block g (O'.lt h2 g hg)), hA, b1, b2, fun g hg => Nat.le_trans hw.size (hH g hg), d, fun g hf hg => by have := O.lt h1 g hf; have := hH g hg; omega, fun g hf hg => by have := O'.lt h2 g hf; have := hH g hg; omega, hw.trans (hb.mono hw.size), fun x hx => ?_⟩
  obtain ⟨r1, r2, r3⟩ := hr x hx
  have hl := (Array.getElem?_eq_some_iff.1 r1).1
  exact ⟨(hb.block _ hl).trans r1, r2, r3, fun hg => by have := hH _ hg; omega⟩
/-- Turned. -/
theorem O1.turn (c : ∀ F, At w p F s → Turns P At f args w p F s' v) (h : O1 At W w p s R) : Calls P f args w fun e w' => e = .returned v ∧ O1 At W w' p s' R := by
  obtain ⟨F, h1, h2, h3, h4⟩ := h
  refine (c F h1).mono fun e w' ⟨he, F', hA, hs, hk⟩ => ⟨he, F', hA, fun g hg => (hs g hg).elim (h2 g) (Nat.le_trans h3.size), h3.trans (hk.below h2 h3.size), fun x hx => ?_⟩
  obtain ⟨r1, r2⟩ := h4 x hx
  have hl := (Array.getElem?_eq_some_iff.1 r1).1
  exact ⟨(hk.block _ hl r2).trans r1, fun hf => (hs _ hf).elim r2 (fun k => by omega)⟩
theorem O2.turn (O' : Is Bt) (c : ∀ F, At w p F s → Turns P At f args w p F s' v) (h : O2 At Bt W w p s q t R) : Calls P f args w fun e w' => e = .returned v ∧ O2 At Bt W w' p s' q t R := by
  obtain ⟨F, G, h1, h2, b1, b2, d, hw, hr⟩ := h
  refine (c F h1).mono fun e w' ⟨he, F', hA, hs, hk⟩ => ⟨he, F', G, hA, O'.on h2 (fun g hg => hk.block g (O'.lt h2 g hg) (fun hf => d g hf hg)), fun g hg => (hs g hg).elim (b1 g) (Nat.le_trans hw.size), b2, fun g hf hg => (hs g hf).elim (fun k => d g k hg) (fun k => by have := O'.lt h2 g hg; omega), hw.trans (hk.below b1 hw.size), fun x hx => ?_⟩
  obtain ⟨r1, r2, r3⟩ := hr x hx
  have hl := (Array.getElem?_eq_some_iff.1 r1).1
  exact ⟨(hk.block _ hl r2).trans r1, fun hf => (hs _ hf).elim r2 (fun k => by omega), r3⟩
theorem O3.turn (O' : Is Bt) (O'' : Is Ct) (c : ∀ F, At w p F s → Turns P At f args w p F s' v) (h : O3 At Bt Ct W w p s q t r u R) : Calls P f args w fun e w' => e = .returned v ∧ O3 At Bt Ct W w' p s' q t r u R := by
  obtain ⟨F, G, H, h1, h2, h3, b1, b2, b3, d1, d2, d3, hw, hr⟩ := h
  refine (c F h1).mono fun e w' ⟨he, F', hA, hs, hk⟩ => ⟨he, F', G, H, hA, O'.on h2 (fun g hg => hk.block g (O'.lt h2 g hg) (fun hf => d1 g hf hg)), O''.on h3 (fun g hg => hk.block g (O''.lt h3 g hg) (fun hf => d2 g hf hg)), fun g hg => (hs g hg).elim (b1 g) (Nat.le_trans hw.size), b2, b3, fun g hf hg => (hs g hf).elim (fun k => d1 g k hg) (fun k => by have := O'.lt h2 g hg; omega), fun g hf hg => (hs g hf).elim (fun k => d2 g k hg) (fun k => by have := O''.lt h3 g hg; omega), d3, hw.trans (hk.below b1 hw.size), fun x hx => ?_⟩
  obtain ⟨r1, r2, r3⟩ := hr x hx
  have hl := (Array.getElem?_eq_some_iff.1 r1).1
  exact ⟨(hk.block _ hl r2).trans r1, fun hf => (hs _ hf).elim r2 (fun k => by omega), r3⟩
theorem O2.swap (h : O2 At Bt W w p s q t R) : O2 Bt At W w q t p s R := by
  obtain ⟨F, G, h1, h2, b1, b2, d, hw, hr⟩ := h
  exact ⟨G, F, h2, h1, b2, b1, fun g hg hf => d g hf hg, hw, fun x hx => ⟨(hr x hx).1, (hr x hx).2.2, (hr x hx).2.1⟩⟩
/-- The second ahead, then the third, then the first. -/
theorem O3.rot (h : O3 At Bt Ct W w p s q t r u R) : O3 Bt Ct At W w q t r u p s R := by
  obtain ⟨F, G, H, h1, h2, h3, b1, b2, b3, d1, d2, d3, hw, hr⟩ := h
  exact ⟨G, H, F, h2, h3, h1, b2, b3, b1, d3, fun g hg hf => d1 g hf hg, fun g hg hf => d2 g hf hg, hw, fun x hx => ⟨(hr x hx).1, (hr x hx).2.2.1, (hr x hx).2.2.2, (hr x hx).2.1⟩⟩
theorem O2.turn2 (O : Is At) (c : ∀ F, Bt w q F t → Turns P Bt f args w q F t' v) (h : O2 At Bt W w p s q t R) : Calls P f args w fun e w' => e = .returned v ∧ O2 At Bt W w' p s q t' R :=
  (h.swap.turn O c).mono fun e w' ⟨he, h⟩ => ⟨he, h.swap⟩
theorem O3.turn2 (O : Is At) (O'' : Is Ct) (c : ∀ F, Bt w q F t → Turns P Bt f args w q F t' v) (h : O3 At Bt Ct W w p s q t r u R) : Calls P f args w fun e w' => e = .returned v ∧ O3 At Bt Ct W w' p s q t' r u R :=
  (h.rot.turn O'' O c).mono fun e w' ⟨he, h⟩ => ⟨he, h.rot.rot⟩
theorem O3.turn3 (O : Is At) (O' : Is Bt) (c : ∀ F, Ct w r F u → Turns P Ct f args w r F u' v) (h : O3 At Bt Ct W w p s q t r u R) : Calls P f args w fun e w' => e = .returned v ∧ O3 At Bt Ct W w' p s q t r u' R :=
  (h.rot.rot.turn O O' c).mono fun e w' ⟨he, h⟩ => ⟨he, h.rot⟩
/-- Let go. -/
theorem O2.fst (h : O2 At Bt W w p s q t R) : O1 At W w p s R := by
  obtain ⟨F, G, h1, h2, b1, b2, d, hw, hr⟩ := h
  exact ⟨F, h1, b1, hw, fun x hx => ⟨(hr x hx).1, (hr x hx).2.1⟩⟩
theorem O3.drop (h : O3 At Bt Ct W w p s q t r u R) : O2 At Bt W w p s q t R := by
  obtain ⟨F, G, H, h1, h2, h3, b1, b2, b3, d1, d2, d3, hw, hr⟩ := h
  exact ⟨F, G, h1, h2, b1, b2, d1, hw, fun x hx => ⟨(hr x hx).1, (hr x hx).2.1, (hr x hx).2.2.1⟩⟩
/-- Only looked at. -/
theorem O1.look (O : Is At) (c : ∀ F, At w p F s → Looks P f args w v) (h : O1 At W w p s R) : Calls P f args w fun e w' => e = .returned v ∧ O1 At W w' p s R := by
  have h' := h
  obtain ⟨F, h1, _⟩ := h
  exact (c F h1).mono fun e w' ⟨he, hb⟩ => ⟨he, h'.on O hb⟩
theorem O2.look (O : Is At) (O' : Is Bt) (c : ∀ F, At w p F s → Looks P f args w v) (h : O2 At Bt W w p s q t R) : Calls P f args w fun e w' => e = .returned v ∧ O2 At Bt W w' p s q t R := by
  have h' := h
  obtain ⟨F, G, h1, _⟩ := h
  exact (c F h1).mono fun e w' ⟨he, hb⟩ => ⟨he, h'.on O O' hb⟩
theorem O2.look2 (O : Is At) (O' : Is Bt) (c : ∀ F, Bt w q F t → Looks P f args w v) (h : O2 At Bt W w p s q t R) : Calls P f args w fun e w' => e = .returned v ∧ O2 At Bt W w' p s q t R :=
  (h.swap.look O' O c).mono fun e w' ⟨he, h⟩ => ⟨he, h.swap⟩
theorem O3.look (O : Is At) (O' : Is Bt) (O'' : Is Ct) (c : ∀ F, At w p F s → Looks P f args w v) (h : O3 At Bt Ct W w p s q t r u R) : Calls P f args w fun e w' => e = .returned v ∧ O3 At Bt Ct W w' p s q t r u R := by
  have h' := h
  obtain ⟨F, G, H, h1, _⟩ := h
  exact (c F h1).mono fun e w' ⟨he, hb⟩ => ⟨he, h'.on O O' O'' hb⟩
/-- A list told, new; the object only looked at. -/
def Tells (P : Program) (f : FuncId) (args : Array Value) (w : World) (n : Nat) (C : List Value) : Prop := Calls P f args w fun e w' => ∃ a c, e = .returned (.slice a n c) ∧ LI w' a c n C ∧ (∀ g o, 0 < n → a = some ⟨g, o, none⟩ → w.heap.size ≤ g) ∧ Below w.heap.size w w'
theorem O1.list (O : Is At) {n : Nat} {C : List Value} (c : ∀ F, At w p F s → Tells P f args w n C) (h : O1 At W w p s R) : Calls P f args w fun e w' => ∃ a c R', e = .returned (.slice a n c) ∧ Lst R' a c n C ∧ O1 At W w' p s (R' ++ R) := by
  have h' := h
  obtain ⟨F, h1, _⟩ := h
  refine (c F h1).mono ?_
  rintro e w' ⟨a, cp, rfl, hl, hn, hb⟩
  obtain ⟨R', hL, hR⟩ := Lst.of hl
  refine ⟨a, cp, R', rfl, hL, ?_⟩
  obtain ⟨F2, k1, k2, k3, k4⟩ := h'
  refine ⟨F2, O.on k1 (fun g hg => hb.block g (O.lt k1 g hg)), k2, k3.trans (hb.mono k3.size), fun x hx => ?_⟩
  rcases List.mem_append.1 hx with hx | hx
  · obtain ⟨r1, o, h0, ha⟩ := hR x hx
    exact ⟨r1, fun hf => by have := hn _ _ h0 ha; have := O.lt k1 _ hf; omega⟩
  · exact ⟨(hb.block _ (Array.getElem?_eq_some_iff.1 (k4 x hx).1).1).trans (k4 x hx).1, (k4 x hx).2⟩
end
theorem row_cell {w : World} {g k : Nat} {cs : Array Value} {T : TypeId} {v : Value} (h : w.heap[g]? = some (.cells cs T)) (hv : cs[k]? = some v) : w.cell? ⟨g, k, none⟩ = some v := RowT.c (T := T) h k v hv
end Go.Proofs.YtnbfnipdiffphaaDoor.Oq
