/- Objects that depend on rows that stay; lists that a call tells while it turns one. Nothing of the program is in it. -/
import Derived.Test.YtnbfnipdiffphaaDoorOq
import Derived.Test.YtnbfnipdiffphaaDoorSg
namespace Go.Proofs.YtnbfnipdiffphaaDoor.Oq
open Go.RowKit Ob
set_option linter.unusedVariables false
section
variable {P : Program} {σ τ υ : Type} {At : A σ} {Bt : A τ} {Ct : A υ} {W w w' : World} {p q r : Nat} {s s' : σ} {t t' : τ} {u u' : υ} {R R' : Rs} {f : FuncId} {args : Array Value} {v : Value}
/-- A call that turns one and tells a new list. -/
def TurnsL (P : Program) {σ : Type} (At : A σ) (f : FuncId) (args : Array Value) (w : World) (p : Nat) (F : Nat → Prop) (s : σ) (n : Nat) (C : List Value) : Prop :=
  Calls P f args w fun e w' => ∃ a c F', e = .returned (.slice a n c) ∧ LI w' a c n C ∧ (∀ g o, 0 < n → a = some ⟨g, o, none⟩ → w.heap.size ≤ g ∧ ¬ F' g) ∧ At w' p F' s ∧ (∀ g, F' g → F g ∨ w.heap.size ≤ g) ∧ Kept F w w'
/-- A call that makes one that depends on rows that stay, new ones or such as lay in V. -/
def MakesR (P : Program) {σ : Type} (At : Rs → A σ) (f : FuncId) (args : Array Value) (V w : World) (s : σ) : Prop :=
  Calls P f args w fun e w' => ∃ R p F, e = .returned (ptr p) ∧ Rows R w' ∧ (∀ x ∈ R, ¬ F x.1) ∧ At R w' p F s ∧ (∀ g, F g → w.heap.size ≤ g) ∧ Below w.heap.size w w' ∧ ∀ x ∈ R, w.heap.size ≤ x.1 ∨ x.1 < V.heap.size
theorem O1.turnL {n : Nat} {C : List Value} (c : ∀ F, At w p F s → TurnsL P At f args w p F s' n C) (h : O1 At W w p s R) : Calls P f args w fun e w' => ∃ a c R', e = .returned (.slice a n c) ∧ Lst R' a c n C ∧ (∀ x ∈ R', w.heap.size ≤ x.1) ∧ O1 At W w' p s' (R' ++ R) := by
  obtain ⟨F, h1, h2, h3, h4⟩ := h
  refine (c F h1).mono ?_
  rintro e w' ⟨a, cp, F', rfl, hl, hn, hA, hs, hk⟩
  obtain ⟨R', hL, hR⟩ := Lst.of hl
  refine ⟨a, cp, R', rfl, hL, fun x hx => (by obtain ⟨r1, o, h0, ha⟩ := hR x hx; exact (hn _ _ h0 ha).1), F', hA, fun g hg => (hs g hg).elim (h2 g) (Nat.le_trans h3.size), h3.trans (hk.below h2 h3.size), fun x hx => ?_⟩
  rcases List.mem_append.1 hx with hx | hx
  · obtain ⟨r1, o, h0, ha⟩ := hR x hx
    exact ⟨r1, (hn _ _ h0 ha).2⟩
  · obtain ⟨r1, r2⟩ := h4 x hx
    have hl' := (Array.getElem?_eq_some_iff.1 r1).1
    exact ⟨(hk.block _ hl' r2).trans r1, fun hf => (hs _ hf).elim r2 (fun k => by omega)⟩
theorem O2.turnL (O' : Is Bt) {n : Nat} {C : List Value} (c : ∀ F, At w p F s → TurnsL P At f args w p F s' n C) (h : O2 At Bt W w p s q t R) : Calls P f args w fun e w' => ∃ a c R', e = .returned (.slice a n c) ∧ Lst R' a c n C ∧ (∀ x ∈ R', w.heap.size ≤ x.1) ∧ O2 At Bt W w' p s' q t (R' ++ R) := by
  obtain ⟨F, G, h1, h2, b1, b2, d, hw, hr⟩ := h
  refine (c F h1).mono ?_
  rintro e w' ⟨a, cp, F', rfl, hl, hn, hA, hs, hk⟩
  obtain ⟨R', hL, hR⟩ := Lst.of hl
  refine ⟨a, cp, R', rfl, hL, fun x hx => (by obtain ⟨r1, o, h0, ha⟩ := hR x hx; exact (hn _ _ h0 ha).1), F', G, hA, O'.on h2 (fun g hg => hk.block g (O'.lt h2 g hg) (fun hf => d g hf hg)), fun g hg => (hs g hg).elim (b1 g) (Nat.le_trans hw.size), b2, fun g hf hg => (hs g hf).elim (fun k => d g k hg) (fun k => by have := O'.lt h2 g hg; omega), hw.trans (hk.below b1 hw.size), fun x hx => ?_⟩
  rcases List.mem_append.1 hx with hx | hx
  · obtain ⟨r1, o, h0, ha⟩ := hR x hx
    have hnn := hn _ _ h0 ha
    exact ⟨r1, hnn.2, fun hg => by have := O'.lt h2 _ hg; omega⟩
  · obtain ⟨r1, r2, r3⟩ := hr x hx
    have hl' := (Array.getElem?_eq_some_iff.1 r1).1
    exact ⟨(hk.block _ hl' r2).trans r1, fun hf => (hs _ hf).elim r2 (fun k => by omega), r3⟩
theorem O2.turnL2 (O : Is At) {n : Nat} {C : List Value} (c : ∀ F, Bt w q F t → TurnsL P Bt f args w q F t' n C) (h : O2 At Bt W w p s q t R) : Calls P f args w fun e w' => ∃ a c R', e = .returned (.slice a n c) ∧ Lst R' a c n C ∧ (∀ x ∈ R', w.heap.size ≤ x.1) ∧ O2 At Bt W w' p s q t' (R' ++ R) :=
  (h.swap.turnL O c).mono fun e w' ⟨a, cp, R', he, hL, hn, h⟩ => ⟨a, cp, R', he, hL, hn, h.swap⟩
/-- A list told by a call that has nothing to do with the objects. -/
theorem O1.tell (O : Is At) {n : Nat} {C : List Value} (c : Tells P f args w n C) (h : O1 At W w p s R) : Calls P f args w fun e w' => ∃ a c R', e = .returned (.slice a n c) ∧ Lst R' a c n C ∧ (∀ x ∈ R', w.heap.size ≤ x.1) ∧ O1 At W w' p s (R' ++ R) := by
  refine c.mono ?_
  rintro e w' ⟨a, cp, rfl, hl, hn, hb⟩
  obtain ⟨R', hL, hR⟩ := Lst.of hl
  obtain ⟨F0, k1, kb1, kw, kr⟩ := h
  refine ⟨a, cp, R', rfl, hL, fun x hx => (by obtain ⟨r1, o, h0, ha⟩ := hR x hx; exact hn _ _ h0 ha), F0, O.on k1 (fun g hg => hb.block g (O.lt k1 g hg)), kb1, kw.trans (hb.mono kw.size), fun x hx => ?_⟩
  rcases List.mem_append.1 hx with hx | hx
  · obtain ⟨r1, o, h0, ha⟩ := hR x hx
    have hnn := hn _ _ h0 ha
    exact ⟨r1, fun hf => by have := O.lt k1 _ hf; omega⟩
  · obtain ⟨r1, r2⟩ := kr x hx
    exact ⟨(hb.block _ (Array.getElem?_eq_some_iff.1 r1).1).trans r1, r2⟩
theorem O2.tell (O : Is At) (O' : Is Bt) {n : Nat} {C : List Value} (c : Tells P f args w n C) (h : O2 At Bt W w p s q t R) : Calls P f args w fun e w' => ∃ a c R', e = .returned (.slice a n c) ∧ Lst R' a c n C ∧ (∀ x ∈ R', w.heap.size ≤ x.1) ∧ O2 At Bt W w' p s q t (R' ++ R) := by
  refine c.mono ?_
  rintro e w' ⟨a, cp, rfl, hl, hn, hb⟩
  obtain ⟨R', hL, hR⟩ := Lst.of hl
  obtain ⟨F0, G0, k1, k2, kb1, kb2, kd, kw, kr⟩ := h
  refine ⟨a, cp, R', rfl, hL, fun x hx => (by obtain ⟨r1, o, h0, ha⟩ := hR x hx; exact hn _ _ h0 ha), F0, G0, O.on k1 (fun g hg => hb.block g (O.lt k1 g hg)), O'.on k2 (fun g hg => hb.block g (O'.lt k2 g hg)), kb1, kb2, kd, kw.trans (hb.mono kw.size), fun x hx => ?_⟩
  rcases List.mem_append.1 hx with hx | hx
  · obtain ⟨r1, o, h0, ha⟩ := hR x hx
    have hnn := hn _ _ h0 ha
    exact ⟨r1, fun hf => by have := O.lt k1 _ hf; omega, fun hf => by have := O'.lt k2 _ hf; omega⟩
  · obtain ⟨r1, r2, r3⟩ := kr x hx
    exact ⟨(hb.block _ (Array.getElem?_eq_some_iff.1 r1).1).trans r1, r2, r3⟩
/-- Made, with the rows that it depends on, beside rows that were there. -/
theorem O1.makeR {V : World} {Ar : Rs → A σ} (Rx : Rs) (hx : Rows Rx w) (c : MakesR P Ar f args V w s) (hb0 : Below W.heap.size W w) : Calls P f args w fun e w' => ∃ R p, e = .returned (ptr p) ∧ O1 (Ar R) W w' p s (R ++ Rx) ∧ Below w.heap.size w w' := by
  refine c.mono ?_
  rintro e w' ⟨R, p, F, he, hR, hn, hA, hF, hb, _⟩
  refine ⟨R, p, he, ⟨F, hA, fun g hg => Nat.le_trans hb0.size (hF g hg), hb0.trans (hb.mono hb0.size), fun x h => ?_⟩, hb⟩
  rcases List.mem_append.1 h with h | h
  · exact ⟨hR x h, hn x h⟩
  · have hl := (Array.getElem?_eq_some_iff.1 (hx x h)).1
    exact ⟨(hb.block _ hl).trans (hx x h), fun hf => by have := hF _ hf; omega⟩
/-- A second one, made while the first stays. -/
theorem O1.makeR2 (O : Is At) {Br : Rs → A τ} (c : MakesR P Br f args W w t) (h : O1 At W w p s R) : Calls P f args w fun e w' => ∃ R' q, e = .returned (ptr q) ∧ O2 At (Br R') W w' p s q t (R' ++ R) ∧ Below w.heap.size w w' := by
  refine c.mono ?_
  rintro e w' ⟨R', q, G, rfl, hR, hn, hA, hG, hb, hnew⟩
  obtain ⟨F, h1, h2, h3, h4⟩ := h
  refine ⟨R', q, rfl, ⟨F, G, O.on h1 (fun g hg => hb.block g (O.lt h1 g hg)), hA, h2, fun g hg => Nat.le_trans h3.size (hG g hg), fun g hf hg => by have := O.lt h1 g hf; have := hG g hg; omega, h3.trans (hb.mono h3.size), fun x hx => ?_⟩, hb⟩
  rcases List.mem_append.1 hx with hx | hx
  · refine ⟨hR x hx, fun hf => ?_, hn x hx⟩
    have k1 := O.lt h1 _ hf
    have k2 := h2 _ hf
    rcases hnew x hx with e | e <;> omega
  · obtain ⟨r1, r2⟩ := h4 x hx
    have hl := (Array.getElem?_eq_some_iff.1 r1).1
    exact ⟨(hb.block _ hl).trans r1, r2, fun hg => by have := hG _ hg; omega⟩
end
/-- A list of one's own, as a list told. -/
theorem Tells.of_ol {P : Program} {f : FuncId} {args : Array Value} {w : World} {T : TypeId} {sz n : Nat} {C : List Value} (c : Calls P f args w fun e w' => ∃ s c k, k = n ∧ e = .returned (.slice s k c) ∧ Sg.OL T sz w.heap.size w' s c k C ∧ Below w.heap.size w w') : Tells P f args w n C := by
  refine c.mono ?_
  rintro e w' ⟨s, cp, k, rfl, rfl, ho, hb⟩
  refine ⟨s, cp, rfl, ho.sl.li, fun g o h0 ha => ?_, hb⟩
  have hc : 0 < cp := Nat.lt_of_lt_of_le h0 ho.sl.li.1
  obtain ⟨g', o', cur, e1, hB, hh⟩ := ho.ty hc
  rw [e1] at ha
  injection ha with ha
  injection ha with ha
  omega
end Go.Proofs.YtnbfnipdiffphaaDoor.Oq
