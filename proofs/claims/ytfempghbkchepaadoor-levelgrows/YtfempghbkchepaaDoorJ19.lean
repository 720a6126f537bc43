/- Layer 19: a table beside the document's: a list told, the document's cells read, one more and one less alike. -/
import Derived.Test.YtfempghbkchepaaDoorH19
import Derived.Test.YtfempghbkchepaaDoorOq
import Derived.Test.YtfempghbkchepaaDoorD19
namespace Go.Proofs.YtfempghbkchepaaDoor
open Go.RowKit Go.WideShapes Go.ChangeShapes Go.ChangeAt
set_option linter.unusedVariables false
theorem add_down {s : List Nat} (h : Q19.Ok s) (k : Int) : add19 s k (-1) = Q19.down s k := by
  unfold add19 Q19.down
  have := Q19.at_le h k
  rw [show (max 0 (min ((Q19.at_ s k : Int) + -1) 7)).toNat = Q19.at_ s k - 1 by omega]
theorem add_up {s : List Nat} (h : Q19.Ok s) (k : Int) : add19 s k 1 = Q19.up s k := by
  unfold add19 Q19.up
  have := Q19.at_le h k
  rw [show (max 0 (min ((Q19.at_ s k : Int) + 1) 7)).toNat = min 7 (Q19.at_ s k + 1) by omega]
namespace Oq
section
variable {P : Program} {σ τ : Type} {At : Ob.A σ} {Bt : Ob.A τ} {W w : World} {p q : Nat} {s : σ} {t : τ} {R R' : Rs} {f : FuncId} {args : Array Value}
/-- A list told, new; both objects only looked at. -/
theorem O2.list (O : Ob.Is At) (O' : Ob.Is Bt) {n : Nat} {C : List Value} (c : ∀ F, At w p F s → Tells P f args w n C) (h : O2 At Bt W w p s q t R) : Calls P f args w fun e w' => ∃ a c R', e = .returned (.slice a n c) ∧ Lst R' a c n C ∧ O2 At Bt W w' p s q t (R' ++ R) := by
  have h' := h
  obtain ⟨F, G, h1, _⟩ := h
  refine (c F h1).mono ?_
  rintro e w' ⟨a, cp, rfl, hl, hn, hb⟩
  obtain ⟨R', hL, hR⟩ := Lst.of hl
  refine ⟨a, cp, R', rfl, hL, ?_⟩
  obtain ⟨F2, G2, k1, k2, b1, b2, d, k3, k4⟩ := h'
  refine ⟨F2, G2, O.on k1 (fun g hg => hb.block g (O.lt k1 g hg)), O'.on k2 (fun g hg => hb.block g (O'.lt k2 g hg)), b1, b2, d, k3.trans (hb.mono k3.size), fun x hx => ?_⟩
  rcases List.mem_append.1 hx with hx | hx
  · obtain ⟨r1, o, h0, ha⟩ := hR x hx
    exact ⟨r1, fun hf => by have := hn _ _ h0 ha; have := O.lt k1 _ hf; omega, fun hf => by have := hn _ _ h0 ha; have := O'.lt k2 _ hf; omega⟩
  · exact ⟨(hb.block _ (Array.getElem?_eq_some_iff.1 (k4 x hx).1).1).trans (k4 x hx).1, (k4 x hx).2⟩
/-- The second looked at in whatever world is made of this one. -/
theorem O2.looks2 (O : Ob.Is At) (O' : Ob.Is Bt) {v : Value} (c : ∀ w F, Bt w q F t → Ob.Looks P f args w v) (h : O2 At Bt W w p s q t R) : ∀ w', Below w.heap.size w w' → Calls P f args w' fun e w'' => e = .returned v ∧ Below w'.heap.size w' w'' := h.swap.looks O' c
end
/-- What a walk reads of the document's table itself. -/
theorem O2.doc {At : Ob.A (List Nat)} {W w : World} {p q : Nat} {s t : List Nat} {R : Rs} (h : O2 At RtAt W w p s q t R) : ∃ a c, Q19.Ok t ∧ (∀ w', Below w.heap.size w w' → w'.cell? ⟨q, 0, none⟩ = some (.slice a t.length c)) ∧ ∀ k x : Nat, t[k]? = some x → ∃ g o, a = some ⟨g, o, none⟩ ∧ ∀ w', Below w.heap.size w w' → w'.cell? ⟨g, o + k, none⟩ = some (.int .i64 (x : Int)) := by
  obtain ⟨F, G, _, ⟨a, c, hG, hr, hO⟩, _⟩ := h
  refine ⟨a, c, hO, fun w' hb => (hr.on hb).row.c 0 _ rfl, fun k x hk => ?_⟩
  obtain ⟨g, o, e, hc⟩ := hr.num hk
  exact ⟨g, o, e, fun w' hb => (hc w' hb).1⟩
end Oq
end Go.Proofs.YtfempghbkchepaaDoor
