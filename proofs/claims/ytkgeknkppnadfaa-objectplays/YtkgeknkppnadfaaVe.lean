/- Layer 17: two queues apart, lists that were told and stay; lists that are alike. -/
import Derived.Test.YtkgeknkppnadfaaVd
import Derived.Test.YtkgeknkppnadfaaU2
import Derived.Deep.CutBlock
namespace Go.Proofs.Ytkgeknkppnadfaa
open Go.RowKit Go.WideShapes
set_option linter.unusedVariables false
/-- A list that lies in blocks that stay. -/
def Lst (R : List (Nat × Obj)) (a : Option Addr) (c n : Nat) (C : List Value) : Prop :=
  n ≤ c ∧ c ≤ maxLen ∧ (n = 0 ∨ ∃ g o b, a = some ⟨g, o, none⟩ ∧ (g, b) ∈ R ∧ ∀ w : World, w.heap[g]? = some b → ∀ k v, C[k]? = some v → w.cell? ⟨g, o + k, none⟩ = some v)
theorem Lst.more {R R' : List (Nat × Obj)} {a : Option Addr} {c n : Nat} {C : List Value} (h : Lst R a c n C) (hs : ∀ x ∈ R, x ∈ R') : Lst R' a c n C := by
  refine ⟨h.1, h.2.1, ?_⟩
  rcases h.2.2 with h0 | ⟨g, o, b, h1, h2, h3⟩
  · exact Or.inl h0
  · exact Or.inr ⟨g, o, b, h1, hs _ h2, h3⟩
theorem Lst.li {R : List (Nat × Obj)} {w : World} {a : Option Addr} {c n : Nat} {C : List Value} (h : Lst R a c n C) (hr : ∀ x ∈ R, w.heap[x.1]? = some x.2) : LI w a c n C := by
  refine ⟨h.1, h.2.1, ?_⟩
  rcases h.2.2 with h0 | ⟨g, o, b, h1, h2, h3⟩
  · exact Or.inl h0
  · exact Or.inr ⟨g, o, h1, (Array.getElem?_eq_some_iff.1 (hr _ h2)).1, h3 w (hr _ h2)⟩
theorem cell_same {w w' : World} {g k : Nat} (h : w'.heap[g]? = w.heap[g]?) : w'.cell? ⟨g, k, none⟩ = w.cell? ⟨g, k, none⟩ := by
  unfold World.cell?
  dsimp only
  rw [h]
theorem Lst.of {w : World} {a : Option Addr} {c n : Nat} {C : List Value} (h : LI w a c n C) : ∃ R, Lst R a c n C ∧ ∀ x ∈ R, w.heap[x.1]? = some x.2 ∧ ∃ o, 0 < n ∧ a = some ⟨x.1, o, none⟩ := by
  by_cases h0 : n = 0
  · exact ⟨[], ⟨h.1, h.2.1, Or.inl h0⟩, fun x hx => by cases hx⟩
  · rcases h.2.2 with k0 | ⟨g, o, h1, h2, h3⟩
    · exact absurd k0 h0
    · refine ⟨[(g, w.heap[g])], ⟨h.1, h.2.1, Or.inr ⟨g, o, w.heap[g], h1, List.mem_singleton.2 rfl, fun w' hw k v hk => ?_⟩⟩, fun x hx => ?_⟩
      · rw [cell_same (w := w) (hw.trans (Array.getElem?_eq_getElem h2).symm)]
        exact h3 k v hk
      · rw [List.mem_singleton.1 hx]
        exact ⟨Array.getElem?_eq_getElem h2, o, by omega, h1⟩
section
variable {At : Ob.A Vq.St} {W w w' : World} {p q : Nat} {s s' t t' : Vq.St} {R : List (Nat × Obj)}
theorem Qs.rows (h : Qs At W w p s R) : ∀ x ∈ R, w.heap[x.1]? = some x.2 := by obtain ⟨F, _, _, _, hr⟩ := h; exact fun x hx => (hr x hx).1
theorem Qs.less {R' : List (Nat × Obj)} (h : Qs At W w p s R) (hs : ∀ x ∈ R', x ∈ R) : Qs At W w p s R' := by
  obtain ⟨F, h1, h2, h3, h4⟩ := h
  exact ⟨F, h1, h2, h3, fun x hx => h4 x (hs x hx)⟩
theorem Qs.all (S : QueueSpec At) (h : Qs At W w p s R) : Calls Try.prog 45 #[Ob.ptr p] w fun e w' => ∃ a c R', e = .returned (.slice a s.l.length c) ∧ Lst R' a c s.l.length (s.l.flatMap dC) ∧ Qs At W w' p s (R' ++ R) := by
  obtain ⟨F, h1, h2, h3, h4⟩ := h
  refine (S.all w p F s h1).mono ?_
  rintro e w' ⟨a, c, F', rfl, hO, hA, hs, hd, hk⟩
  obtain ⟨R', hL, hR⟩ := Lst.of hO.sl.li
  refine ⟨a, c, R', rfl, hL, F', hA, fun g hg => (hs g hg).elim (h2 g) (Nat.le_trans h3.size), h3.trans (hk.below h2 h3.size), fun x hx => ?_⟩
  rcases List.mem_append.1 hx with hx | hx
  · obtain ⟨r1, o, h0, ha⟩ := hR x hx
    refine ⟨r1, hd _ ⟨Nat.lt_of_lt_of_le h0 hO.sl.1, ?_⟩⟩
    rw [ha]
    rfl
  · obtain ⟨r1, r2⟩ := h4 x hx
    have hl := (Array.getElem?_eq_some_iff.1 r1).1
    exact ⟨(hk.block _ hl r2).trans r1, fun hf => (hs _ hf).elim r2 (fun k => by omega)⟩
/-- Two queues apart, and blocks beside them. -/
def Q2 (At : Ob.A Vq.St) (W w : World) (p : Nat) (s : Vq.St) (q : Nat) (t : Vq.St) (R : List (Nat × Obj)) : Prop :=
  ∃ F G, At w p F s ∧ At w q G t ∧ (∀ g, F g → W.heap.size ≤ g) ∧ (∀ g, G g → W.heap.size ≤ g) ∧ (∀ g, F g → ¬ G g) ∧ Below W.heap.size W w ∧ ∀ x ∈ R, w.heap[x.1]? = some x.2 ∧ ¬ F x.1 ∧ ¬ G x.1
theorem Q2.fst (h : Q2 At W w p s q t R) : Qs At W w p s R := by
  obtain ⟨F, G, h1, h2, h3, h4, h5, h6, h7⟩ := h
  exact ⟨F, h1, h3, h6, fun x hx => ⟨(h7 x hx).1, (h7 x hx).2.1⟩⟩
theorem Q2.swap (h : Q2 At W w p s q t R) : Q2 At W w q t p s R := by
  obtain ⟨F, G, h1, h2, h3, h4, h5, h6, h7⟩ := h
  exact ⟨G, F, h2, h1, h4, h3, fun g hg hf => h5 g hf hg, h6, fun x hx => ⟨(h7 x hx).1, (h7 x hx).2.2, (h7 x hx).2.1⟩⟩
theorem Q2.on (S : QueueSpec At) (h : Q2 At W w p s q t R) (hb : Below w.heap.size w w') : Q2 At W w' p s q t R := by
  obtain ⟨F, G, h1, h2, h3, h4, h5, h6, h7⟩ := h
  refine ⟨F, G, S.is.on h1 (fun g hg => hb.block g (S.is.lt h1 g hg)), S.is.on h2 (fun g hg => hb.block g (S.is.lt h2 g hg)), h3, h4, h5, h6.trans (hb.mono h6.size), fun x hx => ⟨?_, (h7 x hx).2⟩⟩
  rw [hb.block _ (Array.getElem?_eq_some_iff.1 (h7 x hx).1).1]
  exact (h7 x hx).1
theorem Qs.copy (S : QueueSpec At) (h : Qs At W w p s R) : Calls Try.prog 28 #[Ob.ptr p] w fun e w' => ∃ q, e = .returned (Ob.ptr q) ∧ Q2 At W w' p s q s R := by
  obtain ⟨F, h1, h2, h3, h4⟩ := h
  refine (S.copy w p F s h1).mono ?_
  rintro e w' ⟨q, F', G, rfl, hA, hB, hs, hg, hd, hk⟩
  refine ⟨q, rfl, F', G, hA, hB, fun g hg => (hs g hg).elim (h2 g) (Nat.le_trans h3.size), fun g hgg => Nat.le_trans h3.size (hg g hgg), hd, h3.trans (hk.below h2 h3.size), fun x hx => ?_⟩
  obtain ⟨r1, r2⟩ := h4 x hx
  have hl := (Array.getElem?_eq_some_iff.1 r1).1
  exact ⟨(hk.block _ hl r2).trans r1, fun hf => (hs _ hf).elim r2 (fun k => by omega), fun hf => by have := hg _ hf; omega⟩
theorem Q2.turn {P : Program} {f : FuncId} {args : Array Value} {v : Value} (S : QueueSpec At) (c : ∀ F, At w p F s → Ob.Turns P At f args w p F s' v) (h : Q2 At W w p s q t R) : Calls P f args w fun e w' => e = .returned v ∧ Q2 At W w' p s' q t R := by
  obtain ⟨F, G, h1, h2, h3, h4, h5, h6, h7⟩ := h
  refine (c F h1).mono fun e w' ⟨he, F', hA, hs, hk⟩ => ⟨he, F', G, hA, S.is.on h2 (fun g hg => hk.block g (S.is.lt h2 g hg) (fun hf => h5 g hf hg)), fun g hg => (hs g hg).elim (h3 g) (Nat.le_trans h6.size), h4, fun g hf hg => (hs g hf).elim (fun k => h5 g k hg) (fun k => by have := S.is.lt h2 g hg; omega), h6.trans (hk.below h3 h6.size), fun x hx => ?_⟩
  obtain ⟨r1, r2, r3⟩ := h7 x hx
  have hl := (Array.getElem?_eq_some_iff.1 r1).1
  exact ⟨(hk.block _ hl r2).trans r1, fun hf => (hs _ hf).elim r2 (fun k => by omega), r3⟩
theorem Q2.turn2 {P : Program} {f : FuncId} {args : Array Value} {v : Value} (S : QueueSpec At) (c : ∀ F, At w q F t → Ob.Turns P At f args w q F t' v) (h : Q2 At W w p s q t R) : Calls P f args w fun e w' => e = .returned v ∧ Q2 At W w' p s q t' R :=
  (h.swap.turn S c).mono fun e w' ⟨he, h⟩ => ⟨he, h.swap⟩
end
theorem LI.del {w : World} {s : Option Addr} {c : Nat} {l : List Vq.Dl} (h : LI w s c l.length (l.flatMap dC)) {i : Nat} {d : Vq.Dl} (hd : l[i]? = some d) : ∃ g o, s = some ⟨g, o, none⟩ ∧ ∀ w', Below w.heap.size w w' → w'.cell? ⟨g, o + i * 2, none⟩ = some (.int .i64 d.msg) ∧ w'.cell? ⟨g, o + i * 2 + 1, none⟩ = some (.string d.data) := by
  obtain ⟨g, o, hs, hg, _⟩ := h.at (sz := 2) (fun _ => rfl) i d hd
  refine ⟨g, o, hs, fun w' hb => ?_⟩
  obtain ⟨g', o', hs', _, hc⟩ := (h.on hb).at (sz := 2) (fun _ => rfl) i d hd
  rw [hs] at hs'
  injection hs' with e1
  injection e1 with e1 e2
  subst e1 e2
  exact ⟨by have := hc 0 _ rfl; rwa [Nat.add_zero] at this, by have := hc 1 _ rfl; rwa [← Nat.add_assoc] at this⟩
end Go.Proofs.Ytkgeknkppnadfaa
