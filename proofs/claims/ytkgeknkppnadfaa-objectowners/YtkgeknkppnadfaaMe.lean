/- One element of a list set; a matrix that is copied list by list into a variable of one's own, beside the first. -/
import Derived.Test.YtkgeknkppnadfaaMc
import Derived.Test.YtkgeknkppnadfaaHm
namespace Go.Proofs.Ytkgeknkppnadfaa
open Go.RowKit Go.WideShapes
set_option linter.unusedVariables false
theorem flat_set {α : Type} {f : α → List Value} {sz : Nat} (hf : ∀ x, (f x).length = sz) : ∀ (l : List α) (k : Nat) (x y : α) (j : Nat) (v : Value), l[k]? = some x → j < sz → (f x).set j v = f y → (l.flatMap f).set (k * sz + j) v = (l.set k y).flatMap f
  | [], k, x, y, j, v, hx, _, _ => by cases hx
  | a :: l, 0, x, y, j, v, hx, hj, hy => by
    have e : a = x := by simpa using hx
    subst e
    rw [Nat.zero_mul, Nat.zero_add, List.set_cons_zero, List.flatMap_cons, List.flatMap_cons, List.set_append_left _ _ (by rw [hf]; exact hj), hy]
  | a :: l, k + 1, x, y, j, v, hx, hj, hy => by
    have ih := flat_set hf l k x y j v (by simpa using hx) hj hy
    have e : (k + 1) * sz + j - (f a).length = k * sz + j := by rw [hf, Nat.succ_mul]; omega
    rw [List.set_cons_succ, List.flatMap_cons, List.flatMap_cons, List.set_append_right _ _ (by rw [hf, Nat.succ_mul]; omega), e, ih]
theorem flat_len {α : Type} {f : α → List Value} {sz : Nat} (hf : ∀ x, (f x).length = sz) (l : List α) : (l.flatMap f).length = l.length * sz := by
  induction l with
  | nil => simp
  | cons x l ih => rw [List.flatMap_cons, List.length_append, hf, ih, List.length_cons, Nat.succ_mul, Nat.add_comm]
theorem flat_one1 (l : List Int) : ∀ u ∈ l.flatMap mC1, u.oneCell' = true := fun u hu => by
  obtain ⟨x, _, h⟩ := List.mem_flatMap.1 hu
  simp only [mC1, List.mem_cons, List.not_mem_nil, or_false] at h
  subst h
  rfl
theorem flat_one2 (l : List Mx.Msg) : ∀ u ∈ l.flatMap mC2, u.oneCell' = true := fun u hu => by
  obtain ⟨x, _, h⟩ := List.mem_flatMap.1 hu
  simp only [mC2, List.mem_cons, List.not_mem_nil, or_false] at h
  rcases h with rfl | rfl | rfl <;> rfl
theorem flat_one3 (l : List Mx.Win) : ∀ u ∈ l.flatMap mC3, u.oneCell' = true := fun u hu => by
  obtain ⟨x, _, h⟩ := List.mem_flatMap.1 hu
  simp only [mC3, List.mem_cons, List.not_mem_nil, or_false] at h
  rcases h with rfl | rfl | rfl | rfl | rfl | rfl <;> rfl
theorem Mb.kept0 {s : Option Addr} {w w' : World} (h : Kept (Sg.At_ s 0) w w') : Below w.heap.size w w' := h.below (B := w.heap.size) (fun g hg => absurd hg.1 (Nat.lt_irrefl 0)) (Nat.le_refl _)
/-- A matrix where it came in, and one beside it that is being made its copy: so many lists are laid anew. -/
structure Nq (W w : World) (q : Nat) (m : Mx.M) (a b : Ma) (i : Nat) : Prop where
  bel : Below W.heap.size W w
  rp : RowT 29 w W.heap.size (mCs m a)
  bq : W.heap.size < q
  row : RowT 29 w q (mCs m b)
  o1 : 1 ≤ i → Sg.OL 3 1 W.heap.size w b.s1 b.c1 m.masters.length (m.masters.flatMap mC1)
  o2 : 2 ≤ i → Sg.OL 62 3 W.heap.size w b.s2 b.c2 m.messages.length (m.messages.flatMap mC2)
  o3 : 3 ≤ i → Sg.OL 88 6 W.heap.size w b.s3 b.c3 m.windows.length (m.windows.flatMap mC3)
section
variable {W w w' : World} {q : Nat} {m : Mx.M} {a b : Ma} {i : Nat} {s : Option Addr} {c : Nat}
theorem Nq.on (h : Nq W w q m a b i) (hb : Below w.heap.size w w') : Nq W w' q m a b i :=
  ⟨h.bel.trans (hb.mono h.bel.size), h.rp.on hb, h.bq, h.row.on hb, fun k => (h.o1 k).on hb, fun k => (h.o2 k).on hb, fun k => (h.o3 k).on hb⟩
theorem Nq.rps (h : Nq W w q m a b i) (k : Nat) (v : Value) : RowT 29 (w.setCell ⟨q, k, none⟩ v) W.heap.size (mCs m a) := h.rp.kept (Kept.set (F := fun j => j = q) _ _ _ rfl) (by have := h.bq; omega)
theorem Nq.ols (h : Nq W w q m a b i) {e : TypeId} {sz n : Nat} {C : List Value} (ho : Sg.OL e sz W.heap.size w s c n C) (hT : 29 ≠ e) (k : Nat) (v : Value) : Sg.OL e sz W.heap.size (w.setCell ⟨q, k, none⟩ v) s c n C :=
  ho.kept (Kept.set (F := fun j => j = q) _ _ _ rfl) (fun g hg e => by subst e; exact Mb.ol_ne ho h.row hT hg)
theorem Nq.put1 (h : Nq W w q m a b 0) (h1 : Sg.OL 3 1 W.heap.size w s c m.masters.length (m.masters.flatMap mC1)) : Nq W (w.setCell ⟨q, 8, none⟩ (.slice s m.masters.length c)) q m a ⟨s, c, b.s2, b.c2, b.s3, b.c3⟩ 1 := by
  have e : (mCs m b).setIfInBounds 8 (.slice s m.masters.length c) = mCs m ⟨s, c, b.s2, b.c2, b.s3, b.c3⟩ := by unfold mCs; simp
  exact ⟨h.bel.setCell (Nat.le_of_lt h.bq) _, h.rps _ _, h.bq, by rw [← e]; exact h.row.set 8 _, fun _ => h.ols h1 (by decide) _ _, fun k => by omega, fun k => by omega⟩
theorem Nq.put2 (h : Nq W w q m a b 1) (h1 : Sg.OL 62 3 W.heap.size w s c m.messages.length (m.messages.flatMap mC2)) : Nq W (w.setCell ⟨q, 9, none⟩ (.slice s m.messages.length c)) q m a ⟨b.s1, b.c1, s, c, b.s3, b.c3⟩ 2 := by
  have e : (mCs m b).setIfInBounds 9 (.slice s m.messages.length c) = mCs m ⟨b.s1, b.c1, s, c, b.s3, b.c3⟩ := by unfold mCs; simp
  exact ⟨h.bel.setCell (Nat.le_of_lt h.bq) _, h.rps _ _, h.bq, by rw [← e]; exact h.row.set 9 _, fun _ => h.ols (h.o1 (by omega)) (by decide) _ _, fun _ => h.ols h1 (by decide) _ _, fun k => by omega⟩
theorem Nq.put3 (h : Nq W w q m a b 2) (h1 : Sg.OL 88 6 W.heap.size w s c m.windows.length (m.windows.flatMap mC3)) : Nq W (w.setCell ⟨q, 10, none⟩ (.slice s m.windows.length c)) q m a ⟨b.s1, b.c1, b.s2, b.c2, s, c⟩ 3 := by
  have e : (mCs m b).setIfInBounds 10 (.slice s m.windows.length c) = mCs m ⟨b.s1, b.c1, b.s2, b.c2, s, c⟩ := by unfold mCs; simp
  exact ⟨h.bel.setCell (Nat.le_of_lt h.bq) _, h.rps _ _, h.bq, by rw [← e]; exact h.row.set 10 _, fun _ => h.ols (h.o1 (by omega)) (by decide) _ _, fun _ => h.ols (h.o2 (by omega)) (by decide) _ _, fun _ => h.ols h1 (by decide) _ _⟩
theorem Nq.mb (h : Nq W w q m a b 3) : Mb W w q m b := ⟨h.bel, Nat.le_of_lt h.bq, h.row, h.o1 (by omega), h.o2 (by omega), h.o3 (by omega)⟩
end
/-- An element of a list of one's own: where it lies, and that it can be written. -/
theorem Mb.elem {e : TypeId} {sz B : Nat} {w : World} {s : Option Addr} {c n : Nat} {C : List Value} (h : Sg.OL e sz B w s c n C) (hn : 0 < n) : ∃ g o cur, s = some ⟨g, o, none⟩ ∧ w.heap[g]? = some (.cells cur e (0, 0)) ∧ (∀ k v, C[k]? = some v → w.cell? ⟨g, o + k, none⟩ = some v) ∧ ∀ k, w.frozen? ⟨g, o + k, none⟩ = false := by
  have hc : 0 < c := Nat.lt_of_lt_of_le hn h.sl.1
  obtain ⟨g, o, cur, e1, _, hh⟩ := h.ty hc
  refine ⟨g, o, cur, e1, hh, ?_, fun k => frozen_of_row _ _ _ _ _ hh⟩
  rcases h.sl.2.2.2 with h0 | ⟨g', o', e2, _, hc2, _⟩
  · omega
  · rw [e1] at e2
    injection e2 with e2
    injection e2 with e3 e4
    subst e3 e4
    exact hc2
theorem flat_at {α : Type} {f : α → List Value} {sz : Nat} (hf : ∀ x, (f x).length = sz) {l : List α} {k : Nat} {x : α} (hx : l[k]? = some x) {j : Nat} {u : Value} (hu : (f x)[j]? = some u) : (l.flatMap f)[k * sz + j]? = some u := by
  have hj : j < sz := by rw [← hf x]; exact (List.getElem?_eq_some_iff.1 hu).1
  induction l generalizing k with
  | nil => cases hx
  | cons a l ih =>
    rw [List.flatMap_cons]
    cases k with
    | zero =>
      have h' : a = x := by simpa using hx
      subst h'
      rw [List.getElem?_append_left (by rw [hf]; omega), Nat.zero_mul, Nat.zero_add]
      exact hu
    | succ k =>
      have e : (k + 1) * sz + j - (f a).length = k * sz + j := by rw [hf, Nat.succ_mul]; omega
      rw [List.getElem?_append_right (by rw [hf, Nat.succ_mul]; omega), e]
      exact ih (by simpa using hx)
end Go.Proofs.Ytkgeknkppnadfaa
