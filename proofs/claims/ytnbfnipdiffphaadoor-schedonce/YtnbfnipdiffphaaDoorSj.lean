/- A list of one's own: some of its cells laid anew: a part moved by copy, an element stored. Nothing of the program is in it. -/
import Derived.Test.YtnbfnipdiffphaaDoorSi
import Derived.Laws.IdiomCopy
namespace Go.Proofs.YtnbfnipdiffphaaDoor.Sg
open Go.RowKit
set_option linter.unusedVariables false
theorem OL.there {e : TypeId} {sz B : Nat} {w : World} {g o c n : Nat} {C : List Value} (h : OL e sz B w (some ⟨g, o, none⟩) c n C) : ∀ j, j < c * sz → (w.cell? ⟨g, o + j, none⟩).isSome = true ∧ w.frozen? ⟨g, o + j, none⟩ = false := fun j hj => by
  rcases h.sl.2.2.2 with hz | ⟨g', o', e1, hg, hc, hr⟩
  · subst hz
    rw [Nat.zero_mul] at hj
    omega
  · injection e1 with e1
    injection e1 with e1 e2
    subst e1 e2
    exact hr j hj
theorem OL.cells {e : TypeId} {sz B : Nat} {w : World} {g o c n : Nat} {C : List Value} (h : OL e sz B w (some ⟨g, o, none⟩) c n C) : ∀ (j : Nat) v, C[j]? = some v → w.cell? ⟨g, o + j, none⟩ = some v := fun j v hj => by
  rcases h.sl.2.2.2 with hz | ⟨g', o', e1, hg, hc, hr⟩
  · have h1 := (List.getElem?_eq_some_iff.1 hj).1
    have h2 := h.sl.1
    have h3 := h.sl.2.2.1
    have : n = 0 := by omega
    rw [this, Nat.zero_mul] at h3
    omega
  · injection e1 with e1
    injection e1 with e1 e2
    subst e1 e2
    exact hc j v hj
/-- Some cells laid anew. -/
theorem OL.splice {e : TypeId} {sz B : Nat} {w : World} {g o c n : Nat} {C : List Value} (h : OL e sz B w (some ⟨g, o, none⟩) c n C) (p : Nat) (cs : List Value) (hp : p + cs.length ≤ C.length) (h0 : 0 < c) :
    OL e sz B (w.setCells g (o + p) cs) (some ⟨g, o, none⟩) c n (C.take p ++ cs ++ C.drop (p + cs.length)) ∧ Kept (At_ (some ⟨g, o, none⟩) c) w (w.setCells g (o + p) cs) := by
  have hth := h.there
  have hce := h.cells
  have hCl : C.length ≤ c * sz := by rw [h.sl.2.2.1]; exact Nat.mul_le_mul_right sz h.sl.1
  have hcell : ∀ j, j < cs.length → (w.cell? ⟨g, o + p + j, none⟩).isSome = true := fun j hj => by
    have := (hth (p + j) (by omega)).1
    rwa [← Nat.add_assoc] at this
  have hgl : g < w.heap.size := h.lt g ⟨h0, rfl⟩
  have hlen : (C.take p ++ cs ++ C.drop (p + cs.length)).length = C.length := by
    rw [List.length_append, List.length_append, List.length_take, List.length_drop]
    omega
  have hk : Kept (At_ (some ⟨g, o, none⟩) c) w (w.setCells g (o + p) cs) := (setCells_kept g cs (o + p) w).mono (fun j hj => ⟨h0, by rw [hj]; rfl⟩)
  refine ⟨⟨⟨h.sl.1, h.sl.2.1, by rw [hlen]; exact h.sl.2.2.1, Or.inr ⟨g, o, rfl, by rw [setCells_size]; exact hgl, fun k v hv => ?_, fun j hj => ⟨isSome_setCells _ _ _ _ _ (hth j hj).1, by rw [World.frozen?_setCells]; exact (hth j hj).2⟩⟩⟩, fun _ => ?_⟩, hk⟩
  · by_cases k1 : k < p
    · rw [List.append_assoc, List.getElem?_append_left (by rw [List.length_take]; omega), List.getElem?_take, if_pos k1] at hv
      rw [World.cell?_setCells_out g _ _ _ _ (fun _ _ => Or.inl (by show o + k < o + p; omega))]
      exact hce k v hv
    · by_cases k2 : k < p + cs.length
      · rw [List.append_assoc, List.getElem?_append_right (by rw [List.length_take]; omega), List.length_take, Nat.min_eq_left (by omega), List.getElem?_append_left (by omega)] at hv
        have := World.cell?_setCells_in g cs (o + p) w hcell (k - p) (by omega)
        rw [show o + p + (k - p) = o + k by omega] at this
        rw [this, ← hv]
        exact (List.getElem?_eq_getElem _).symm
      · rw [List.getElem?_append_right (by rw [List.length_append, List.length_take]; omega), List.length_append, List.length_take, Nat.min_eq_left (by omega), List.getElem?_drop] at hv
        rw [World.cell?_setCells_out g _ _ _ _ (fun _ _ => Or.inr (by show o + p + cs.length ≤ o + k; omega))]
        refine hce k v ?_
        rw [← hv]
        congr 1
        omega
  · obtain ⟨g', o', cur, e1, hB, hh⟩ := h.ty h0
    injection e1 with e1
    injection e1 with e1 e2
    subst e1 e2
    obtain ⟨cur', hh'⟩ := setCells_row g e cs (o + p) w cur hh
    exact ⟨g, o, cur', rfl, hB, hh'⟩
theorem run_copyOwn {P : Program} {t e : TypeId} {sz by_ B : Nat} {z : Value} (E : El P t e sz z by_) (ty : TypeId) {w : World} {g o c n k : Nat} {C : List Value} (h : OL e sz B w (some ⟨g, o, none⟩) c n C) (hk : k + 1 < n) (h1 : ∀ v ∈ C, v.oneCell' = true) :
    (Builtin.copy_ #[t, t] ty #[.slice (backAt (some ⟨g, o, none⟩) c (k + 1) sz) (n - (k + 1)) (c - (k + 1)), .slice (backAt (some ⟨g, o, none⟩) c k sz) (n - k) (c - k)]).run P w = .ok (goInt ((n - (k + 1) : Nat) : Int)) (w.setCells g (o + (k + 1) * sz) ((C.drop (k * sz)).take ((n - (k + 1)) * sz))) := by
  obtain ⟨i0, hi, hz0, hz1, hz2⟩ := info_parts E.info
  have hnc := h.sl.1
  have hCl := h.sl.2.2.1
  have ea : ∀ j, j < n → backAt (some ⟨g, o, none⟩) c j sz = some ⟨g, o + j * sz, none⟩ := fun j hj => by
    unfold backAt
    rw [if_neg (by omega), Option.map_some, add_at]
  have hl : ((C.drop (k * sz)).take ((n - (k + 1)) * sz)).length = (n - (k + 1)) * sz := by
    rw [List.length_take, List.length_drop, hCl, ← Nat.sub_mul]
    exact Nat.min_eq_left (Nat.mul_le_mul_right sz (by omega))
  have hsub : (n - (k + 1)) * sz + (k + 1) * sz = n * sz := by rw [← Nat.add_mul]; congr 1; omega
  have hle : n * sz ≤ c * sz := Nat.mul_le_mul_right sz hnc
  rw [ea k (by omega), ea (k + 1) hk]
  generalize hcs : (C.drop (k * sz)).take ((n - (k + 1)) * sz) = cs at hl ⊢
  have hf : (Builtin.firstCells sz (n - (k + 1)) (.slice (some ⟨g, o + k * sz, none⟩) (n - k) (c - k))).run P w = .ok cs.toArray w := run_firstCells_some w sz _ _ _ _ cs hl (fun j v hv => by
    rw [add_at, Nat.add_assoc]
    refine h.cells _ _ ?_
    rw [← hcs, List.getElem?_take] at hv
    split at hv
    · rwa [List.getElem?_drop] at hv
    · cases hv)
  have hst := run_storeCells_cells (P := P) g (o + (k + 1) * sz) cs 0 w (fun j hj => by
    have := (h.there ((k + 1) * sz + j) (by omega)).1
    rwa [← Nat.add_assoc] at this) (fun j hj => by
    have := (h.there ((k + 1) * sz + j) (by omega)).2
    rwa [← Nat.add_assoc] at this) (fun v hv => h1 v (by rw [← hcs] at hv; exact List.mem_of_mem_drop (List.mem_of_mem_take hv)))
  have hmin : Nat.min (n - k) (n - (k + 1)) = n - (k + 1) := Nat.min_eq_right (by omega)
  have hf' : (Builtin.firstCells i0.size (n - (k + 1)) (.slice (some ⟨g, o + k * sz, none⟩) (n - k) (c - k))).run P w = .ok cs.toArray w := by rw [hz1]; exact hf
  simp only [Nat.add_zero] at hst
  simp [Builtin.copy_, run_underlying E.und, Builtin.lenOf, sizeOf, typeInfo, hi, hmin, hf', hst]
theorem info_one {P : Program} {e : TypeId} {i0 : TypeInfo} {sz : Nat} (hi : P.info? e = some i0) (h : i0.size = sz) : (P.info? e).map (·.size) = some sz := by rw [hi]; simp [h]
/-- A struct stored into a place of a list of one's own. -/
theorem run_storeOwn {P : Program} {t e : TypeId} {sz by_ B : Nat} {z : Value} (E : El P t e sz z by_) {w : World} {g o c n p : Nat} {C : List Value} (h : OL e sz B w (some ⟨g, o, none⟩) c n C) (cs : Array Value) (hcs : cs.size = sz) (hp : p + sz ≤ C.length) (h1 : ∀ v ∈ cs.toList, v.oneCell' = true) :
    (storeVar e ⟨g, o + p, none⟩ (.agg cs)).run P w = .ok () (w.setCells g (o + p) cs.toList) := by
  obtain ⟨i0, hi, hz0, hz1, hz2⟩ := info_parts E.info
  have hle : n * sz ≤ c * sz := Nat.mul_le_mul_right sz h.sl.1
  have hCl := h.sl.2.2.1
  have hst := run_storeCells_cells (P := P) g (o + p) cs.toList 0 w (fun j hj => by
    have := (h.there (p + j) (by simp at hj; omega)).1
    rwa [← Nat.add_assoc] at this) (fun j hj => by
    have := (h.there (p + j) (by simp at hj; omega)).2
    rwa [← Nat.add_assoc] at this) h1
  simp only [Nat.add_zero] at hst
  have hs : cs.size = i0.size := by omega
  simp [storeVar, sizeOf, typeInfo, hi, Value.cells, hs, hst]
theorem wpList_storeOwn {P : Program} {t e : TypeId} {sz by_ B : Nat} {z : Value} (E : El P t e sz z by_) {ops : Array Oper} {rest : List Oper} {o' : Oper} {a : Act} {w : World} {Q : Exit → Act → World → Prop} (hgd : o'.guard = none) (x y : Operand) (ho : o'.op = .store e x y)
    {g o c n p : Nat} {C : List Value} (cs : Array Value) (hx : a.eval x = .pointer (some ⟨g, o + p, none⟩)) (hy : a.eval y = .agg cs) (h : OL e sz B w (some ⟨g, o, none⟩) c n C) (h0 : 0 < c) (hcs : cs.size = sz) (hp : p + sz ≤ C.length) (h1 : ∀ v ∈ cs.toList, v.oneCell' = true)
    (hk : ∀ w', OL e sz B w' (some ⟨g, o, none⟩) c n (C.take p ++ cs.toList ++ C.drop (p + sz)) → Kept (At_ (some ⟨g, o, none⟩) c) w w' → wpList P ops Q rest (a.put o'.dst undef) w') : wpList P ops Q (o' :: rest) a w := by
  have hl : cs.toList.length = sz := by simpa using hcs
  obtain ⟨h3, h4⟩ := h.splice p cs.toList (by rw [hl]; exact hp) h0
  rw [hl] at h3
  refine wpList_plain hgd fun K hK => ?_
  have hrun := run_storeOwn (P := P) E h cs hcs hp h1
  unfold Oper.wp execOp
  simp only [ho, hx, hy, Instr.storeAt, Instr.sureAddr, Sem.run_bind, Sem.run_pure, Result.andThen_ok, hrun]
  exact hK _ _ (hk _ h3 h4)
/-- All from a place on moved by one, over the last one. -/
theorem OL.moved {α : Type} {f : α → List Value} {sz : Nat} (hf : ∀ x, (f x).length = sz) {e : TypeId} {B : Nat} {w : World} {g o c n : Nat} {l : List α} {t x : α} {k : Nat} (hx : l[k]? = some x) (hn : n = l.length + 1) (h : OL e sz B w (some ⟨g, o, none⟩) c n ((l ++ [t]).flatMap f)) :
    OL e sz B (w.setCells g (o + (k + 1) * sz) ((((l ++ [t]).flatMap f).drop (k * sz)).take ((n - (k + 1)) * sz))) (some ⟨g, o, none⟩) c n ((l.take k ++ x :: l.drop k).flatMap f) ∧ Kept (At_ (some ⟨g, o, none⟩) c) w (w.setCells g (o + (k + 1) * sz) ((((l ++ [t]).flatMap f).drop (k * sz)).take ((n - (k + 1)) * sz))) := by
  subst hn
  have hk := (List.getElem?_eq_some_iff.1 hx).1
  have h0 : 0 < c := by have := h.sl.1; omega
  have e1 : (((l ++ [t]).flatMap f).drop (k * sz)).take ((l.length + 1 - (k + 1)) * sz) = (l.drop k).flatMap f := by
    rw [← flat_drop hf, ← flat_take hf, List.drop_append_of_le_length (by omega), List.take_append_of_le_length (by rw [List.length_drop]; omega), List.take_of_length_le (by rw [List.length_drop]; omega)]
  have e2 : ((l.drop k).flatMap f).length = (l.length - k) * sz := by rw [len_flatS hf, List.length_drop]
  have e3 : ((l ++ [t]).flatMap f).length = (l.length + 1) * sz := by rw [len_flatS hf, List.length_append]; rfl
  have e4 : (k + 1) * sz + (l.length - k) * sz = (l.length + 1) * sz := by rw [← Nat.add_mul]; congr 1; omega
  rw [e1]
  obtain ⟨h1, h2⟩ := h.splice ((k + 1) * sz) ((l.drop k).flatMap f) (by rw [e2, e3, e4]; exact Nat.le_refl _) h0
  refine ⟨?_, h2⟩
  have e5 : ((l ++ [t]).flatMap f).take ((k + 1) * sz) ++ (l.drop k).flatMap f ++ ((l ++ [t]).flatMap f).drop ((k + 1) * sz + ((l.drop k).flatMap f).length) = (l.take k ++ x :: l.drop k).flatMap f := by
    have e6 : ((l ++ [t]).flatMap f).drop ((l.length + 1) * sz) = [] := List.drop_eq_nil_of_le (by rw [e3]; exact Nat.le_refl _)
    rw [e2, e4, e6, List.append_nil, ← flat_take hf, List.take_append_of_le_length (by omega), List.take_add_one, hx]
    simp
  rw [e5] at h1
  exact h1
theorem flat_at {α : Type} {f : α → List Value} {sz : Nat} (hf : ∀ x, (f x).length = sz) (l : List α) (k : Nat) (x t : α) (hk : k ≤ l.length) : ((l.take k ++ x :: l.drop k).flatMap f).take (k * sz) ++ f t ++ ((l.take k ++ x :: l.drop k).flatMap f).drop (k * sz + sz) = (l.take k ++ t :: l.drop k).flatMap f := by
  have hl : (l.take k).length = k := by rw [List.length_take]; omega
  rw [← flat_take hf, ← Nat.succ_mul, ← flat_drop hf, List.take_append_of_le_length (by omega), List.take_of_length_le (by omega), List.drop_append, hl, List.drop_eq_nil_of_le (by omega), Nat.succ_sub (Nat.le_refl _), Nat.sub_self]
  simp
theorem step_copyOwn {P : Program} {t e : TypeId} {sz by_ B : Nat} {z : Value} (E : El P t e sz z by_) {ops : Array Oper} {o' : Oper} {a : Act} {w : World} {K : Act → World → Prop} {Q : Exit → Act → World → Prop} {X : Prop} (hgd : o'.guard = none) (dx sx : Operand) (ho : o'.op = .call { callee := .builtin .copy, args := #[dx, sx], argTypes := #[t, t] })
    {g o c n k : Nat} {C : List Value} (hx : a.eval dx = .slice (backAt (some ⟨g, o, none⟩) c (k + 1) sz) (n - (k + 1)) (c - (k + 1))) (hy : a.eval sx = .slice (backAt (some ⟨g, o, none⟩) c k sz) (n - k) (c - k)) (h : OL e sz B w (some ⟨g, o, none⟩) c n C) (hk : k + 1 < n) (h1 : ∀ v ∈ C, v.oneCell' = true)
    (hq : K (a.put o'.dst (goInt ((n - (k + 1) : Nat) : Int))) (w.setCells g (o + (k + 1) * sz) ((C.drop (k * sz)).take ((n - (k + 1)) * sz)))) :
    if Region.wanted o' (yielded ops a.tmps) = true then Oper.wp P o' a w K Q else X := by
  have hw : Region.wanted o' (yielded ops a.tmps) = true := by simp [Region.wanted, hgd]
  rw [if_pos hw]
  have hr := run_copyOwn E o'.type h hk h1
  unfold Oper.wp execOp
  simp only [ho, resolve, invoke, builtin, Sem.run_bind, Sem.run_pure, Result.andThen_ok, List.map_toArray, List.map_cons, List.map_nil, hx, hy, hr]
  exact hq
/-- What is told of where the list lies behind an append, too. -/
theorem OL.append2 {P : Program} {t e : TypeId} {sz by_ B : Nat} {z : Value} (E : El P t e sz z by_) (ty tx : TypeId) {w : World} {s : Option Addr} {c n n2 : Nat} {C C2 : List Value} {x : Value} (h : OL e sz B w s c n C) (hB : B ≤ w.heap.size) (hs : Src P sz tx x n2 C2 w) (hl : n + n2 ≤ 1000000) :
    ∃ s' c' w', (Builtin.append_ #[t, tx] ty #[.slice s n c, x]).run P w = .ok (.slice s' (n + n2) c') w' ∧ OL e sz B w' s' c' (n + n2) (C ++ C2) ∧ Kept (At_ s c) w w' ∧ ∀ g, At_ s' c' g → At_ s c g ∨ w.heap.size ≤ g := by
  obtain ⟨s', c', w', hr, h4, h5⟩ := OL.append E ty tx h hB hs hl
  obtain ⟨s2, c2, w2, hr2, _, _, h6⟩ := run_append E ty tx h.sl hs hl
  rw [hr] at hr2
  injection hr2 with e1 e2
  injection e1 with e1 _ e3
  subst e1 e3
  refine ⟨s', c', w', hr, h4, h5, fun g hg => ?_⟩
  rcases h6 with ⟨e1, e2⟩ | e1
  · subst e1 e2
    exact Or.inl hg
  · rw [e1] at hg
    exact Or.inr (Nat.le_of_eq (Option.some.inj hg.2))
theorem wpList_append2 {P : Program} {t e : TypeId} {sz by_ B : Nat} {z : Value} (E : El P t e sz z by_) {ops : Array Oper} {rest : List Oper} {o : Oper} {a : Act} {w : World} {Q : Exit → Act → World → Prop} (hgd : o.guard = none) (x y : Operand) (tx : TypeId) (ho : o.op = .call { callee := .builtin .append, args := #[x, y], argTypes := #[t, tx] })
    {s : Option Addr} {n n2 c : Nat} {C C2 : List Value} {v : Value} (hx : a.eval x = .slice s n c) (hy : a.eval y = v) (h : OL e sz B w s c n C) (hB : B ≤ w.heap.size) (hs : Src P sz tx v n2 C2 w) (hl : n + n2 ≤ 1000000)
    (hk : ∀ s' c' n' w', n' = n + n2 → OL e sz B w' s' c' n' (C ++ C2) → Kept (At_ s c) w w' → (∀ g, At_ s' c' g → At_ s c g ∨ w.heap.size ≤ g) → wpList P ops Q rest (a.put o.dst (.slice s' n' c')) w') : wpList P ops Q (o :: rest) a w := by
  obtain ⟨s', c', w', hr, h4, h5, h6⟩ := OL.append2 E o.type tx h hB hs hl
  refine wpList_plain hgd fun K hK => ?_
  unfold Oper.wp execOp
  simp only [ho, resolve, invoke, builtin, Sem.run_bind, Sem.run_pure, Result.andThen_ok, List.map_toArray, List.map_cons, List.map_nil, hx, hy, hr]
  exact hK _ _ (hk s' c' _ w' rfl h4 h5 h6)
end Go.Proofs.YtnbfnipdiffphaaDoor.Sg
