/- Slices in general: what can be read, what has room behind it; append, cut, one cell set. Nothing of the program is in it. -/
import Derived.Test.YtnbfnipdiffphaaDoorMv
import Derived.Deep.Upon
import Derived.Deep.AppendLies
namespace Go.Proofs.YtnbfnipdiffphaaDoor
open Go.RowKit
set_option linter.unusedVariables false
namespace Sg
theorem frozen_blk {w w' : World} {g k : Nat} (h : w'.heap[g]? = w.heap[g]?) : w'.frozen? ⟨g, k, none⟩ = w.frozen? ⟨g, k, none⟩ := by unfold World.frozen?; rw [h]
theorem cell_blk {w w' : World} {g k : Nat} (h : w'.heap[g]? = w.heap[g]?) : w'.cell? ⟨g, k, none⟩ = w.cell? ⟨g, k, none⟩ := by unfold World.cell?; rw [h]
theorem add_at (g o j : Nat) : (⟨g, o, none⟩ : Addr).add j = ⟨g, o + j, none⟩ := by unfold Addr.add; split <;> simp_all
/-- A slice type, and what its elements are. -/
structure El (P : Program) (t e : TypeId) (sz : Nat) (z : Value) (by_ : Nat) : Prop where
  und : P.underlying t = some (.slice e)
  info : (P.info? e).map (fun i => (i.zero, i.size, i.bytes)) = some (some z, sz, by_)
  zc : z.cells.size = sz
  small : by_ ≤ 1000
/-- A list with all of its room. -/
def SL (w : World) (sz : Nat) (s : Option Addr) (c n : Nat) (C : List Value) : Prop :=
  n ≤ c ∧ c ≤ maxLen ∧ C.length = n * sz ∧ (c = 0 ∨ ∃ g o, s = some ⟨g, o, none⟩ ∧ g < w.heap.size ∧ (∀ k v, C[k]? = some v → w.cell? ⟨g, o + k, none⟩ = some v) ∧ ∀ j, j < c * sz → (w.cell? ⟨g, o + j, none⟩).isSome = true ∧ w.frozen? ⟨g, o + j, none⟩ = false)
theorem SL.nil (w : World) (sz : Nat) : SL w sz none 0 0 [] := ⟨Nat.le_refl _, Nat.zero_le _, by simp, Or.inl rfl⟩
theorem SL.li {w : World} {sz : Nat} {s : Option Addr} {c n : Nat} {C : List Value} (h : SL w sz s c n C) : LI w s c n C := by
  refine ⟨h.1, h.2.1, ?_⟩
  rcases h.2.2.2 with h0 | ⟨g, o, rfl, hg, hc, hr⟩
  · exact Or.inl (by have := h.1; omega)
  · exact Or.inr ⟨g, o, rfl, hg, hc⟩
theorem SL.kept {w w' : World} {sz : Nat} {s : Option Addr} {c n : Nat} {C : List Value} {F : Nat → Prop} (h : SL w sz s c n C) (hk : Kept F w w') (hs : ∀ q, s = some q → ¬ F q.block) : SL w' sz s c n C := by
  refine ⟨h.1, h.2.1, h.2.2.1, ?_⟩
  rcases h.2.2.2 with h0 | ⟨g, o, rfl, hg, hc, hr⟩
  · exact Or.inl h0
  · have e := hk.block g hg (hs _ rfl)
    exact Or.inr ⟨g, o, rfl, Nat.lt_of_lt_of_le hg hk.size, fun k v hk => (cell_blk e).trans (hc k v hk), fun j hj => ⟨by rw [cell_blk e]; exact (hr j hj).1, by rw [frozen_blk e]; exact (hr j hj).2⟩⟩
theorem SL.on {w w' : World} {sz : Nat} {s : Option Addr} {c n : Nat} {C : List Value} (h : SL w sz s c n C) (hb : Below w.heap.size w w') : SL w' sz s c n C := h.kept (Kept.of_below (F := fun _ => False) hb) (fun _ _ k => k)
theorem SL.lt {w : World} {sz : Nat} {s : Option Addr} {c n : Nat} {C : List Value} (h : SL w sz s c n C) (h0 : 0 < c) : ∀ q, s = some q → q.block < w.heap.size := by
  rintro q rfl
  rcases h.2.2.2 with h1 | ⟨g, o, e, hg, hc, hr⟩
  · omega
  · injection e with e; subst e; exact hg
end Sg
theorem LI.kept {w w' : World} {s : Option Addr} {cap n : Nat} {C : List Value} {F : Nat → Prop} (h : LI w s cap n C) (hk : Kept F w w') (hs : ∀ q, 0 < n → s = some q → ¬ F q.block) : LI w' s cap n C := by
  refine ⟨h.1, h.2.1, ?_⟩
  rcases h.2.2 with h0 | ⟨g, o, rfl, hg, hc⟩
  · exact Or.inl h0
  · by_cases h0 : n = 0
    · exact Or.inl h0
    have e := hk.block g hg (hs _ (by omega) rfl)
    exact Or.inr ⟨g, o, rfl, Nat.lt_of_lt_of_le hg hk.size, fun k v hk => (Sg.cell_blk e).trans (hc k v hk)⟩
namespace Sg
/-- What an append takes of a list that can be read. -/
theorem src_li {P : Program} {w : World} {t e : TypeId} {sz : Nat} {s : Option Addr} {c n : Nat} {C : List Value} (ht : P.underlying t = some (.slice e)) (h : LI w s c n C) (hl : C.length = n * sz) (h1 : ∀ u ∈ C, u.oneCell' = true) : Src P sz t (.slice s n c) n C w := by
  by_cases h0 : n = 0
  · subst h0
    obtain rfl : C = [] := List.eq_nil_of_length_eq_zero (by simpa using hl)
    cases s with
    | none => exact Src.ofNil w ht c
    | some a => exact Src.ofSlice w ht a 0 c [] (by simp) (fun j u hu => by simp at hu) (fun u hu => by simp at hu)
  · rcases h.2.2 with h2 | ⟨g, o, rfl, hg, hc⟩
    · exact absurd h2 h0
    · exact Src.ofSlice w ht _ n c C hl (fun j u hu => by rw [add_at]; exact hc j u hu) h1
theorem setCells_size (g : Nat) (vs : List Value) : ∀ (o : Nat) (w : World), (w.setCells g o vs).heap.size = w.heap.size := by
  induction vs with
  | nil => intro o w; rfl
  | cons v r ih => intro o w; rw [World.setCells, ih]; simp
theorem setCells_kept (g : Nat) (vs : List Value) : ∀ (o : Nat) (w : World), Kept (fun j => j = g) w (w.setCells g o vs) := by
  induction vs with
  | nil => intro o w; exact Kept.refl _ _
  | cons v r ih => intro o w; rw [World.setCells]; exact (Kept.set (F := fun j => j = g) w ⟨g, o, none⟩ v rfl).trans (ih _ _) (fun g hg => Or.inl hg)
theorem isSome_setCells (g : Nat) (vs : List Value) : ∀ (o : Nat) (w : World) (x : Addr), (w.cell? x).isSome = true → ((w.setCells g o vs).cell? x).isSome = true := by
  induction vs with
  | nil => intro o w x h; exact h
  | cons v r ih =>
    intro o w x h
    rw [World.setCells]
    refine ih _ _ _ ?_
    by_cases e : x = ⟨g, o, none⟩
    · subst e
      obtain ⟨u, hu⟩ := Option.isSome_iff_exists.1 h
      rw [World.cell?_setCell_same _ _ _ hu]; rfl
    · rw [World.cell?_setCell_other _ _ _ _ (fun k => e k.symm)]; exact h
/-- append(a, what the source yields). -/
theorem run_append {P : Program} {t e : TypeId} {sz by_ : Nat} {z : Value} (E : El P t e sz z by_) (ty tx : TypeId) {w : World} {s : Option Addr} {c n n2 : Nat} {C C2 : List Value} {x : Value} (h : SL w sz s c n C) (hs : Src P sz tx x n2 C2 w) (hl : n + n2 ≤ 1000000) :
    ∃ s' c' w', (Builtin.append_ #[t, tx] ty #[.slice s n c, x]).run P w = .ok (.slice s' (n + n2) c') w' ∧ SL w' sz s' c' (n + n2) (C ++ C2) ∧
      Kept (fun g => 0 < c ∧ s.map (·.block) = some g) w w' ∧ (s' = s ∧ c' = c ∨ s' = some ⟨w.heap.size, 0, none⟩) := by
  obtain ⟨i0, hi, hz0, hz1, hz2⟩ := info_parts E.info
  have hs0 : Src P i0.size tx x n2 C2 w := by rw [hz1]; exact hs
  have hlen : (C ++ C2).length = (n + n2) * sz := by rw [List.length_append, h.2.2.1, hs.newsLen, Nat.add_mul]
  by_cases h0 : n2 = 0
  · subst h0
    obtain rfl : C2 = [] := List.eq_nil_of_length_eq_zero (by simpa using hs.newsLen)
    have hr := run_append_nothing (P := P) w t tx ty e i0 E.und hi s n c h.1 x hs0
    exact ⟨s, c, w, hr, by rw [List.append_nil]; exact h, Kept.refl _ _, Or.inl ⟨rfl, rfl⟩⟩
  · by_cases hroom : n + n2 ≤ c
    · rcases h.2.2.2 with hc0 | ⟨g, o, rfl, hg, hc, hr⟩
      · omega
      · have hsp : ∀ j, j < C2.length → (w.cell? ⟨g, o + n * sz + j, none⟩).isSome = true ∧ w.frozen? ⟨g, o + n * sz + j, none⟩ = false := fun j hj => by
          have := hr (n * sz + j) (by
            rw [hs.newsLen] at hj
            have h2 : (n + n2) * sz ≤ c * sz := Nat.mul_le_mul_right sz hroom
            rw [Nat.add_mul] at h2
            omega)
          rwa [← Nat.add_assoc] at this
        have hrun := run_append_room_src (P := P) w t tx ty e i0 E.und hi g o n c x n2 C2 hs0 hroom (fun j hj => by rw [hz1]; exact (hsp j hj).1) (fun j hj => by rw [hz1]; exact (hsp j hj).2)
        rw [hz1] at hrun
        refine ⟨_, _, _, hrun, ⟨hroom, h.2.1, hlen, Or.inr ⟨g, o, rfl, ?_, fun k v hk => ?_, fun j hj => ?_⟩⟩, ?_, Or.inl ⟨rfl, rfl⟩⟩
        · rw [setCells_size]; exact hg
        · by_cases hkl : k < C.length
          · rw [List.getElem?_append_left hkl] at hk
            rw [World.cell?_setCells_out g _ _ _ _ (fun _ _ => Or.inl (by show o + k < o + n * sz; rw [h.2.2.1] at hkl; omega))]
            exact hc k v hk
          · rw [List.getElem?_append_right (by omega)] at hk
            have hj := (List.getElem?_eq_some_iff.1 hk).1
            have := World.cell?_setCells_in g C2 (o + n * sz) w (fun j hj => (hsp j hj).1) (k - C.length) hj
            have e1 : o + n * sz + (k - C.length) = o + k := by rw [h.2.2.1] at hkl ⊢; omega
            rw [e1] at this
            rw [this, ← hk]
            exact (List.getElem?_eq_getElem _).symm
        · exact ⟨isSome_setCells _ _ _ _ _ (hr j hj).1, by rw [World.frozen?_setCells]; exact (hr j hj).2⟩
        · exact (setCells_kept g C2 _ w).mono (fun j hj => ⟨by omega, by rw [hj]; rfl⟩)
    · have hold : (Builtin.firstCells i0.size n (.slice s n c)).run P w.drew = .ok C.toArray w.drew := by
        rcases h.2.2.2 with hc0 | ⟨g, o, rfl, hg, hc, hr⟩
        · obtain rfl : n = 0 := by have := h.1; omega
          obtain rfl : C = [] := List.eq_nil_of_length_eq_zero (by simpa using h.2.2.1)
          cases s with
          | none => exact run_firstCells_none w.drew _ 0 0 c
          | some x => exact run_firstCells_some w.drew _ _ _ _ _ [] (by simp) (fun j u hu => by simp at hu)
        · exact run_firstCells_some w.drew _ _ _ _ _ C (by rw [hz1]; exact h.2.2.1) (fun j u hu => by rw [add_at]; exact hc j u hu)
      have hby : i0.bytes ≤ 1000 := by rw [hz2]; exact E.small
      have hmx : (n + n2) * i0.bytes ≤ 1000000 * 1000 := Nat.mul_le_mul hl hby
      have hrun := run_append_grow_src (P := P) w t tx ty e i0 z E.und hi hz0 s n c C hold x n2 C2 hs0 (by omega) (by omega) (growslice_fits (by omega) (by omega))
      have hge := grownCap_ge w (n + n2) c e
      have hle := grownCap_le_maxLen w (n + n2) c e (by simp only [maxLen]; omega)
      refine ⟨_, _, _, hrun, ?_, Kept.of_below (((Below.refl _ _).drew).alloc (Nat.le_refl _) _), Or.inr rfl⟩
      have hh := heap_alloc_new w.drew (.cells ((C ++ C2).toArray ++ Builtin.zeroCells z.cells (grownCap w (n + n2) c e - (n + n2))) e)
      have hsz : ((C ++ C2).toArray ++ Builtin.zeroCells z.cells (grownCap w (n + n2) c e - (n + n2))).size = grownCap w (n + n2) c e * sz := by
        rw [Array.size_append, size_zeroCells, List.size_toArray, hlen, E.zc, ← Nat.add_mul]
        congr 1
        omega
      refine ⟨hge, hle, hlen, Or.inr ⟨w.heap.size, 0, rfl, by simp, fun k v hk => ?_, fun j hj => ⟨?_, frozen_of_row _ _ _ _ _ hh⟩⟩⟩
      · rw [Nat.zero_add]
        refine (cell_of_row _ _ _ _ _ _ hh).trans ?_
        rw [Array.getElem?_append_left (by simpa using (List.getElem?_eq_some_iff.1 hk).1), List.getElem?_toArray]
        exact hk
      · rw [Nat.zero_add]
        have := cell_of_row (w.drew.alloc _) w.heap.size j _ _ _ hh
        refine Option.isSome_iff_exists.2 ⟨_, this.trans (Array.getElem?_eq_getElem ?_)⟩
        rw [hsz]
        exact hj
theorem wpList_append {P : Program} {t e : TypeId} {sz by_ : Nat} {z : Value} (E : El P t e sz z by_) {ops : Array Oper} {rest : List Oper} {o : Oper} {a : Act} {w : World} {Q : Exit → Act → World → Prop} (hgd : o.guard = none) (x y : Operand) (tx : TypeId) (ho : o.op = .call { callee := .builtin .append, args := #[x, y], argTypes := #[t, tx] })
    {s : Option Addr} {n n2 c : Nat} {C C2 : List Value} {v : Value} (hx : a.eval x = .slice s n c) (hy : a.eval y = v) (h : SL w sz s c n C) (hs : Src P sz tx v n2 C2 w) (hl : n + n2 ≤ 1000000)
    (hk : ∀ s' c' w', SL w' sz s' c' (n + n2) (C ++ C2) → Kept (fun g => 0 < c ∧ s.map (·.block) = some g) w w' → (s' = s ∧ c' = c ∨ s' = some ⟨w.heap.size, 0, none⟩) → wpList P ops Q rest (a.put o.dst (.slice s' (n + n2) c')) w') : wpList P ops Q (o :: rest) a w := by
  obtain ⟨s', c', w', hr, h4, h5, h6⟩ := run_append E o.type tx h hs hl
  refine wpList_plain hgd fun K hK => ?_
  unfold Oper.wp execOp
  simp only [ho, resolve, invoke, builtin, Sem.run_bind, Sem.run_pure, Result.andThen_ok, List.map_toArray, List.map_cons, List.map_nil, hx, hy, hr]
  exact hK _ _ (hk s' c' w' h4 h5 h6)
theorem step_append {P : Program} {t e : TypeId} {sz by_ : Nat} {z : Value} (E : El P t e sz z by_) {ops : Array Oper} {o : Oper} {a : Act} {w : World} {K : Act → World → Prop} {Q : Exit → Act → World → Prop} {X : Prop} (hgd : o.guard = none) (x y : Operand) (tx : TypeId) (ho : o.op = .call { callee := .builtin .append, args := #[x, y], argTypes := #[t, tx] })
    {s : Option Addr} {n n2 c : Nat} {C C2 : List Value} {v : Value} (hx : a.eval x = .slice s n c) (hy : a.eval y = v) (h : SL w sz s c n C) (hs : Src P sz tx v n2 C2 w) (hl : n + n2 ≤ 1000000)
    (hk : ∀ s' c' w', SL w' sz s' c' (n + n2) (C ++ C2) → Kept (fun g => 0 < c ∧ s.map (·.block) = some g) w w' → (s' = s ∧ c' = c ∨ s' = some ⟨w.heap.size, 0, none⟩) → K (a.put o.dst (.slice s' (n + n2) c')) w') :
    if Region.wanted o (yielded ops a.tmps) = true then Oper.wp P o a w K Q else X := by
  have hw : Region.wanted o (yielded ops a.tmps) = true := by simp [Region.wanted, hgd]
  rw [if_pos hw]
  obtain ⟨s', c', w', hr, h4, h5, h6⟩ := run_append E o.type tx h hs hl
  unfold Oper.wp execOp
  simp only [ho, resolve, invoke, builtin, Sem.run_bind, Sem.run_pure, Result.andThen_ok, List.map_toArray, List.map_cons, List.map_nil, hx, hy, hr]
  exact hk s' c' w' h4 h5 h6
theorem setCells_row (g : Nat) (t : TypeId) (vs : List Value) : ∀ (o : Nat) (w : World) (cur : Array Value), w.heap[g]? = some (.cells cur t (0, 0)) → ∃ cur', (w.setCells g o vs).heap[g]? = some (.cells cur' t (0, 0)) := by
  induction vs with
  | nil => intro o w cur h; exact ⟨cur, h⟩
  | cons v r ih => intro o w cur h; rw [World.setCells]; exact ih _ _ _ (heap_setCell_same _ _ _ _ _ _ h)
/-- A list of one's own: with its room, in a block of its type that isn't older than so many. -/
structure OL (e : TypeId) (sz B : Nat) (w : World) (s : Option Addr) (c n : Nat) (C : List Value) : Prop where
  sl : SL w sz s c n C
  ty : 0 < c → ∃ g o cur, s = some ⟨g, o, none⟩ ∧ B ≤ g ∧ w.heap[g]? = some (.cells cur e (0, 0))
theorem OL.nil (e : TypeId) (sz B : Nat) (w : World) : OL e sz B w none 0 0 [] := ⟨SL.nil w sz, fun h => absurd h (Nat.lt_irrefl 0)⟩
theorem OL.mono {e : TypeId} {sz B B' : Nat} {w : World} {s : Option Addr} {c n : Nat} {C : List Value} (h : OL e sz B w s c n C) (hB : B' ≤ B) : OL e sz B' w s c n C :=
  ⟨h.sl, fun h0 => by obtain ⟨g, o, cur, a, b, d⟩ := h.ty h0; exact ⟨g, o, cur, a, Nat.le_trans hB b, d⟩⟩
/-- What an append onto such a list may change. -/
abbrev At_ (s : Option Addr) (c : Nat) : Nat → Prop := fun g => 0 < c ∧ s.map (·.block) = some g
theorem OL.kept {e : TypeId} {sz B : Nat} {w w' : World} {s : Option Addr} {c n : Nat} {C : List Value} {F : Nat → Prop} (h : OL e sz B w s c n C) (hk : Kept F w w') (hs : ∀ g, At_ s c g → ¬ F g) : OL e sz B w' s c n C := by
  by_cases h0 : 0 < c
  · obtain ⟨g, o, cur, e1, hB, hh⟩ := h.ty h0
    have hn : ¬ F g := hs g ⟨h0, by rw [e1]; rfl⟩
    refine ⟨h.sl.kept hk (fun q hq => ?_), fun _ => ⟨g, o, cur, e1, hB, (hk.block g (Array.getElem?_eq_some_iff.1 hh).1 hn).trans hh⟩⟩
    rw [e1] at hq
    injection hq with hq
    subst hq
    exact hn
  · exact ⟨⟨h.sl.1, h.sl.2.1, h.sl.2.2.1, Or.inl (by omega)⟩, fun k => absurd k h0⟩
theorem OL.on {e : TypeId} {sz B : Nat} {w w' : World} {s : Option Addr} {c n : Nat} {C : List Value} (h : OL e sz B w s c n C) (hb : Below w.heap.size w w') : OL e sz B w' s c n C := h.kept (Kept.of_below (F := fun _ => False) hb) (fun _ _ k => k)
/-- Blocks of another type stay. -/
theorem OL.row {e : TypeId} {sz B : Nat} {w w' : World} {s : Option Addr} {c n : Nat} {C : List Value} (h : OL e sz B w s c n C) (hk : Kept (At_ s c) w w') {T : TypeId} {p : Nat} {cs : Array Value} (hr : RowT T w p cs) (hT : T ≠ e) : RowT T w' p cs := by
  refine hr.kept hk (fun ⟨h0, e1⟩ => ?_)
  obtain ⟨g, o, cur, e2, hB, hh⟩ := h.ty h0
  rw [e2] at e1
  injection e1 with e1
  dsimp only at e1
  subst e1
  have h3 : w.heap[g]? = some (.cells cs T (0, 0)) := hr
  rw [hh] at h3
  injection h3 with h3
  injection h3 with _ h3
  exact hT h3.symm
theorem OL.below {e : TypeId} {sz B : Nat} {w w' : World} {s : Option Addr} {c n : Nat} {C : List Value} (h : OL e sz B w s c n C) (hk : Kept (At_ s c) w w') (hB : B ≤ w.heap.size) : Below B w w' :=
  hk.below (fun g ⟨h0, e1⟩ => by
    obtain ⟨g', o, cur, e2, hB', hh⟩ := h.ty h0
    rw [e2] at e1
    injection e1 with e1
    dsimp only at e1
    omega) hB
theorem OL.append {P : Program} {t e : TypeId} {sz by_ B : Nat} {z : Value} (E : El P t e sz z by_) (ty tx : TypeId) {w : World} {s : Option Addr} {c n n2 : Nat} {C C2 : List Value} {x : Value} (h : OL e sz B w s c n C) (hB : B ≤ w.heap.size) (hs : Src P sz tx x n2 C2 w) (hl : n + n2 ≤ 1000000) :
    ∃ s' c' w', (Builtin.append_ #[t, tx] ty #[.slice s n c, x]).run P w = .ok (.slice s' (n + n2) c') w' ∧ OL e sz B w' s' c' (n + n2) (C ++ C2) ∧ Kept (At_ s c) w w' := by
  obtain ⟨i0, hi, hz0, hz1, hz2⟩ := info_parts E.info
  obtain ⟨s', c', w', hr, h4, h5, h6⟩ := run_append E ty tx h.sl hs hl
  refine ⟨s', c', w', hr, ⟨h4, fun h0 => ?_⟩, h5⟩
  by_cases hroom : n + n2 ≤ c
  · by_cases hn2 : n2 = 0
    · subst hn2
      obtain rfl : C2 = [] := List.eq_nil_of_length_eq_zero (by simpa using hs.newsLen)
      have hr2 := run_append_nothing (P := P) w t tx ty e i0 E.und hi s n c h.sl.1 x (by rw [hz1]; exact hs)
      rw [hr] at hr2
      injection hr2 with e1 e2
      injection e1 with e1 e3 e4
      subst e1 e2 e4
      exact h.ty h0
    · obtain ⟨g, o, cur, e1, hBg, hh⟩ := h.ty (by omega)
      subst e1
      rcases h.sl.2.2.2 with hc0 | ⟨g', o', e2, hg, hc, hrr⟩
      · omega
      · injection e2 with e2
        injection e2 with e2 e3
        subst e2 e3
        have hsp : ∀ j, j < C2.length → (w.cell? ⟨g, o + n * sz + j, none⟩).isSome = true ∧ w.frozen? ⟨g, o + n * sz + j, none⟩ = false := fun j hj => by
          have := hrr (n * sz + j) (by
            rw [hs.newsLen] at hj
            have h2 : (n + n2) * sz ≤ c * sz := Nat.mul_le_mul_right sz hroom
            rw [Nat.add_mul] at h2
            omega)
          rwa [← Nat.add_assoc] at this
        have hr2 := run_append_room_src (P := P) w t tx ty e i0 E.und hi g o n c x n2 C2 (by rw [hz1]; exact hs) hroom (fun j hj => by rw [hz1]; exact (hsp j hj).1) (fun j hj => by rw [hz1]; exact (hsp j hj).2)
        rw [hr] at hr2
        injection hr2 with e1 e2
        injection e1 with e1 e3 e4
        subst e1 e2 e4
        obtain ⟨cur', hh'⟩ := setCells_row g e C2 (o + n * i0.size) w cur hh
        exact ⟨g, o, cur', rfl, hBg, hh'⟩
  · have hnew : s' = some ⟨w.heap.size, 0, none⟩ := by
      rcases h6 with ⟨e1, e2⟩ | e1
      · have := h4.1; omega
      · exact e1
    have hold : (Builtin.firstCells i0.size n (.slice s n c)).run P w.drew = .ok C.toArray w.drew := by
      rcases h.sl.2.2.2 with hc0 | ⟨g, o, rfl, hg, hc, hr⟩
      · obtain rfl : n = 0 := by have := h.sl.1; omega
        obtain rfl : C = [] := List.eq_nil_of_length_eq_zero (by simpa using h.sl.2.2.1)
        cases s with
        | none => exact run_firstCells_none w.drew _ 0 0 c
        | some x => exact run_firstCells_some w.drew _ _ _ _ _ [] (by simp) (fun j u hu => by simp at hu)
      · exact run_firstCells_some w.drew _ _ _ _ _ C (by rw [hz1]; exact h.sl.2.2.1) (fun j u hu => by rw [add_at]; exact hc j u hu)
    have hby : i0.bytes ≤ 1000 := by rw [hz2]; exact E.small
    have hmx : (n + n2) * i0.bytes ≤ 1000000 * 1000 := Nat.mul_le_mul hl hby
    have hr2 := run_append_grow_src (P := P) w t tx ty e i0 z E.und hi hz0 s n c C hold x n2 C2 (by rw [hz1]; exact hs) (by omega) (by omega) (growslice_fits (by omega) (by omega))
    rw [hr] at hr2
    injection hr2 with e1 e2
    subst e2
    exact ⟨w.heap.size, 0, _, hnew, hB, heap_alloc_new w.drew _⟩
theorem wpList_appendO {P : Program} {t e : TypeId} {sz by_ B : Nat} {z : Value} (E : El P t e sz z by_) {ops : Array Oper} {rest : List Oper} {o : Oper} {a : Act} {w : World} {Q : Exit → Act → World → Prop} (hgd : o.guard = none) (x y : Operand) (tx : TypeId) (ho : o.op = .call { callee := .builtin .append, args := #[x, y], argTypes := #[t, tx] })
    {s : Option Addr} {n n2 c : Nat} {C C2 : List Value} {v : Value} (hx : a.eval x = .slice s n c) (hy : a.eval y = v) (h : OL e sz B w s c n C) (hB : B ≤ w.heap.size) (hs : Src P sz tx v n2 C2 w) (hl : n + n2 ≤ 1000000)
    (hk : ∀ s' c' n' w', n' = n + n2 → OL e sz B w' s' c' n' (C ++ C2) → Kept (At_ s c) w w' → wpList P ops Q rest (a.put o.dst (.slice s' n' c')) w') : wpList P ops Q (o :: rest) a w := by
  obtain ⟨s', c', w', hr, h4, h5⟩ := OL.append E o.type tx h hB hs hl
  refine wpList_plain hgd fun K hK => ?_
  unfold Oper.wp execOp
  simp only [ho, resolve, invoke, builtin, Sem.run_bind, Sem.run_pure, Result.andThen_ok, List.map_toArray, List.map_cons, List.map_nil, hx, hy, hr]
  exact hK _ _ (hk s' c' _ w' rfl h4 h5)
theorem step_appendO {P : Program} {t e : TypeId} {sz by_ B : Nat} {z : Value} (E : El P t e sz z by_) {ops : Array Oper} {o : Oper} {a : Act} {w : World} {K : Act → World → Prop} {Q : Exit → Act → World → Prop} {X : Prop} (hgd : o.guard = none) (x y : Operand) (tx : TypeId) (ho : o.op = .call { callee := .builtin .append, args := #[x, y], argTypes := #[t, tx] })
    {s : Option Addr} {n n2 c : Nat} {C C2 : List Value} {v : Value} (hx : a.eval x = .slice s n c) (hy : a.eval y = v) (h : OL e sz B w s c n C) (hB : B ≤ w.heap.size) (hs : Src P sz tx v n2 C2 w) (hl : n + n2 ≤ 1000000)
    (hk : ∀ s' c' n' w', n' = n + n2 → OL e sz B w' s' c' n' (C ++ C2) → Kept (At_ s c) w w' → K (a.put o.dst (.slice s' n' c')) w') :
    if Region.wanted o (yielded ops a.tmps) = true then Oper.wp P o a w K Q else X := by
  have hw : Region.wanted o (yielded ops a.tmps) = true := by simp [Region.wanted, hgd]
  rw [if_pos hw]
  obtain ⟨s', c', w', hr, h4, h5⟩ := OL.append E o.type tx h hB hs hl
  unfold Oper.wp execOp
  simp only [ho, resolve, invoke, builtin, Sem.run_bind, Sem.run_pure, Result.andThen_ok, List.map_toArray, List.map_cons, List.map_nil, hx, hy, hr]
  exact hk s' c' _ w' rfl h4 h5
/-- The source of an append that the walk itself has just laid in a new block. -/
theorem src_new {P : Program} {t e : TypeId} (ht : P.underlying t = some (.slice e)) (w : World) (T : TypeId) (sz n : Nat) (C : List Value) (hl : C.length = n * sz) (h1 : ∀ u ∈ C, u.oneCell' = true) : Src P sz t (.slice (some ⟨w.heap.size, 0, none⟩) n n) n C (w.alloc (.cells C.toArray T)) := by
  refine Src.ofSlice _ ht _ n n C hl (fun j u hu => ?_) h1
  rw [add_at, Nat.zero_add]
  refine (cell_of_row _ _ _ _ _ _ (heap_alloc_new w _)).trans ?_
  simpa using hu
theorem src_row {P : Program} {t e : TypeId} (ht : P.underlying t = some (.slice e)) {w : World} {T : TypeId} {g : Nat} (sz n : Nat) (C : List Value) (hl : C.length = n * sz) (h1 : ∀ u ∈ C, u.oneCell' = true) (h : RowT T w g C.toArray) : Src P sz t (.slice (some ⟨g, 0, none⟩) n n) n C w := by
  refine Src.ofSlice _ ht _ n n C hl (fun j u hu => ?_) h1
  rw [add_at, Nat.zero_add]
  refine (cell_of_row _ _ _ _ _ _ h).trans ?_
  simpa using hu
theorem OL.lt {e : TypeId} {sz B : Nat} {w : World} {s : Option Addr} {c n : Nat} {C : List Value} (h : OL e sz B w s c n C) : ∀ g, At_ s c g → g < w.heap.size := fun g ⟨h0, e1⟩ => by
  obtain ⟨g', o, cur, e2, _, hh⟩ := h.ty h0
  rw [e2] at e1
  injection e1 with e1
  dsimp only at e1
  subst e1
  exact (Array.getElem?_eq_some_iff.1 hh).1
end Sg
end Go.Proofs.YtnbfnipdiffphaaDoor
