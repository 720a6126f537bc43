/- A region that draws, walked by hand: what reads is taken ahead under S; behind the last writes (F), which wait for all that reads, nothing more is asked of the world. Nothing of the program is in it. -/
import Derived.Test.YtfempghbkchepaaDoorHl
namespace Go.Proofs.YtfempghbkchepaaDoor.Hm
open Go.RowKit
set_option linter.unusedVariables false
/-- Each of D waits for i, or for one of D. -/
def okD (md : Region.Mode) (ops : Array Oper) (i : Nat) (D : List Nat) : Bool := D.all fun d => match ops[d]? with
  | some o => o.after.toList.any fun e => Region.binds md e && (e.on == i || D.contains e.on)
  | none => false
/-- All that waits for i, whatever lies between. -/
def deps (md : Region.Mode) (ops : Array Oper) (i : Nat) : List Nat := (List.range ops.size).foldl (fun D j => match ops[j]? with
  | some o => if o.after.toList.any (fun e => Region.binds md e && (e.on == i || D.contains e.on)) then D ++ [j] else D
  | none => D) []
def unl (D : List Nat) (l : Array Bool) : Bool := D.all fun d => l.getD d true == false
theorem unl_of {D : List Nat} {l : Array Bool} (h : unl D l = true) {d : Nat} (hd : d ∈ D) : l.getD d true = false := by
  have := List.all_eq_true.1 h d hd
  simpa using this
theorem not_listed {l : Array Bool} {i : Nat} (h : l.getD i true = false) : l.getD i false = false := by
  rcases Nat.lt_or_ge i l.size with h' | h'
  · simp [h'] at h ⊢
    exact h
  · simp [Array.getElem?_eq_none h']
theorem ne_of_ready {md : Region.Mode} {ops : Array Oper} {l : Array Bool} {i j : Nat} {D : List Nat} (hD : okD md ops i D = true) (hu : unl D l = true) (hi : l.getD i true = false) (hj : j ∈ Region.ready md ops l) : j ∉ D := fun hd => by
  obtain ⟨_, o, ho, hall⟩ := mem_ready.1 hj
  have h1 := List.all_eq_true.1 hD j hd
  rw [ho] at h1
  obtain ⟨e, he, hb⟩ := List.any_eq_true.1 h1
  rw [Bool.and_eq_true, Bool.or_eq_true, beq_iff_eq] at hb
  have h2 := hall e (by simpa using he) hb.1
  rcases hb.2 with h3 | h3
  · rw [h3, not_listed hi] at h2
    cases h2
  · rw [not_listed (unl_of hu (by simpa using h3))] at h2
    cases h2
section
variable {P : Program} {ops : Array Oper} {Q : Exit → Act → World → Prop} {md : Region.Mode} {F : List Nat} {S : World → Prop}
/-- Whatever comes up: behind all but F the world keeps S. -/
def Any (P : Program) (md : Region.Mode) (ops : Array Oper) (Q : Exit → Act → World → Prop) (F : List Nat) (S : World → Prop) : Nat → Array Bool → Act → World → Prop
  | 0, l, a, w => Region.ready md ops l = [] ∧ Q .normal a w
  | n + 1, l, a, w => (Region.ready md ops l = [] → Q .normal a w) ∧ ∀ i ∈ Region.ready md ops l, wpOp P ops Q i (fun a' w' => (F.contains i = false → S w → S w') ∧ Any P md ops Q F S n (l.setIfInBounds i true) a' w') a w
theorem Any.plain : ∀ (n : Nat) (l : Array Bool) (a : Act) (w : World), Any P md ops Q F S n l a w → wpAny P md ops Q n l a w
  | 0, _, _, _, h => h
  | n + 1, _, _, _, h => ⟨h.1, fun i hi => wpOp_mono (fun a' w' k => Any.plain n _ a' w' k.2) (h.2 i hi)⟩
theorem Any.first {i : Nat} {o : Oper} {v : Value} {D : List Nat} (hi : ops[i]? = some o) (hD : okD md ops i D = true) (hF : ∀ f, F.contains f = true → f ∈ D) (hsel : ∀ (j : Nat) (o : Oper) cs b, ops[j]? = some o → o.op ≠ .select cs b) (hQ : ∀ c a w, Q (.panic c) (a.put o.dst v) w → Q (.panic c) a w) :
    ∀ (n : Nat) (l : Array Bool) (a : Act) (w : World), unl D l = true → (∀ j oj, ops[j]? = some oj → j ≠ i → l.getD j true = false → (∀ e ∈ oj.after, Region.binds md e = true → e.on ≠ i) → o.apart ops oj = true) →
      i ∈ Region.ready md ops l → YieldsIf P ops S o v a → S w → Any P md ops Q F S n (l.setIfInBounds i true) (a.put o.dst v) w → Any P md ops Q F S (n + 1) l a w := by
  intro n
  induction n with
  | zero =>
    intro l a w _ _ hr hy hS H
    refine ⟨fun h => absurd hr (by rw [h]; simp), fun j hj => ?_⟩
    by_cases hji : j = i
    · subst hji
      exact hy.wpOp hi hS ⟨fun _ _ => hS, H⟩
    · have h1 := ready_mono hj hji
      rw [H.1] at h1
      cases h1
  | succ n ih =>
    intro l a w hu hfree hr hy hS H
    refine ⟨fun h => absurd hr (by rw [h]; simp), fun j hj => ?_⟩
    by_cases hji : j = i
    · subst hji
      exact hy.wpOp hi hS ⟨fun _ _ => hS, H⟩
    · obtain ⟨hun, oj, hoj, hall⟩ := mem_ready.1 hj
      have h0 := (mem_ready.1 hr).1
      have hjD : j ∉ D := ne_of_ready hD hu h0 hj
      have hjF : F.contains j = false := by
        cases e : F.contains j with
        | false => rfl
        | true => exact absurd (hF j e) hjD
      have hnot : ∀ e ∈ oj.after, Region.binds md e = true → e.on ≠ i := fun e he hb heq => by
        have h1 := hall e he hb
        rw [heq, not_listed h0] at h1
        cases h1
      have h2 := wpOp_putIf hoj (hfree j oj hoj hji hun hnot) (fun cs b => hsel i o cs b hi) (fun cs b => hsel j oj cs b hoj) hQ hy (H.2 j (ready_mono hj hji))
      have hu' : unl D (l.setIfInBounds j true) = true := List.all_eq_true.2 fun d hd => by
        have hne : j ≠ d := fun e => hjD (e ▸ hd)
        rw [getD_set_ne true hne, unl_of hu hd]
        rfl
      refine wpOp_mono (fun a' w' h3 => ?_) h2
      have hS' := h3.2.1 hjF hS
      refine ⟨fun _ _ => hS', ih (l.setIfInBounds j true) a' w' hu' (fun k ok hk hki hkun hno => hfree k ok hk hki ?_ hno) (ready_mono hr (Ne.symm hji)) h3.1 hS' ?_⟩
      · by_cases hjk : j = k
        · subst hjk
          exact hun
        · rw [getD_set_ne true hjk] at hkun
          exact hkun
      · rw [Array.setIfInBounds_comm _ _ hji]
        exact h3.2.2
/-- What hangs on no world is taken ahead, whatever waits for it. -/
theorem Any.firstY {i : Nat} {o : Oper} {v : Value} (hi : ops[i]? = some o) (hsel : ∀ (j : Nat) (o : Oper) cs b, ops[j]? = some o → o.op ≠ .select cs b) (hQ : ∀ c a w, Q (.panic c) (a.put o.dst v) w → Q (.panic c) a w) :
    ∀ (n : Nat) (l : Array Bool) (a : Act) (w : World), (∀ j oj, ops[j]? = some oj → j ≠ i → l.getD j true = false → (∀ e ∈ oj.after, Region.binds md e = true → e.on ≠ i) → o.apart ops oj = true) →
      i ∈ Region.ready md ops l → YieldsIf P ops (fun _ => True) o v a → Any P md ops Q F S n (l.setIfInBounds i true) (a.put o.dst v) w → Any P md ops Q F S (n + 1) l a w := by
  intro n
  induction n with
  | zero =>
    intro l a w _ hr hy H
    refine ⟨fun h => absurd hr (by rw [h]; simp), fun j hj => ?_⟩
    by_cases hji : j = i
    · subst hji
      exact hy.wpOp hi trivial ⟨fun _ h => h, H⟩
    · have h1 := ready_mono hj hji
      rw [H.1] at h1
      cases h1
  | succ n ih =>
    intro l a w hfree hr hy H
    refine ⟨fun h => absurd hr (by rw [h]; simp), fun j hj => ?_⟩
    by_cases hji : j = i
    · subst hji
      exact hy.wpOp hi trivial ⟨fun _ h => h, H⟩
    · obtain ⟨hun, oj, hoj, hall⟩ := mem_ready.1 hj
      have h0 := (mem_ready.1 hr).1
      have hnot : ∀ e ∈ oj.after, Region.binds md e = true → e.on ≠ i := fun e he hb heq => by
        have h1 := hall e he hb
        rw [heq, not_listed h0] at h1
        cases h1
      have h2 := wpOp_putIf hoj (hfree j oj hoj hji hun hnot) (fun cs b => hsel i o cs b hi) (fun cs b => hsel j oj cs b hoj) hQ hy (H.2 j (ready_mono hj hji))
      refine wpOp_mono (fun a' w' h3 => ?_) h2
      refine ⟨h3.2.1, ih (l.setIfInBounds j true) a' w' (fun k ok hk hki hkun hno => hfree k ok hk hki ?_ hno) (ready_mono hr (Ne.symm hji)) h3.1 ?_⟩
      · by_cases hjk : j = k
        · subst hjk
          exact hun
        · rw [getD_set_ne true hjk] at hkun
          exact hkun
      · rw [Array.setIfInBounds_comm _ _ hji]
        exact h3.2.2
theorem takeY {i d : Nat} {op : Op} {ty : TypeId} {pos : String} {after : Array Edge} {guard : Option (Nat × Bool)} {v : Value} {n : Nat} {l : Array Bool} {a : Act} {w : World} (hi : ops[i]? = some ⟨some d, op, ty, pos, after, guard⟩)
    (hs : Region.noSelect ops = true) (hf : Region.free md ops l i = true) (hr : (Region.ready md ops l).contains i = true) (hQ : ∀ c a w, Q (.panic c) (a.put (some d) v) w → Q (.panic c) a w)
    (hw : Region.wanted ⟨some d, op, ty, pos, after, guard⟩ (yielded ops a.tmps) = true) (hy : ∀ w, (execOp a.eval ⟨some d, op, ty, pos, after, guard⟩).run P w = .ok (.value v) w)
    (h : Any P md ops Q F S n (l.setIfInBounds i true) (a.put (some d) v) w) : Any P md ops Q F S (n + 1) l a w :=
  Any.firstY hi (Region.noSelect_spec hs) hQ n l a w (Region.free_spec hi hf) (by simpa using hr) (Or.inl ⟨hw, fun w _ => hy w⟩) h
/-- Take what reads ahead. D: what waits for it. -/
theorem takeL {i d : Nat} {op : Op} {ty : TypeId} {pos : String} {after : Array Edge} {guard : Option (Nat × Bool)} {v : Value} {n : Nat} {l : Array Bool} {a : Act} {w : World} (D : List Nat) (hi : ops[i]? = some ⟨some d, op, ty, pos, after, guard⟩) (hD : okD md ops i D = true) (hu : unl D l = true) (hF : (F.all D.contains) = true)
    (hs : Region.noSelect ops = true) (hf : Region.free md ops l i = true) (hr : (Region.ready md ops l).contains i = true) (hQ : ∀ c a w, Q (.panic c) (a.put (some d) v) w → Q (.panic c) a w)
    (hw : Region.wanted ⟨some d, op, ty, pos, after, guard⟩ (yielded ops a.tmps) = true) (hy : ∀ w, S w → (execOp a.eval ⟨some d, op, ty, pos, after, guard⟩).run P w = .ok (.value v) w) (hS : S w)
    (h : Any P md ops Q F S n (l.setIfInBounds i true) (a.put (some d) v) w) : Any P md ops Q F S (n + 1) l a w :=
  Any.first hi hD (fun f hf => by have := List.all_eq_true.1 hF f (by simpa using hf); simpa using this) (Region.noSelect_spec hs) hQ n l a w hu (Region.free_spec hi hf) (by simpa using hr) (Or.inl ⟨hw, hy⟩) hS h
theorem takeM {i d : Nat} {op : Op} {ty : TypeId} {pos : String} {after : Array Edge} {guard : Option (Nat × Bool)} {v : Value} {n : Nat} {l : Array Bool} {a : Act} {w : World}  (hi : ops[i]? = some ⟨some d, op, ty, pos, after, guard⟩) (hD : okD md ops i (deps md ops i) = true) (hu : unl (deps md ops i) l = true) (hF : (F.all (deps md ops i).contains) = true)
    (hs : Region.noSelect ops = true) (hf : Region.free md ops l i = true) (hr : (Region.ready md ops l).contains i = true) (hQ : ∀ c a w, Q (.panic c) (a.put (some d) v) w → Q (.panic c) a w)
    (hw : Region.wanted ⟨some d, op, ty, pos, after, guard⟩ (yielded ops a.tmps) = true) (hy : ∀ w, S w → (execOp a.eval ⟨some d, op, ty, pos, after, guard⟩).run P w = .ok (.value v) w) (hS : S w)
    (h : Any P md ops Q F S n (l.setIfInBounds i true) (a.put (some d) v) w) : Any P md ops Q F S (n + 1) l a w :=
  takeL (deps md ops i) hi hD hu hF hs hf hr hQ hw hy hS h
/-- The one that comes up; behind it S stands. -/
theorem consS {i : Nat} {o : Oper} {n : Nat} {l : Array Bool} {a : Act} {w : World} (hi : ops[i]? = some o) (hr : Region.ready md ops l = [i])
    (h : ∀ K' : Act → World → Prop, Shut (∀ a w, S w → (S w → Any P md ops Q F S n (l.setIfInBounds i true) a w) → K' a w) → if Region.wanted o (yielded ops a.tmps) = true then Oper.wp P o a w K' Q else K' (a.put o.dst undef) w) : Any P md ops Q F S (n + 1) l a w := by
  refine ⟨fun h0 => (by rw [hr] at h0; cases h0), fun j hj => ?_⟩
  rw [hr] at hj
  obtain rfl := List.mem_singleton.1 hj
  have h1 := h (fun a' w' => (F.contains j = false → S w → S w') ∧ Any P md ops Q F S n (l.setIfInBounds j true) a' w') (fun a w hS hA => ⟨fun _ _ => hS, hA hS⟩)
  unfold wpOp
  simp only [hi]
  split <;> rename_i hw
  · rw [if_pos hw] at h1
    exact Or.inl h1
  · rw [if_neg hw] at h1
    exact h1
/-- One of the last writes that comes up. -/
theorem consF {i : Nat} {o : Oper} {n : Nat} {l : Array Bool} {a : Act} {w : World} (hi : ops[i]? = some o) (hr : Region.ready md ops l = [i]) (hF : F.contains i = true)
    (h : ∀ K' : Act → World → Prop, Shut (∀ a w, Any P md ops Q F S n (l.setIfInBounds i true) a w → K' a w) → if Region.wanted o (yielded ops a.tmps) = true then Oper.wp P o a w K' Q else K' (a.put o.dst undef) w) : Any P md ops Q F S (n + 1) l a w := by
  refine ⟨fun h0 => (by rw [hr] at h0; cases h0), fun j hj => ?_⟩
  rw [hr] at hj
  obtain rfl := List.mem_singleton.1 hj
  have h1 := h (fun a' w' => (F.contains j = false → S w → S w') ∧ Any P md ops Q F S n (l.setIfInBounds j true) a' w') (fun a w hA => ⟨fun hf => (by rw [hF] at hf; cases hf), hA⟩)
  unfold wpOp
  simp only [hi]
  split <;> rename_i hw
  · rw [if_pos hw] at h1
    exact Or.inl h1
  · rw [if_neg hw] at h1
    exact h1
theorem done {l : Array Bool} {a : Act} {w : World} (hr : Region.ready md ops l = []) (h : Q .normal a w) : ∀ n, Any P md ops Q F S n l a w
  | 0 => ⟨hr, h⟩
  | _ + 1 => ⟨fun _ => h, by rw [hr]; simp⟩
theorem start {id : Nat} {a : Act} {w : World} (F : List Nat) (S : World → Prop) (hm : P.follows .mixedOrders = true) (hS : S w.drew) (h : S w.drew → Any P .any ops Q F S ops.size (Array.replicate ops.size false) a w.drew) : (Code.region id ops true).wp P Q a w :=
  wp_region_any hm (Any.plain _ _ _ _ (h hS))
end
end Go.Proofs.YtfempghbkchepaaDoor.Hm
