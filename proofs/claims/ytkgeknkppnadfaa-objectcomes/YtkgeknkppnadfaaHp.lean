/- A region that draws, some of its operations making things in whatever order: what they leave, said once for each, whatever the order. Nothing of the program is in it. -/
import Derived.Test.YtkgeknkppnadfaaHl
namespace Go.Proofs.Ytkgeknkppnadfaa.Hp
open Go.RowKit
set_option linter.unusedVariables false
def put (l : Array Bool) (x : Nat × Bool) : Array Bool := if x.2 then l.setIfInBounds x.1 true else l
def lst (M : List Nat) (L : Array Bool) (fl : List Bool) : Array Bool := (M.zip fl).foldl put L
theorem set_comm (l : Array Bool) (i j : Nat) : (l.setIfInBounds i true).setIfInBounds j true = (l.setIfInBounds j true).setIfInBounds i true := by
  by_cases h : i = j
  · rw [h]
  · exact (Array.setIfInBounds_comm true true h)
theorem pull (z : List (Nat × Bool)) : ∀ (l : Array Bool) (i : Nat), z.foldl put (l.setIfInBounds i true) = (z.foldl put l).setIfInBounds i true := by
  induction z with
  | nil => intro l i; rfl
  | cons x z ih =>
    intro l i
    show z.foldl put (put (l.setIfInBounds i true) x) = (z.foldl put (put l x)).setIfInBounds i true
    unfold put
    split
    · rw [set_comm]; exact ih _ _
    · exact ih _ _
theorem lst_set : ∀ (M : List Nat) (fl : List Bool) (L : Array Bool) (k i : Nat), M[k]? = some i → fl[k]? = some false → lst M L (fl.set k true) = (lst M L fl).setIfInBounds i true
  | [], fl, L, k, i, h, _ => by simp at h
  | m :: M, [], L, k, i, _, h => by simp at h
  | m :: M, b :: fl, L, 0, i, h, h2 => by
    have e1 : m = i := by simpa using h
    have e2 : b = false := by simpa using h2
    subst e1 e2
    show (M.zip fl).foldl put (put L (m, true)) = ((M.zip fl).foldl put (put L (m, false))).setIfInBounds m true
    exact pull _ _ _
  | m :: M, b :: fl, L, k + 1, i, h, h2 => by
    have h' : M[k]? = some i := by simpa using h
    have h2' : fl[k]? = some false := by simpa using h2
    exact lst_set M fl (put L (m, b)) k i h' h2'
def flags : Nat → List (List Bool)
  | 0 => [[]]
  | n + 1 => (flags n).flatMap fun l => [false :: l, true :: l]
theorem mem_flags : ∀ (fl : List Bool), fl ∈ flags fl.length
  | [] => List.mem_singleton.2 rfl
  | b :: fl => by
    refine List.mem_flatMap.2 ⟨fl, mem_flags fl, ?_⟩
    cases b <;> simp
/-- Whichever of them are done, only others of them may come up, as long as there are any. -/
def okF (md : Region.Mode) (ops : Array Oper) (M : List Nat) (L : Array Bool) (fl : List Bool) : Bool :=
  fl.all id || (!(Region.ready md ops (lst M L fl)).isEmpty && (Region.ready md ops (lst M L fl)).all fun i => (List.range M.length).any fun k => M[k]? == some i && fl[k]? == some false)
def okM (md : Region.Mode) (ops : Array Oper) (M : List Nat) (L : Array Bool) : Bool := (flags M.length).all (okF md ops M L)
theorem okM_of {md : Region.Mode} {ops : Array Oper} {M : List Nat} {L : Array Bool} (h : okM md ops M L = true) {fl : List Bool} (hl : fl.length = M.length) (hn : ¬ fl.all id = true) : Region.ready md ops (lst M L fl) ≠ [] ∧ ∀ i ∈ Region.ready md ops (lst M L fl), ∃ k : Nat, M[k]? = some i ∧ fl[k]? = some false := by
  have h1 := List.all_eq_true.1 h fl (hl ▸ mem_flags fl)
  unfold okF at h1
  rw [Bool.or_eq_true] at h1
  rcases h1 with h1 | h1
  · exact absurd h1 hn
  · rw [Bool.and_eq_true] at h1
    refine ⟨fun e => by rw [e] at h1; simp at h1, fun i hi => ?_⟩
    have h2 := List.all_eq_true.1 h1.2 i hi
    obtain ⟨k, _, hk⟩ := List.any_eq_true.1 h2
    rw [Bool.and_eq_true, beq_iff_eq, beq_iff_eq] at hk
    exact ⟨k, hk.1, hk.2⟩
theorem count_set : ∀ (fl : List Bool) (k n : Nat), fl[k]? = some false → fl.count false = n + 1 → (fl.set k true).count false = n
  | [], k, n, h, _ => by simp at h
  | b :: fl, 0, n, h, hc => by
    have e : b = false := by simpa using h
    subst e
    rw [List.set_cons_zero]
    simp only [List.count_cons] at hc ⊢
    simpa using hc
  | b :: fl, k + 1, n, h, hc => by
    have h' : fl[k]? = some false := by simpa using h
    rw [List.set_cons_succ, List.count_cons]
    rw [List.count_cons] at hc
    cases b with
    | true => exact (by have := count_set fl k n h' (by simpa using hc); simpa using this)
    | false =>
      have hc' : fl.count false = n := by simpa using hc
      cases n with
      | zero =>
        exfalso
        have := List.count_eq_zero.1 hc'
        exact this (List.mem_of_getElem? h')
      | succ n => have := count_set fl k n h' hc'; simpa using this
theorem all_of_count : ∀ (fl : List Bool), fl.count false = 0 → fl = List.replicate fl.length true
  | [], _ => rfl
  | b :: fl, h => by
    rw [List.count_cons] at h
    cases b with
    | false => simp at h
    | true =>
      have := all_of_count fl (by simpa using h)
      rw [List.length_cons, List.replicate_succ, ← this]
/-- Makers in whatever order. -/
theorem phase {P : Program} {ops : Array Oper} {Q : Exit → Act → World → Prop} {md : Region.Mode} {S : World → Prop} (M : List Nat) (L : Array Bool) (fuel : Nat) (Inv : List Bool → Act → World → Prop) (hok : okM md ops M L = true)
    (step : ∀ (k i : Nat) (fl : List Bool) (a : Act) (w : World), fl.length = M.length → M[k]? = some i → fl[k]? = some false → S w → Inv fl a w → wpOp P ops Q i (fun a' w' => S w' ∧ Inv (fl.set k true) a' w') a w)
    (fin : ∀ (a : Act) (w : World), S w → Inv (List.replicate M.length true) a w → wpAnyH P md ops Q S fuel (lst M L (List.replicate M.length true)) a w) :
    ∀ (n : Nat) (fl : List Bool) (a : Act) (w : World), fl.length = M.length → fl.count false = n → S w → Inv fl a w → wpAnyH P md ops Q S (fuel + n) (lst M L fl) a w := by
  intro n
  induction n with
  | zero =>
    intro fl a w hl hc hS hI
    have e := all_of_count fl hc
    rw [hl] at e
    rw [e] at hI ⊢
    exact fin a w hS hI
  | succ n ih =>
    intro fl a w hl hc hS hI
    have hn : ¬ fl.all id = true := fun h => by
      have h0 : fl.count false = 0 := List.count_eq_zero.2 (fun hm => by have := List.all_eq_true.1 h _ hm; cases this)
      omega
    obtain ⟨h1, h2⟩ := okM_of hok hl hn
    refine ⟨fun h => absurd h h1, fun i hi => ?_⟩
    obtain ⟨k, hk, hf⟩ := h2 i hi
    refine wpOp_mono (fun a' w' h => ⟨h.1, ?_⟩) (step k i fl a w hl hk hf hS hI)
    rw [← lst_set M fl L k i hk hf]
    exact ih (fl.set k true) a' w' (by rw [List.length_set]; exact hl) (count_set fl k n hf hc) h.1 h.2
/-- All of them from the start on. -/
theorem begin_ {P : Program} {ops : Array Oper} {Q : Exit → Act → World → Prop} {md : Region.Mode} {S : World → Prop} {a : Act} {w : World} {L : Array Bool} (M : List Nat) (fuel n : Nat) (Inv : List Bool → Act → World → Prop) (hn : n = fuel + M.length) (hok : okM md ops M L = true) (hS : S w) (hI : Inv (List.replicate M.length false) a w)
    (step : ∀ (k i : Nat) (fl : List Bool) (a : Act) (w : World), fl.length = M.length → M[k]? = some i → fl[k]? = some false → S w → Inv fl a w → wpOp P ops Q i (fun a' w' => S w' ∧ Inv (fl.set k true) a' w') a w)
    (fin : ∀ (a : Act) (w : World), S w → Inv (List.replicate M.length true) a w → wpAnyH P md ops Q S fuel (lst M L (List.replicate M.length true)) a w) : wpAnyH P md ops Q S n L a w := by
  have e : lst M L (List.replicate M.length false) = L := by
    have : ∀ (M : List Nat) (L : Array Bool) (m : Nat), (M.zip (List.replicate m false)).foldl put L = L := by
      intro M
      induction M with
      | nil => intro L m; rfl
      | cons x M ih =>
        intro L m
        cases m with
        | zero => rfl
        | succ m => rw [List.replicate_succ]; exact ih L m
    exact this M L _
  have h := phase M L fuel Inv hok step fin M.length (List.replicate M.length false) a w (List.length_replicate ..) (by rw [List.count_replicate]; simp) hS hI
  rw [e, ← hn] at h
  exact h
/-- A step, the operation at hand. -/
theorem step_ {P : Program} {ops : Array Oper} {Q : Exit → Act → World → Prop} {i : Nat} {o : Oper} {a : Act} {w : World} {J : Act → World → Prop} (ho : ops[i]? = some o)
    (h : ∀ K' : Act → World → Prop, Shut (∀ a w, J a w → K' a w) → if Region.wanted o (yielded ops a.tmps) = true then Oper.wp P o a w K' Q else K' (a.put o.dst undef) w) : wpOp P ops Q i J a w := wpOp_step ho (fun K' hK => h K' hK)
end Go.Proofs.Ytkgeknkppnadfaa.Hp
